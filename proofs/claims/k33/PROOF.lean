import PyProof.Rows.All
import Wide.All
import OpenK.AllK
import Wide.FinOn
import Lean
import PyProof.EqAt
import PyProof.EqKinds
import PyProof.TupleCall
import PySem.Challenge.RW_troupe_k33_whole_fewest_with_trees
set_option Elab.async false
set_option genSizeOf false
set_option bootstrap.genMatcherCode false
set_option compiler.extract_closed false
set_option genSizeOfSpec false
set_option linter.all false
set_option maxRecDepth 100000
namespace K33
theorem both1 {a b:Bool} (h:(a && b) = true):a = true:=(Bool.and_eq_true_iff.mp h).1
theorem both2 {a b:Bool} (h:(a && b) = true):b = true:=(Bool.and_eq_true_iff.mp h).2
noncomputable def vw:PySem.Program:=PySem.W.view PySem.Challenge.pw_troupe_k33_whole_fewest_with_trees [1,2,3,4,5,7,8,9,10,11,12,13,14,16,17,18,19,20,21,22,23,24,25]
end K33
section
open PySem PySem.W PyProof.Rows
set_option maxHeartbeats 0
local macro_rules
  | `(tactic| o_head $H)=>`(tactic| (
    apply holds_open (N:=4100) (q:=K33.vw) (loose:=[])
      (Yf:=($H).obs) (Ya:=($H).val) (YP:=($H).says)
      (XP:=XL K33.vw []) (Xt:=fun s=>xlAt K33.vw [] s && recOk (PySem.Challenge.rw_troupe_k33_whole_fewest_with_trees.row.toRowW).records s)
      (by intro w;kernel_rfl) ($H).of ($H).keeps
      (fun s e=>xl_of s (K33.both1 e)) XL.keeps
      rfl rfl rfl
      (fun s e=>recFacts_of (K33.both2 e))
      rfl (by assumption) (by decide +kernel)
      (by refine ⟨rfl,rfl,rfl,rfl,rfl,?_⟩;decide +kernel)))
open_top K33.hd for PySem.Challenge.rw_troupe_k33_whole_fewest_with_trees
end
set_option Elab.async false
set_option linter.all false
set_option maxRecDepth 100000
namespace L2
open PySem PySem.Spec PyProof.Rows
noncomputable abbrev Key:=Sum Int Str
noncomputable def keyIs:Key → Value → Bool
  | .inl k,v=>Value.isInt k v
  | .inr x,v=>Value.isStrOf x v
noncomputable def keyH (w:World):Key → Int
  | .inl k=>hashInt k
  | .inr x=>hashStr w x
theorem keyIs_shape:∀ {k:Key} {v:Value},keyIs k v = true → (∃ i t,k = Sum.inl i ∧ v = Value.int i t) ∨ (∃ x t,k = Sum.inr x ∧ v = Value.str x t)
  | .inl i,v,h=>by
    obtain ⟨t,e⟩:=Value.isInt_shape (k:=i) (v:=v) h
    exact .inl ⟨i,t,rfl,e⟩
  | .inr x,v,h=>by
    obtain ⟨t,e⟩:=Value.isStrOf_shape (x:=x) (v:=v) h
    exact .inr ⟨x,t,rfl,e⟩
theorem keyIs_int (i:Int) (t:Tok):keyIs (.inl i) (.int i t) = true:=by simp [keyIs,Value.isInt]
theorem keyIs_str (x:Str) (t:Tok):keyIs (.inr x) (.str x t) = true:=by simp [keyIs,Value.isStrOf]
theorem key_ll (a b:Int):decide ((Sum.inl a:Key) = Sum.inl b) = (a == b):=by
  by_cases e:a = b
  · subst e;simp
  · have h:¬ (Sum.inl a:Key) = Sum.inl b:=fun q=>e (Sum.inl.inj q)
    rw [decide_eq_false h]
    exact (beq_eq_false_iff_ne.mpr e).symm
theorem key_rr (a b:Str):decide ((Sum.inr a:Key) = Sum.inr b) = decide (a = b):=by
  by_cases e:a = b
  · subst e;simp
  · have h:¬ (Sum.inr a:Key) = Sum.inr b:=fun q=>e (Sum.inr.inj q)
    rw [decide_eq_false h,decide_eq_false e]
theorem key_lr (a:Int) (b:Str):decide ((Sum.inl a:Key) = Sum.inr b) = false:=decide_eq_false (fun q=>nomatch q)
theorem key_rl (a:Str) (b:Int):decide ((Sum.inr a:Key) = Sum.inl b) = false:=decide_eq_false (fun q=>nomatch q)
noncomputable def mixKind (prog:Program) (w:World):PySem.KeyKind prog w Key where
  is:=keyIs
  hash:=keyH w
  inj:=fun v a b ha hb=>by
    rcases keyIs_shape ha with ⟨i,t,rfl,rfl⟩ | ⟨x,t,rfl,rfl⟩
    · rcases keyIs_shape hb with ⟨j,u,rfl,e⟩ | ⟨y,u,rfl,e⟩
      · injection e with e1 _;rw [e1]
      · exact nomatch e
    · rcases keyIs_shape hb with ⟨j,u,rfl,e⟩ | ⟨y,u,rfl,e⟩
      · exact nomatch e
      · injection e with e1 _;rw [e1]
  byValue:=fun k v h=>by
    rcases keyIs_shape h with ⟨i,t,rfl,rfl⟩ | ⟨x,t,rfl,rfl⟩ <;> rfl
  pyHash:=fun hv h=>by
    rcases keyIs_shape hv with ⟨i,t,rfl,rfl⟩ | ⟨x,t,rfl,rfl⟩
    · exact wpAny_pyHash_int h
    · exact wpAny_pyHash_str h
  eqBool:=fun hu hv h=>by
    rcases keyIs_shape hu with ⟨i,t,rfl,rfl⟩ | ⟨x,t,rfl,rfl⟩
    · rcases keyIs_shape hv with ⟨j,u,rfl,rfl⟩ | ⟨y,u,rfl,rfl⟩
      · rw [key_ll] at h;exact wpAny_eqBool_int h
      · rw [key_lr] at h;exact SeqAt.EqAt.int_str i t y u _ _ _ _ h
    · rcases keyIs_shape hv with ⟨j,u,rfl,rfl⟩ | ⟨y,u,rfl,rfl⟩
      · rw [key_rl] at h;exact SeqAt.EqAt.str_int x t j u _ _ _ _ h
      · rw [key_rr] at h;exact wpAny_eqBool_str h
  «strs»:=fun k x t v h=>by
    rcases keyIs_shape h with ⟨i,u,rfl,e⟩ | ⟨y,u,rfl,e⟩
    · exact nomatch e
    · injection e with e1 _
      subst e1
      cases v <;> rfl
theorem mixKind_int (prog:Program) (w:World) (i:Int) (t:Tok):(mixKind prog w).is (.inl i) (.int i t) = true:=keyIs_int i t
theorem mixKind_str (prog:Program) (w:World) (x:Str) (t:Tok):(mixKind prog w).is (.inr x) (.str x t) = true:=keyIs_str x t
end L2
namespace L2
open PySem PySem.Spec PyProof.Rows
inductive V where
  | non | bl (b:Bool) | int (i:Int) | str (x:Str) | byt (b:Array UInt8) | flt (b:UInt64) | ref (a:Addr) | ty (n:String)
  deriving DecidableEq
noncomputable def RelV:V → Value → Prop
  | .non,u=>u = Value.none
  | .bl b,u=>u = Value.bool b
  | .int i,u=>∃ t,u = Value.int i t
  | .str x,u=>∃ t,u = Value.str x t
  | .byt b,u=>∃ t,u = Value.bytes b t
  | .flt b,u=>∃ t,u = Value.float b t
  | .ref a,u=>u = Value.ref a
  | .ty n,u=>u = Value.type n
noncomputable abbrev Vals:List V → List Value → Prop:=Paired RelV
theorem Vals.length {xs:List V} {us:List Value} (r:Vals xs us):xs.length = us.length:=Paired.length r
theorem Vals.get:∀ {xs:List V} {us:List Value} {i:Nat} {x:V},Vals xs us → xs[i]? = some x → ∃ u,us[i]? = some u ∧ RelV x u
  | _,_,_,_,.nil,e=>by simp at e
  | _,_,0,_,.cons r _,e=>by simp at e;subst e;exact ⟨_,rfl,r⟩
  | _,_,i + 1,x,.cons _ t,e=>by
    obtain ⟨u,h1,h2⟩:=Vals.get (i:=i) (x:=x) t (by simpa using e)
    exact ⟨u,by simpa using h1,h2⟩
theorem Vals.append:∀ {xs ys:List V} {us ws:List Value},Vals xs us → Vals ys ws → Vals (xs ++ ys) (us ++ ws)
  | _,_,_,_,.nil,s=>s
  | _,_,_,_,.cons r t,s=>.cons r (Vals.append t s)
theorem Vals.take:∀ {xs:List V} {us:List Value} (n:Nat),Vals xs us → Vals (xs.take n) (us.take n)
  | _,_,0,_=>.nil
  | _,_,_ + 1,.nil=>.nil
  | _,_,n + 1,.cons r t=>.cons r (Vals.take n t)
theorem Vals.drop:∀ {xs:List V} {us:List Value} (n:Nat),Vals xs us → Vals (xs.drop n) (us.drop n)
  | _,_,0,r=>r
  | _,_,_ + 1,.nil=>.nil
  | _,_,n + 1,.cons _ t=>Vals.drop n t
noncomputable def RelO:Option V → Option Value → Prop
  | some v,some u=>RelV v u
  | none,none=>True
  | _,_=>False
noncomputable def KV {κ:Type}:List (κ × V) → List (κ × Value) → Prop:=Paired fun (p:κ × V) (q:κ × Value)=>p.1 = q.1 ∧ RelV p.2 q.2
noncomputable def kV:Key → V
  | .inl i=>.int i
  | .inr x=>.str x
inductive HO where
  | lst (xs:List V)
  | tup (xs:List V)
  | dK (kvs:List (Key × V)) | dT (kvs:List (List Key × V))
  | set (S:Int → Bool) (n:Nat)
  | ins (C dx:Addr) (fs:List (Str × V))
  | own (x:Addr)
  | xd (fs:List (Str × V))
  | met (f x:Addr)
  | rng (lo hi:Int)
  | frz (o:Obj) (u:HO)
  | tbl (ps:Array Value)
  | ext (φ:Heap → Prop)
noncomputable abbrev Hp:=Addr → Option HO
noncomputable def upd (H:Hp) (a:Addr) (o:HO):Hp:=fun b=>if b = a then some o else H b
theorem upd_same {H:Hp} {a:Addr} {o:HO}:upd H a o a = some o:=by unfold upd;rw [if_pos rfl]
theorem upd_ne {H:Hp} {a b:Addr} {o:HO} (h:b ≠ a):upd H a o b = H b:=by unfold upd;rw [if_neg h]
theorem ne_of {H:Hp} {a b:Addr} {o u:HO} (h:H a = some o) (h':H b = some u) (d:o ≠ u):a ≠ b:=by
  intro e;subst e;rw [h] at h';exact d (Option.some.inj h')
theorem ne_of_none {H:Hp} {a b:Addr} {o:HO} (h:H a = some o) (h':H b = none):a ≠ b:=by
  intro e;subst e;rw [h] at h';cases h'
section
variable (P:Program) (w:World)
noncomputable def ObjOk (H:Hp) (h:Heap) (a:Addr):HO → Prop
  | .lst xs=>xs.length ≤ sizeLine ∧ ∃ (its:List Value) (n:Nat),Vals xs its ∧ h.get? a = some { cls:=.type "list", data:=.seq its.toArray n }
  | .tup xs=>xs.length ≤ sizeLine ∧ ∃ its:List Value,Vals xs its ∧ IsTup h a its.toArray
  | .dK kvs=>kvs.length ≤ sizeLine ∧ (a == sysModules) = false ∧ ∃ vs,KV kvs vs ∧ h.DictOf (mixKind P w) a vs
  | .dT kvs=>kvs.length ≤ sizeLine ∧ (a == sysModules) = false ∧ ∃ xs:List (List Key × Addr × Value),
      Paired (fun (p:List Key × V) (q:List Key × Addr × Value)=>p.1 = q.1 ∧ H q.2.1 = some (.tup (p.1.map kV)) ∧ RelV p.2 q.2.2) kvs xs ∧
      ∃ o es ep,h.get? a = some o ∧ o.ExactDict ∧ o.data = .dict es ep ∧ es.toList = xs.map (entryOfKey (tupleKind (mixKind P w))) ∧ (xs.map (·.1)).Nodup
  | .set S n=>h.SetOf (intKind P w) a S n
  | .ins C dx fs=>H dx = some (.own a) ∧ fs.length ≤ 1000 ∧ dx ≠ a ∧ h.get? a = some (PySem.W.instObj C dx) ∧
      ∃ mA,h.Ns1 dx mA ∧ (∀ f,RelO (fs.lookup f) (mA f)) ∧ PySem.Within mA (fs.map (·.1))
  | .own _=>∃ o,h.get? a = some o
  | .xd fs=>∃ mA,h.Ns1 a mA ∧ ∀ f,RelO (fs.lookup f) (mA f)
  | .rng lo hi=>∃ t u v,h.get? a = some { cls:=.type "range", data:=.fields #[.int lo t,.int hi u,.int 1 v] }
  | .frz o u=>h.get? a = some o ∧ ObjOk H h a u
  | .tbl ps=>h.get? a = some { cls:=.none,data:=.fields ps }
  | .met f x=>h.get? a = some (PySem.W.methodObj (.ref f) (.ref x))
  | .ext φ=>φ h ∧ (∃ o,h.get? a = some o) ∧ ∀ h1 h2:Heap,φ h1 → (∀ o,h1.get? a = some o → h2.get? a = some o) → φ h2
noncomputable def HOk (H:Hp) (h:Heap):Prop:=∀ a o,H a = some o → ObjOk P w H h a o
end
section
variable {P:Program} {w:World} {H H':Hp} {h h':Heap} {a:Addr} {o:HO}
theorem ObjOk.lt (x:ObjOk P w H h a o):a < h.objs.size:=by
  cases o with
  | lst xs=>obtain ⟨_,_,_,_,e⟩:=x;exact Heap.lt_size e
  | tup xs=>obtain ⟨_,_,_,p⟩:=x;exact p.lt
  | dK kvs=>obtain ⟨_,_,_,_,o,_,_,e,_⟩:=x;exact Heap.lt_size e
  | dT kvs=>obtain ⟨_,_,_,_,o,_,_,e,_⟩:=x;exact Heap.lt_size e
  | set S n=>obtain ⟨o,_,_,_,e,_⟩:=x;exact Heap.lt_size e
  | ins C dx fs=>obtain ⟨_,_,_,e,_⟩:=x;exact Heap.lt_size e
  | own y=>obtain ⟨_,e⟩:=x;exact Heap.lt_size e
  | xd fs=>obtain ⟨_,⟨_,_,_,e,_⟩,_⟩:=x;exact Heap.lt_size e
  | rng lo hi=>obtain ⟨_,_,_,e⟩:=x;exact Heap.lt_size e
  | frz ob u=>obtain ⟨e,_⟩:=x;exact Heap.lt_size e
  | tbl ps=>exact Heap.lt_size (show h.get? a = some _ from x)
  | met f y=>exact Heap.lt_size (show h.get? a = some _ from x)
  | ext φ=>obtain ⟨_,⟨_,e⟩,_⟩:=x;exact Heap.lt_size e
theorem Paired.mapP {α β:Type} {F G:α → β → Prop}:∀ {l₁:List α} {l₂:List β},Paired F l₁ l₂ → (∀ a b,F a b → G a b) → Paired G l₁ l₂
  | _,_,.nil,_=>.nil
  | _,_,.cons r t,f=>.cons (f _ _ r) (Paired.mapP t f)
theorem ObjOk.stay (x:ObjOk P w H h a o) (k:∀ b u,(b = a ∨ H b = some (.own a)) → h.get? b = some u → h'.get? b = some u)
    (ho:∀ b,H b = some (.own a) → H' b = some (.own a)) (ht:∀ b xs,H b = some (.tup xs) → H' b = some (.tup xs)):ObjOk P w H' h' a o:=by
  induction o with
  | lst xs=>obtain ⟨z,its,n,r,e⟩:=x;exact ⟨z,its,n,r,k _ _ (.inl rfl) e⟩
  | tup xs=>obtain ⟨z,its,r,ob,e,c⟩:=x;exact ⟨z,its,r,ob,k _ _ (.inl rfl) e,c⟩
  | dK kvs=>obtain ⟨z,y,vs,r,ob,es,ep,e,c⟩:=x;exact ⟨z,y,vs,r,ob,es,ep,k _ _ (.inl rfl) e,c⟩
  | dT kvs =>
    obtain ⟨z,y,xs,r,ob,es,ep,e,c⟩:=x
    exact ⟨z,y,xs,Paired.mapP r fun p q z=>⟨z.1,ht _ _ z.2.1,z.2.2⟩,ob,es,ep,k _ _ (.inl rfl) e,c⟩
  | set S n=>obtain ⟨ob,es,ep,t,e,c⟩:=x;exact ⟨ob,es,ep,t,k _ _ (.inl rfl) e,c⟩
  | ins C dx fs =>
    obtain ⟨d,z,ne,e,mA,⟨od,es,ep,e2,c⟩,r⟩:=x
    exact ⟨ho _ d,z,ne,k _ _ (.inl rfl) e,mA,⟨od,es,ep,k _ _ (.inr d) e2,c⟩,r⟩
  | own y=>obtain ⟨ob,e⟩:=x;exact ⟨ob,k _ _ (.inl rfl) e⟩
  | xd fs=>obtain ⟨mA,⟨od,es,ep,e,c⟩,r⟩:=x;exact ⟨mA,⟨od,es,ep,k _ _ (.inl rfl) e,c⟩,r⟩
  | rng lo hi=>obtain ⟨t,u,v,e⟩:=x;exact ⟨t,u,v,k _ _ (.inl rfl) e⟩
  | frz ob u ih=>obtain ⟨e,q⟩:=x;exact ⟨k _ _ (.inl rfl) e,ih q⟩
  | tbl ps =>
    have e:h.get? a = some { cls:=.none,data:=.fields ps }:=x
    show h'.get? a = some { cls:=.none,data:=.fields ps }
    exact k a _ (.inl rfl) e
  | met f y =>
    have e:h.get? a = some (PySem.W.methodObj (.ref f) (.ref y)):=x
    show h'.get? a = some (PySem.W.methodObj (.ref f) (.ref y))
    exact k a _ (.inl rfl) e
  | ext φ=>obtain ⟨p,⟨o,e⟩,st⟩:=x;exact ⟨st _ _ p fun o q=>k _ _ (.inl rfl) q,⟨o,k _ _ (.inl rfl) e⟩,st⟩
theorem HOk.lt (x:HOk P w H h) (e:H a = some o):a < h.objs.size:=(x a o e).lt
theorem HOk.fresh (x:HOk P w H h) (e:h.objs.size ≤ a):H a = none:=by
  cases q:H a with
  | none=>rfl
  | some u=>exact absurd (Nat.lt_of_lt_of_le (x.lt q) e) (Nat.lt_irrefl _)
theorem HOk.kept (x:HOk P w H h) (k:∀ b u,h.get? b = some u → h'.get? b = some u):HOk P w H h':=fun a o e =>
  (x a o e).stay (fun b u _ q=>k b u q) (fun _ q=>q) fun _ _ q=>q
theorem HOk.laid (x:HOk P w H h) (k:∀ b u,h.get? b = some u → h'.get? b = some u) (hp:h.objs.size ≤ a) (new:ObjOk P w (upd H a o) h' a o):HOk P w (upd H a o) h':=fun b u e=>by
  have hn:=x.fresh hp
  by_cases hb:b = a
  · subst hb;rw [upd_same] at e;cases e;exact new
  · rw [upd_ne hb] at e
    exact (x b u e).stay (fun c v _ q=>k c v q) (fun c q=>by rw [upd_ne (ne_of_none q hn)];exact q) fun c xs q=>by rw [upd_ne (ne_of_none q hn)];exact q
end
noncomputable def Rd (H:Hp) (a:Addr) (u:HO):Prop:=H a = some u ∨ ∃ o,H a = some (.frz o u)
theorem Rd.ok {P:Program} {w:World} {H:Hp} {h:Heap} {a:Addr} {u:HO} (r:Rd H a u) (x:HOk P w H h):ObjOk P w H h a u:=by
  rcases r with r | ⟨o,r⟩
  · exact x a u r
  · obtain ⟨_,q⟩:=x a _ r
    exact q
noncomputable def Mut:Option HO → Prop
  | some (.lst _)=>True
  | some (.dK _)=>True
  | some (.dT _)=>True
  | some (.set _ _)=>True
  | some (.ins _ _ _)=>True
  | some (.ext _)=>True
  | _=>False
section
variable {P:Program} {w:World} {H:Hp} {h h':Heap} {x e:Addr} {o':HO}
theorem HOk.write (ok:HOk P w H h) (mu:Mut (H x)) (he:e = x ∨ H e = some (.own x)) (k:∀ b u,b ≠ e → h.get? b = some u → h'.get? b = some u) (heo:∃ u,h'.get? e = some u)
    (new:ObjOk P w (upd H x o') h' x o'):HOk P w (upd H x o') h':=fun b u q=>by
  have nown:∀ c y,H c = some (.own y) → c ≠ x:=fun c y r z=>by subst z;rw [r] at mu;exact mu
  have ntup:∀ c xs,H c = some (.tup xs) → c ≠ x:=fun c xs r z=>by subst z;rw [r] at mu;exact mu
  by_cases hb:b = x
  · subst hb;rw [upd_same] at q;cases q;exact new
  · rw [upd_ne hb] at q
    by_cases hbe:b = e
    · have q':H b = some (.own x):=by
        rcases he with z | z
        · exact absurd (hbe.trans z) hb
        · rw [hbe];exact z
      rw [q] at q';cases q'
      obtain ⟨v,hv⟩:=heo
      exact ⟨v,by rw [hbe];exact hv⟩
    · refine (ok b u q).stay (fun c v hc r=>k c v ?_ r) (fun c r=>by rw [upd_ne (nown c b r)];exact r) fun c xs r=>by rw [upd_ne (ntup c xs r)];exact r
      rcases hc with rfl | hc
      · exact hbe
      · rintro rfl
        rcases he with z | z
        · exact nown c b hc z
        · rw [hc] at z;cases z;exact hb rfl
end
set_option genInjectivity false in
structure Un (fs ex:List Addr) (H H':Hp) (h h':Heap):Prop where
  keep:∀ b o,h.get? b = some o → H b = none → b ∉ fs → b ∉ ex → h'.get? b = some o
  slot:∀ b o,h.get? b = some o → H b = none → b ∈ fs → b ∉ ex → ∃ sl,h'.get? b = some { o with slots:=sl }
  free:∀ b o,h.get? b = some o → H b = none → b ∉ ex → H' b = none
  there:∀ b o,h.get? b = some o → b ∉ ex → ∃ o',h'.get? b = some o'
  tups:∀ b xs,H b = some (.tup xs) → H' b = some (.tup xs)
  frzs:∀ b o u,H b = some (.frz o u) → H' b = some (.frz o u)
  tbls:∀ b ps,H b = some (.tbl ps) → ∃ more,H' b = some (.tbl (ps ++ more))
section
variable {fs fs' ex ex':List Addr} {H H1 H2:Hp} {h h1 h2 h':Heap} {a x e:Addr} {o:HO}
theorem Un.any (u:Un fs ex H H1 h h1) {b:Addr} {ob:Obj} (q:h.get? b = some ob) (n:H b = none) (hx:b ∉ ex):∃ sl,h1.get? b = some { ob with slots:=sl }:=by
  by_cases hb:b ∈ fs
  · exact u.slot b ob q n hb hx
  · exact ⟨ob.slots,u.keep b ob q n hb hx⟩
theorem Un.kept (k:∀ b u,h.get? b = some u → h'.get? b = some u):Un fs ex H H h h' :=
  ⟨fun b ob q _ _ _=>k b ob q,fun b ob q _ _ _=>⟨ob.slots,k b ob q⟩,fun _ _ _ n _=>n,fun b ob q _=>⟨ob,k b ob q⟩,fun _ _ q=>q,fun _ _ _ q=>q,fun _ ps q=>⟨#[],by rw [q];simp⟩⟩
theorem Un.refl:Un fs ex H H h h:=Un.kept fun _ _ q=>q
theorem Un.laid (k:∀ b u,h.get? b = some u → h'.get? b = some u) (hp:h.objs.size ≤ a) (hn:H a = none):Un fs ex H (upd H a o) h h' where
  keep:=fun b u q _ _ _=>k b u q
  slot:=fun b u q _ _ _=>⟨u.slots,k b u q⟩
  free:=fun b u q n _=>by rw [upd_ne (Nat.ne_of_lt (Nat.lt_of_lt_of_le (Heap.lt_size q) hp))];exact n
  there:=fun b u q _=>⟨u,k b u q⟩
  tups:=fun b xs q=>by rw [upd_ne (ne_of_none q hn)];exact q
  frzs:=fun b u xs q=>by rw [upd_ne (ne_of_none q hn)];exact q
  tbls:=fun b ps q=>⟨#[],by rw [upd_ne (ne_of_none q hn),q];simp⟩
theorem Un.write (mu:Mut (H x)) (he:e = x ∨ H e = some (.own x)) (k:∀ b u,b ≠ e → h.get? b = some u → h'.get? b = some u) (heo:∃ u,h'.get? e = some u):Un fs ex H (upd H x o) h h':=by
  have hx:∀ b,H b = none → b ≠ x:=fun b n z=>by subst z;rw [n] at mu;exact mu
  have hb:∀ b,H b = none → b ≠ e:=fun b n z=>by
    subst z
    rcases he with r | r
    · exact hx b n r
    · rw [n] at r;cases r
  have hm:∀ b u,H b = some u → ¬ Mut (some u) → b ≠ x:=fun b u q nm z=>by subst z;rw [q] at mu;exact nm mu
  refine ⟨fun b u q n _ _=>k b u (hb b n) q,fun b u q n _ _=>⟨u.slots,k b u (hb b n) q⟩,fun b u q n _=>by rw [upd_ne (hx b n)];exact n,fun b u q _=>?_,
    fun b xs q=>by rw [upd_ne (hm b _ q fun z=>z)];exact q,fun b u xs q=>by rw [upd_ne (hm b _ q fun z=>z)];exact q,fun b ps q=>⟨#[],by rw [upd_ne (hm b _ q fun z=>z),q];simp⟩⟩
  by_cases hbe:b = e
  · subst hbe;exact heo
  · exact ⟨u,k b u hbe q⟩
end
noncomputable def trk (h:Heap) (H:Hp):List Addr:=(List.range h.objs.size).filter fun a=>(H a).isSome
noncomputable def hidT (h:Heap) (H:Hp):Heap:=PySem.W.hideAll h (trk h H)
theorem hidT_size (h:Heap) (H:Hp):(hidT h H).objs.size = h.objs.size:=PySem.W.hideAll_size _ _
theorem hidT_get {h:Heap} {H:Hp} {b:Addr} {o:Obj} (e:h.get? b = some o) (n:H b = none):(hidT h H).get? b = some o :=
  PySem.W.hideAll_get _ e fun hm=>by
    have q:(H b).isSome = true:=(List.mem_filter.mp hm).2
    rw [n] at q;simp at q
theorem of_hidT {h:Heap} {H:Hp} {b:Addr} {o:Obj} (e:(hidT h H).get? b = some o):h.get? b = some o ∧ H b = none:=by
  have e':h.get? b = some o:=PySem.W.of_hideAll (trk h H) e
  refine ⟨e',?_⟩
  cases q:H b with
  | none=>rfl
  | some x =>
    have hm:b ∈ trk h H:=List.mem_filter.mpr ⟨List.mem_range.mpr (Heap.lt_size e'),by simp [q]⟩
    have z:(hidT h H).get? b = none:=PySem.W.hideAll_none (trk h H) hm
    rw [z] at e;cases e
end L2
namespace L2
open PySem PySem.Spec PyProof.Rows
set_option genInjectivity false in
structure Mod (K:PySem.W.Frag) (mg:Str → Option Value) (base:Heap):Prop where
  kin:K.In base
  glob:base.Ns mainGlobals mg
  blt:∃ mb,base.Ns builtinsNs mb ∧ ∀ x:Str,x ≠ "__name__" → mb x = bootBuiltins x
  nolimit:base.NoLimit
set_option genInjectivity false in
structure Cx where
  prog:Program
  w:World
  K:PySem.W.Frag
  mg:Str → Option Value
  base:Heap
  A:Around
  N:List Str
  s₀:Shared
  H₀:Hp
  env:Env
  outer:List Env
  stack:List Env
  ex:List Addr
  fn:Str → Bool
  calm:Bool
  pn:List (Addr × Obj)
  xe:Value → Shared → Prop
noncomputable def frs (l:List Env):List Addr:=l.filterMap (·.frame)
noncomputable abbrev Cx.fs (X:Cx):List Addr:=frs X.outer
noncomputable def Vis (sc:Scope) (x:Str):Prop:=sc.names.lookup x = some .local ∨ sc.names.lookup x = some .cell ∨ sc.names.lookup x = some .free
noncomputable def Loc (sc:Scope) (x:Str):Prop:=sc.names.lookup x = some .local ∨ sc.names.lookup x = some .cell
noncomputable def Look (env:Env) (h:Heap) (m:Str → Option Value) (x:Str) (u:Value):Prop :=
  (env.kindOf x = some .local ∧ m x = some u) ∨ ((env.kindOf x = some .cell ∨ env.kindOf x = some .free) ∧ ∃ c,env.cells.lookup x = some c ∧ h.IsCell c (some u))
set_option genInjectivity false in
structure Cx.Ok (X:Cx):Prop where
  mod:Mod X.K X.mg X.base
  kind:X.env.scope.kind = .function
  glob:X.env.globals = mainGlobals
  blt:X.env.builtins = builtinsNs
  above:X.s₀.heap.objs.size ≤ X.env.locals
  inj:∀ x y c,X.env.cells.lookup x = some c → X.env.cells.lookup y = some c → x = y
  has:∀ x,(X.env.kindOf x = some .cell ∨ X.env.kindOf x = some .free) → ∃ c,X.env.cells.lookup x = some c
  cab:∀ x c,X.fn x = true → X.env.cells.lookup x = some c → X.s₀.heap.objs.size ≤ c
  hd:X.calm = true → X.A.handled = none
  frames:X.A.frames = some X.stack
  stk:X.stack = X.outer ∨ (X.stack = X.env :: X.outer ∧ X.env.frame = some X.env.locals)
  exf:∀ b ∈ X.ex,b ≠ X.env.locals ∧ ∀ x c,X.env.cells.lookup x = some c → c ≠ b
  bs:∀ b o,X.base.get? b = some o → X.s₀.heap.get? b = some o ∧ X.H₀ b = none
  bsz:X.base.objs.size ≤ X.s₀.heap.objs.size
  noex:∀ b o,X.base.get? b = some o → b ∉ X.ex
  exfs:∀ b ∈ X.ex,b ∉ X.fs
  funs:X.s₀.heap.FunFrames X.base X.outer
  frf:∀ b ∈ X.fs,X.H₀ b = none
set_option genInjectivity false in
structure Inv (X:Cx) (pins:List (Addr × Obj)) (σ:List (Option V)) (H:Hp) (s:Shared):Prop where
  ok:X.Ok
  os:s.os = X.s₀.os
  bare:AllBare s.gens
  base:Un X.fs X.ex X.H₀ H X.s₀.heap s.heap
  loc:∃ m,s.heap.Ns X.env.locals m ∧ ∀ (i:Nat) (x:Str) (v:V),X.N[i]? = some x → σ[i]? = some (some v) → Vis X.env.scope x → ∃ u,RelV v u ∧ Look X.env s.heap m x u
  cell:∀ x c,X.env.cells.lookup x = some c → ∃ v,s.heap.IsCell c v
  free:H X.env.locals = none
  freeC:∀ x c,X.env.cells.lookup x = some c → H c = none
  pin:∀ p ∈ X.pn ++ pins,s.heap.get? p.1 = some p.2 ∧ H p.1 = none ∧ p.1 ≠ X.env.locals ∧ p.1 ∉ X.fs ∧ ∀ v,p.2.data ≠ .cell v
  hok:HOk X.prog X.w H s.heap
  len:σ.length = X.N.length
section
variable {X:Cx} {pins:List (Addr × Obj)} {σ:List (Option V)} {H H':Hp} {s:Shared} {h':Heap}
theorem Cx.Ok.nofr (ok:X.Ok) {b:Addr} {o:Obj} (e:X.base.get? b = some o):b ∉ X.fs:=fun hb=>by
  have:=(ok.funs.mem hb).1
  rw [e] at this;cases this
theorem Inv.bs (I:Inv X pins σ H s):∀ b o,X.base.get? b = some o → s.heap.get? b = some o ∧ H b = none:=fun b o e =>
  ⟨I.base.keep b o (I.ok.bs b o e).1 (I.ok.bs b o e).2 (I.ok.nofr e) (I.ok.noex b o e),I.base.free b o (I.ok.bs b o e).1 (I.ok.bs b o e).2 (I.ok.noex b o e)⟩
theorem Inv.bk (I:Inv X pins σ H s):∀ b o,X.base.get? b = some o → s.heap.get? b = some o:=fun b o e=>(I.bs b o e).1
theorem Inv.mod (I:Inv X pins σ H s):Mod X.K X.mg X.base:=I.ok.mod
theorem Inv.kIn (I:Inv X pins σ H s):X.K.In s.heap:=I.ok.mod.kin.keeps I.bk
theorem Inv.lt (I:Inv X pins σ H s):X.env.locals < s.heap.objs.size:=let ⟨_,hn,_⟩:=I.loc;hn.lt
theorem Inv.sz (I:Inv X pins σ H s):X.s₀.heap.objs.size ≤ s.heap.objs.size:=Nat.le_trans I.ok.above (Nat.le_of_lt I.lt)
theorem Inv.nofs (I:Inv X pins σ H s) {a:Addr} (h:s.heap.objs.size ≤ a):a ∉ X.fs:=fun hb=>by
  obtain ⟨_,o,ho,_⟩:=I.ok.funs.mem hb
  exact absurd (Nat.lt_of_lt_of_le (Heap.lt_size ho) (Nat.le_trans I.sz h)) (Nat.lt_irrefl _)
theorem Inv.cne (I:Inv X pins σ H s):∀ x c,X.env.cells.lookup x = some c → c ≠ X.env.locals:=fun x c e z=>by
  obtain ⟨v,o,ho,hd⟩:=I.cell x c e
  obtain ⟨m,⟨o',es,ep,ho',hd',_⟩,_⟩:=I.loc
  rw [z,ho'] at ho;cases ho;rw [hd'] at hd;cases hd
theorem Inv.funs (I:Inv X pins σ H s):s.heap.FunFrames X.base X.outer:=by
  have all:∀ (l:List Env),(∀ b ∈ frs l,b ∈ X.fs) → X.s₀.heap.FunFrames X.base l → s.heap.FunFrames X.base l:=by
    intro l
    induction l with
    | nil=>intro _ _;trivial
    | cons env r ih =>
      intro hs hl
      obtain ⟨hk,⟨L,o,hf,hn,ho,hd⟩,hr⟩:=hl
      have hL:L ∈ X.fs:=hs L (by unfold frs;rw [List.filterMap_cons,hf];exact List.mem_cons_self)
      obtain ⟨sl,e⟩:=I.base.slot L o ho (I.ok.frf L hL) hL fun z=>I.ok.exfs L z hL
      exact ⟨hk,⟨L,_,hf,hn,e,hd⟩,ih (fun b hb=>hs b (by unfold frs;rw [List.filterMap_cons,hf];exact List.mem_cons_of_mem _ hb)) hr⟩
  exact all X.outer (fun _ hb=>hb) I.ok.funs
theorem Inv.stack (I:Inv X pins σ H s):s.heap.FunFrames X.base X.stack:=by
  rcases I.ok.stk with e | ⟨e,hf⟩
  · rw [e];exact I.funs
  · rw [e]
    obtain ⟨m,hn,_⟩:=I.loc
    refine .cons (by rw [I.ok.kind];decide) hf hn ?_ I.funs
    exact Heap.get?_none_of_le (Nat.le_trans I.ok.bsz I.ok.above)
theorem Inv.stkSub (I:Inv X pins σ H s):∀ b ∈ frs X.stack,b ∈ X.env.locals :: X.fs:=fun b hb=>by
  rcases I.ok.stk with e | ⟨e,hf⟩
  · rw [e] at hb;exact List.mem_cons_of_mem _ hb
  · rw [e] at hb
    unfold frs at hb
    rw [List.filterMap_cons,hf] at hb
    exact hb
theorem Inv.stkFree (I:Inv X pins σ H s):∀ b ∈ frs X.stack,H b = none:=fun b hb=>by
  rcases List.mem_cons.mp (I.stkSub b hb) with e | hb
  · rw [e];exact I.free
  · obtain ⟨_,o,ho,_⟩:=I.ok.funs.mem hb
    exact I.base.free b o ho (I.ok.frf b hb) fun z=>I.ok.exfs b z hb
theorem Inv.step {g':Array GenState} {t':Nat} {d':Drawn} {ch:List Addr} (I:Inv X pins σ H s)
    (hch:∀ b ∈ ch,(b ∈ X.ex ∨ X.s₀.heap.objs.size ≤ b) ∧ b ≠ X.env.locals ∧ (∀ x c,X.env.cells.lookup x = some c → c ≠ b) ∧ ∀ p ∈ X.pn ++ pins,p.1 ≠ b)
    (keep:∀ b o,b ≠ X.env.locals → b ∉ X.fs → b ∉ ch → s.heap.get? b = some o → H b = none → h'.get? b = some o)
    (slot:∀ b o,b ≠ X.env.locals → b ∈ X.fs → b ∉ ch → s.heap.get? b = some o → H b = none → ∃ sl,h'.get? b = some { o with slots:=sl }) (free:∀ b o,b ∉ ch → s.heap.get? b = some o → H b = none → H' b = none)
    (there:∀ b o,b ∉ ch → s.heap.get? b = some o → ∃ o',h'.get? b = some o')
    (tups:∀ b xs,H b = some (.tup xs) → H' b = some (.tup xs)) (frzs:∀ b o u,H b = some (.frz o u) → H' b = some (.frz o u)) (tbls:∀ b ps,H b = some (.tbl ps) → ∃ more,H' b = some (.tbl (ps ++ more)))
    (ns:∀ m,s.heap.Ns X.env.locals m → h'.Ns X.env.locals m) (hok:HOk X.prog X.w H' h') (hg:AllBare g') :
    Inv X pins σ H' { s with heap:=h',gens:=g',drawn:=d',toks:=t' }:=by
  have neL:∀ b o,X.s₀.heap.get? b = some o → b ≠ X.env.locals:=fun b o e=>Nat.ne_of_lt (Nat.lt_of_lt_of_le (Heap.lt_size e) I.ok.above)
  have neC:∀ b o,X.s₀.heap.get? b = some o → b ∉ X.ex → b ∉ ch:=fun b o e hx hb=>by
    rcases (hch b hb).1 with z | z
    · exact hx z
    · exact absurd (Nat.lt_of_lt_of_le (Heap.lt_size e) z) (Nat.lt_irrefl _)
  have cellK:∀ x c,X.env.cells.lookup x = some c → ∀ v,s.heap.IsCell c v → h'.IsCell c v:=fun x c e v ⟨o,ho,hd⟩=>by
    have nch:c ∉ ch:=fun z=>(hch c z).2.2.1 x c e rfl
    by_cases hc:c ∈ X.fs
    · obtain ⟨sl,q⟩:=slot c o (I.cne x c e) hc nch ho (I.freeC x c e)
      exact ⟨_,q,hd⟩
    · exact ⟨o,keep c o (I.cne x c e) hc nch ho (I.freeC x c e),hd⟩
  refine ⟨I.ok,I.os,hg,⟨fun b o e n hb hx=>?_,fun b o e n hb hx=>?_,fun b o e n hx=>?_,fun b o e hx=>?_,fun b xs e=>tups b xs (I.base.tups b xs e),fun b o xs e=>frzs b o xs (I.base.frzs b o xs e),fun b ps e=>?_⟩,?_,fun x c e=>?_,?_,fun x c e=>?_,fun p hp=>?_,hok,I.len⟩
  · exact keep b o (neL b o e) hb (neC b o e hx) (I.base.keep b o e n hb hx) (I.base.free b o e n hx)
  · obtain ⟨sl,e1⟩:=I.base.slot b o e n hb hx
    obtain ⟨sl',e2⟩:=slot b _ (neL b o e) hb (neC b o e hx) e1 (I.base.free b o e n hx)
    exact ⟨sl',e2⟩
  · obtain ⟨o',e1⟩:=I.base.there b o e hx
    exact free b o' (neC b o e hx) e1 (I.base.free b o e n hx)
  · obtain ⟨o',e1⟩:=I.base.there b o e hx
    exact there b o' (neC b o e hx) e1
  · obtain ⟨m1,e1⟩:=I.base.tbls b ps e
    obtain ⟨m2,e2⟩:=tbls b _ e1
    exact ⟨m1 ++ m2,by rw [e2,Array.append_assoc]⟩
  · obtain ⟨m,hn,hl⟩:=I.loc
    refine ⟨m,ns m hn,fun i x v e1 e2 e3=>?_⟩
    obtain ⟨u,r,l⟩:=hl i x v e1 e2 e3
    refine ⟨u,r,?_⟩
    rcases l with l | ⟨k,c,e,z⟩
    · exact .inl l
    · exact .inr ⟨k,c,e,cellK x c e _ z⟩
  · obtain ⟨v,z⟩:=I.cell x c e
    exact ⟨v,cellK x c e v z⟩
  · obtain ⟨m,⟨o,_,_,ho,_⟩,_⟩:=I.loc
    exact free _ o (fun z=>(hch _ z).2.1 rfl) ho I.free
  · obtain ⟨v,o,ho,hd⟩:=I.cell x c e
    exact free c o (fun z=>(hch c z).2.2.1 x c e rfl) ho (I.freeC x c e)
  · obtain ⟨e,n,ne,nf,d⟩:=I.pin p hp
    have nch:p.1 ∉ ch:=fun z=>(hch p.1 z).2.2.2 p hp rfl
    exact ⟨keep p.1 p.2 ne nf nch e n,free p.1 p.2 nch e n,ne,nf,d⟩
theorem Inv.un {t':Nat} (I:Inv X pins σ H s) (u:Un X.fs [] H H' s.heap h') (hok:HOk X.prog X.w H' h'):Inv X pins σ H' { s with heap:=h',toks:=t' }:=by
  obtain ⟨m,⟨o,es,ep,ho,r⟩,_⟩:=id I.loc
  obtain ⟨sl,hL⟩:=u.any ho I.free (by simp)
  exact I.step (g':=s.gens) (d':=s.drawn) (ch:=[]) (fun _ z=>nomatch z) (fun b o _ hb _ e n=>u.keep b o e n hb (by simp)) (fun b o _ hb _ e n=>u.slot b o e n hb (by simp)) (fun b o _ e n=>u.free b o e n (by simp)) (fun b o _ e=>u.there b o e (by simp)) u.tups u.frzs u.tbls (fun m' hm=>by
    obtain ⟨o',es',ep',ho',r'⟩:=hm
    rw [ho] at ho';cases ho'
    exact ⟨_,es',ep',hL,r'⟩) hok I.bare
theorem Inv.call {g':Array GenState} {t':Nat} {d':Drawn} {ch:List Addr} (I:Inv X pins σ H s) (u:Un (frs X.stack) ch H H' s.heap h') (hok:HOk X.prog X.w H' h') (hg:AllBare g')
    (hch:∀ b ∈ ch,(b ∈ X.ex ∨ X.s₀.heap.objs.size ≤ b) ∧ b ≠ X.env.locals ∧ (∀ x c,X.env.cells.lookup x = some c → c ≠ b) ∧ ∀ p ∈ X.pn ++ pins,p.1 ≠ b) :
    Inv X pins σ H' { s with heap:=h',gens:=g',drawn:=d',toks:=t' }:=by
  obtain ⟨m,⟨o,es,ep,ho,r⟩,_⟩:=id I.loc
  obtain ⟨sl,hL⟩:=u.any ho I.free fun z=>(hch _ z).2.1 rfl
  exact I.step (ch:=ch) hch (fun b o hL hb hc e n=>u.keep b o e n (fun z=>(List.mem_cons.mp (I.stkSub b z)).elim hL hb) hc) (fun b o _ _ hc e n=>u.any e n hc) (fun b o hc e n=>u.free b o e n hc) (fun b o hc e=>u.there b o e hc) u.tups u.frzs u.tbls (fun m' hm=>by
    obtain ⟨o',es',ep',ho',r'⟩:=hm
    rw [ho] at ho';cases ho'
    exact ⟨_,es',ep',hL,r'⟩) hok hg
theorem Inv.turned {t':Nat} {it:Addr} (I:Inv X pins σ H s) (k:∀ b o,b ≠ it → s.heap.get? b = some o → h'.get? b = some o) (hn:H it = none) (hL:it ≠ X.env.locals)
    (h1:it ∈ X.ex ∨ X.s₀.heap.objs.size ≤ it) (h2:∀ x c,X.env.cells.lookup x = some c → c ≠ it) (h3:∀ p ∈ X.pn ++ pins,p.1 ≠ it):Inv X pins σ H { s with heap:=h',toks:=t' }:=by
  have nit:∀ b u,H b = some u → b ≠ it:=fun b u e z=>by rw [z,hn] at e;cases e
  refine I.step (g':=s.gens) (d':=s.drawn) (ch:=[it]) (fun b hb=>?_) (fun b o _ _ hc e _=>k b o (fun z=>hc (by simp [z])) e) (fun b o _ _ hc e _=>⟨o.slots,k b o (fun z=>hc (by simp [z])) e⟩) (fun _ _ _ _ n=>n)
    (fun b o hc e=>⟨o,k b o (fun z=>hc (by simp [z])) e⟩) (fun _ _ e=>e) (fun _ _ _ e=>e) (fun b ps e=>⟨#[],by rw [e];simp⟩) (fun m hm=>?_) (fun b u e=>?_) I.bare
  · have e:b = it:=by simpa using hb
    subst e
    exact ⟨h1,hL,h2,h3⟩
  · obtain ⟨o,es,ep,ho,r⟩:=hm
    exact ⟨o,es,ep,k _ o (Ne.symm hL) ho,r⟩
  · refine (I.hok b u e).stay (fun c v hc q=>k c v ?_ q) (fun _ q=>q) fun _ _ q=>q
    rcases hc with z | z
    · rw [z];exact nit b u e
    · exact nit c _ z
theorem Inv.tok (I:Inv X pins σ H s) (t:Nat):Inv X pins σ H { s with toks:=t }:=I.un (h':=s.heap) (t':=t) Un.refl I.hok
theorem Inv.kept {t':Nat} (I:Inv X pins σ H s) (k:∀ b u,s.heap.get? b = some u → h'.get? b = some u):Inv X pins σ H { s with heap:=h',toks:=t' }:=I.un (Un.kept k) (I.hok.kept k)
theorem Inv.laid {a:Addr} {o:HO} {t':Nat} (I:Inv X pins σ H s) (k:∀ b u,s.heap.get? b = some u → h'.get? b = some u) (hp:s.heap.objs.size ≤ a) (new:ObjOk X.prog X.w (upd H a o) h' a o) :
    Inv X pins σ (upd H a o) { s with heap:=h',toks:=t' }:=I.un (Un.laid k hp (I.hok.fresh hp)) (I.hok.laid k hp new)
theorem Inv.write {x e:Addr} {o:HO} {t':Nat} (I:Inv X pins σ H s) (mu:Mut (H x)) (he:e = x ∨ H e = some (.own x)) (k:∀ b u,b ≠ e → s.heap.get? b = some u → h'.get? b = some u) (heo:∃ u,h'.get? e = some u)
    (new:ObjOk X.prog X.w (upd H x o) h' x o):Inv X pins σ (upd H x o) { s with heap:=h',toks:=t' }:=I.un (Un.write mu he k heo) (I.hok.write mu he k heo new)
theorem Inv.pins_of {pins':List (Addr × Obj)} (I:Inv X pins σ H s) (h:∀ p ∈ pins',s.heap.get? p.1 = some p.2 ∧ H p.1 = none ∧ p.1 ≠ X.env.locals ∧ p.1 ∉ X.fs ∧ ∀ v,p.2.data ≠ .cell v):Inv X pins' σ H s :=
  ⟨I.ok,I.os,I.bare,I.base,I.loc,I.cell,I.free,I.freeC,fun p hp=>(List.mem_append.mp hp).elim (fun z=>I.pin p (List.mem_append_left _ z)) (h p),I.hok,I.len⟩
theorem nodup_ix {N:List Str} (hN:N.Nodup) {i j:Nat} {x:Str} (a:N[i]? = some x) (b:N[j]? = some x):i = j:=by
  obtain ⟨h1,e1⟩:=List.getElem?_eq_some_iff.mp a
  obtain ⟨h2,e2⟩:=List.getElem?_eq_some_iff.mp b
  exact (List.getElem_inj hN).mp (e1.trans e2.symm)
theorem store_ok2 {M:Model} {A:Around} {E:Value → Shared → Prop} {i:Nat} {x:Str} {v:V} {u:Value} {Q:Unit → Shared → Prop} (I:Inv X pins σ H s) (hN:X.N.Nodup) (hi:X.N[i]? = some x) (hx:Loc X.env.scope x) (r:RelV v u)
    (h:∀ s',Inv X pins (σ.set i (some v)) H s' → (∃ a,Heap.SameBut a s.heap s'.heap ∧ (a = X.env.locals ∨ X.env.cells.lookup x = some a)) → Q () s') (hf:X.fn x = true ∨ X.env.scope.names.lookup x = some .local:=by first | exact .inl rfl | exact .inr rfl | assumption):wpAny M A (storeName X.env x u) Q E s:=by
  obtain ⟨m,hn,hl⟩:=id I.loc
  have hcls:(X.env.scope.kind == .class || (X.env.scope.kind == .module && X.env.locals != X.env.globals)) = false:=by rw [I.ok.kind];rfl
  have hiσ:i < σ.length:=by rw [I.len];exact (List.getElem?_eq_some_iff.mp hi).1
  have cne:=I.cne
  have tracked:∀ {a:Addr} {h':Heap},(∃ o,s.heap.get? a = some o ∧ H a = none) → Heap.SameBut a s.heap h' → HOk X.prog X.w H h':=fun {a h'} ha hs b ob e=>by
    obtain ⟨_,_,hfree⟩:=ha
    refine (I.hok b ob e).stay (fun c w' hc q=>(hs.2 c ?_).trans q) (fun _ q=>q) fun _ _ q=>q
    rintro rfl
    rcases hc with rfl | hc
    · rw [hfree] at e;cases e
    · rw [hfree] at hc;cases hc
  rcases hx with hk | hk
  · refine wpAny_storeName_local hk hn (fun h' hn' hs=>?_) hcls
    obtain ⟨oL,_,_,hoL,_⟩:=id hn
    refine h _ ⟨I.ok,I.os,I.bare,⟨fun b o e n hb hx=>?_,fun b o e n hb hx=>?_,I.base.free,fun b o e hx=>?_,I.base.tups,I.base.frzs,I.base.tbls⟩,⟨_,hn',fun j y v' e1 e2 e3=>?_⟩,fun y c e=>?_,I.free,I.freeC,fun p hp=>?_,tracked ⟨oL,hoL,I.free⟩ hs,by simpa using I.len⟩ ⟨_,hs,.inl rfl⟩
    · exact (hs.2 b (Nat.ne_of_lt (Nat.lt_of_lt_of_le (Heap.lt_size e) I.ok.above))).trans (I.base.keep b o e n hb hx)
    · obtain ⟨sl,e1⟩:=I.base.slot b o e n hb hx
      exact ⟨sl,(hs.2 b (Nat.ne_of_lt (Nat.lt_of_lt_of_le (Heap.lt_size e) I.ok.above))).trans e1⟩
    · obtain ⟨o',e1⟩:=I.base.there b o e hx
      exact ⟨o',(hs.2 b (Nat.ne_of_lt (Nat.lt_of_lt_of_le (Heap.lt_size e) I.ok.above))).trans e1⟩
    · by_cases hj:j = i
      · subst hj
        rw [hi] at e1;cases e1
        rw [List.getElem?_set_self hiσ] at e2
        cases e2
        exact ⟨u,r,.inl ⟨hk,by simp⟩⟩
      · rw [List.getElem?_set_ne (Ne.symm hj)] at e2
        obtain ⟨u',r',q⟩:=hl j y v' e1 e2 e3
        refine ⟨u',r',?_⟩
        rcases q with ⟨k,e⟩ | ⟨k,c,e,z⟩
        · refine .inl ⟨k,?_⟩
          have:y ≠ x:=fun e=>hj (nodup_ix hN e1 (e ▸ hi))
          simp [this,e]
        · exact .inr ⟨k,c,e,z.sameBut hs (cne y c e)⟩
    · obtain ⟨w',z⟩:=I.cell y c e
      exact ⟨w',z.sameBut hs (cne y c e)⟩
    · obtain ⟨e,n,ne,nf,d⟩:=I.pin p hp
      exact ⟨(hs.2 p.1 ne).trans e,n,ne,nf,d⟩
  · have hfn:X.fn x = true:=by
      rcases hf with z | z
      · exact z
      · rw [z] at hk;cases hk
    obtain ⟨c,hc⟩:=I.ok.has x (.inl hk)
    obtain ⟨w',z⟩:=I.cell x c hc
    refine wpAny_storeName_cell I.ok.kind hk hc z (fun h' hc' hs=>?_)
    obtain ⟨oc,hoc,hocd⟩:=id z
    refine h { s with heap:=h' } ⟨I.ok,I.os,I.bare,⟨fun b o e n hb hx=>?_,fun b o e n hb hx=>?_,I.base.free,fun b o e hx=>?_,I.base.tups,I.base.frzs,I.base.tbls⟩,⟨m,hn.sameBut hs (Ne.symm (cne x c hc)),fun j y v' e1 e2 e3=>?_⟩,fun y c' e=>?_,I.free,I.freeC,fun p hp=>?_,tracked ⟨oc,hoc,I.freeC x c hc⟩ hs,by simpa using I.len⟩ ⟨c,hs,.inr hc⟩
    · exact (hs.2 b (Nat.ne_of_lt (Nat.lt_of_lt_of_le (Heap.lt_size e) (I.ok.cab x c hfn hc)))).trans (I.base.keep b o e n hb hx)
    · obtain ⟨sl,e1⟩:=I.base.slot b o e n hb hx
      exact ⟨sl,(hs.2 b (Nat.ne_of_lt (Nat.lt_of_lt_of_le (Heap.lt_size e) (I.ok.cab x c hfn hc)))).trans e1⟩
    · obtain ⟨o',e1⟩:=I.base.there b o e hx
      exact ⟨o',(hs.2 b (Nat.ne_of_lt (Nat.lt_of_lt_of_le (Heap.lt_size e) (I.ok.cab x c hfn hc)))).trans e1⟩
    · by_cases hj:j = i
      · subst hj
        rw [hi] at e1;cases e1
        rw [List.getElem?_set_self hiσ] at e2
        cases e2
        exact ⟨u,r,.inr ⟨.inl hk,c,hc,hc'⟩⟩
      · rw [List.getElem?_set_ne (Ne.symm hj)] at e2
        obtain ⟨u',r',q⟩:=hl j y v' e1 e2 e3
        refine ⟨u',r',?_⟩
        rcases q with q | ⟨k,c',e,z'⟩
        · exact .inl q
        · refine .inr ⟨k,c',e,z'.sameBut hs ?_⟩
          rintro rfl
          exact hj (nodup_ix hN e1 (I.ok.inj _ _ _ e hc ▸ hi))
    · by_cases hcc:c' = c
      · subst hcc;exact ⟨_,hc'⟩
      · obtain ⟨w2,z2⟩:=I.cell y c' e
        exact ⟨w2,z2.sameBut hs hcc⟩
    · obtain ⟨e,n,ne,nf,d⟩:=I.pin p hp
      refine ⟨(hs.2 p.1 ?_).trans e,n,ne,nf,d⟩
      intro q
      rw [q,hoc] at e
      have q':oc = p.2:=Option.some.inj e
      exact d w' (by rw [← q'];exact hocd)
theorem store_ok {M:Model} {A:Around} {E:Value → Shared → Prop} {i:Nat} {x:Str} {v:V} {u:Value} {Q:Unit → Shared → Prop} (I:Inv X pins σ H s) (hN:X.N.Nodup) (hi:X.N[i]? = some x) (hx:Loc X.env.scope x) (r:RelV v u)
    (h:∀ s',Inv X pins (σ.set i (some v)) H s' → Q () s') (hf:X.fn x = true ∨ X.env.scope.names.lookup x = some .local:=by first | exact .inl rfl | exact .inr rfl | assumption):wpAny M A (storeName X.env x u) Q E s :=
  store_ok2 I hN hi hx r (fun s' I' _=>h s' I') hf
theorem Inv.call' {s':Shared} {ch:List Addr} (I:Inv X pins σ H s) (ho:s'.os = s.os) (u:Un (frs X.stack) ch H H' s.heap s'.heap) (hok:HOk X.prog X.w H' s'.heap) (hg:AllBare s'.gens)
    (hch:∀ b ∈ ch,(b ∈ X.ex ∨ X.s₀.heap.objs.size ≤ b) ∧ b ≠ X.env.locals ∧ (∀ x c,X.env.cells.lookup x = some c → c ≠ b) ∧ ∀ p ∈ X.pn ++ pins,p.1 ≠ b):Inv X pins σ H' s':=by
  obtain ⟨h',g',d',t',o'⟩:=s'
  have e:o' = s.os:=ho
  subst e
  exact I.call (g':=g') (t':=t') (d':=d') u hok hg hch
end
noncomputable abbrev XK:=Value → Option Addr → Hp → Prop
noncomputable abbrev St:=List (Option V)
noncomputable abbrev VK:=V → Hp → Prop
noncomputable abbrev TE:=St → Hp → VK → Prop
noncomputable abbrev TT:=St → Hp → (Bool → Hp → Prop) → Prop
noncomputable abbrev TA:=St → Hp → (List V → Hp → Prop) → Prop
set_option genInjectivity false in
structure Ends where
  nx:St → Hp → Prop
  rt:VK
  bk:St → Hp → Prop:=fun _ _=>False
  ct:St → Hp → Prop:=fun _ _=>False
noncomputable abbrev TS:=Ends → St → Hp → Prop
noncomputable def EP (X:Cx) (pins:List (Addr × Obj)) (σ:St) (Q:VK) (u:Value) (s':Shared):Prop:=∃ v H',Inv X pins σ H' s' ∧ RelV v u ∧ Q v H'
noncomputable def TP (X:Cx) (pins:List (Addr × Obj)) (σ:St) (Q:Bool → Hp → Prop) (b:Bool) (s':Shared):Prop:=∃ H',Inv X pins σ H' s' ∧ Q b H'
noncomputable def AP (X:Cx) (pins:List (Addr × Obj)) (σ:St) (Q:List V → Hp → Prop) (us:List Value) (s':Shared):Prop:=∃ vs H',Inv X pins σ H' s' ∧ Vals vs us ∧ Q vs H'
noncomputable def SP (X:Cx) (pins:List (Addr × Obj)) (D:Ends) (f:Flow) (s':Shared):Prop :=
  match f with
  | .next=>∃ σ' H',Inv X pins σ' H' s' ∧ D.nx σ' H'
  | .brk=>∃ σ' H',Inv X pins σ' H' s' ∧ D.bk σ' H'
  | .cont=>∃ σ' H',Inv X pins σ' H' s' ∧ D.ct σ' H'
  | .ret u=>∃ v σ' H',Inv X pins σ' H' s' ∧ RelV v u ∧ D.rt v H'
noncomputable def PE (X:Cx) (e:Expr) (t:TE):Prop :=
  ∀ (pins:List (Addr × Obj)) (s:Shared) (σ:St) (H:Hp) (Q:VK),Inv X pins σ H s → t σ H Q → wpAny (model X.prog X.w) X.A (eval e X.env) (EP X pins σ Q) X.xe s
noncomputable def PT (X:Cx) (e:Expr) (t:TT):Prop :=
  ∀ (pins:List (Addr × Obj)) (s:Shared) (σ:St) (H:Hp) (Q:Bool → Hp → Prop),Inv X pins σ H s → t σ H Q → wpAny (model X.prog X.w) X.A (isTrue e X.env (eval e X.env)) (TP X pins σ Q) X.xe s
noncomputable def PW (X:Cx) (e:Expr) (t:TT):Prop :=
  ∀ (whole:Sem Value) (pins:List (Addr × Obj)) (s:Shared) (σ:St) (H:Hp) (Q:Bool → Hp → Prop),Inv X pins σ H s → t σ H Q → wpAny (model X.prog X.w) X.A (isTrue e X.env whole) (TP X pins σ Q) X.xe s
theorem PW.pt {X:Cx} {e:Expr} {t:TT} (h:PW X e t):PT X e t:=h _
noncomputable def PA (X:Cx) (es:List Expr) (t:TA):Prop :=
  ∀ (pos:Pos) (pins:List (Addr × Obj)) (s:Shared) (σ:St) (H:Hp) (Q:List V → Hp → Prop),Inv X pins σ H s → t σ H Q → wpAny (model X.prog X.w) X.A (spliced (backTo pos (starEach es X.env))) (AP X pins σ Q) X.xe s
noncomputable def PS (X:Cx) (st:Stmt) (t:TS):Prop :=
  ∀ (pins:List (Addr × Obj)) (s:Shared) (σ:St) (H:Hp) (D:Ends),Inv X pins σ H s → t D σ H → wpAny (model X.prog X.w) X.A (exec st X.env) (SP X pins D) X.xe s
noncomputable def PSs (X:Cx) (st:List Stmt) (t:TS):Prop :=
  ∀ (pins:List (Addr × Obj)) (s:Shared) (σ:St) (H:Hp) (D:Ends),Inv X pins σ H s → t D σ H → wpAny (model X.prog X.w) X.A (execs st X.env) (SP X pins D) X.xe s
theorem thn {α:Type} {t:Sem α} {Q Q':α → Shared → Prop} {M:Model} {A:Around} {E:Value → Shared → Prop} {s:Shared} (h:wpAny M A t Q E s) (hQ:∀ a s,Q a s → Q' a s):wpAny M A t Q' E s:=wpAny_mono h hQ fun _ _ x=>x
end L2
namespace L2
open PySem PySem.Spec PyProof.Rows
section
variable {X:Cx}
theorem bin {a b:Expr} {ta tb:TE} (ha:PE X a ta) (hb:PE X b tb) {pins:List (Addr × Obj)} {s:Shared} {σ:St} {H:Hp} {R:V → V → Hp → Prop} (I:Inv X pins σ H s) (h:ta σ H fun x H1=>tb σ H1 fun y H2=>R x y H2)
    {α:Type} {Q:α → Shared → Prop} {f:Value → Value → Sem α}
    (hf:∀ v u s2 x y H2,Inv X pins σ H2 s2 → RelV x v → RelV y u → R x y H2 → wpAny (model X.prog X.w) X.A (f v u) Q X.xe s2) :
    wpAny (model X.prog X.w) X.A (eval a X.env) (fun v s₁=>wpAny (model X.prog X.w) X.A (eval b X.env) (fun u s₂=>wpAny (model X.prog X.w) X.A (f v u) Q X.xe s₂) X.xe s₁) X.xe s:=by
  refine thn (ha pins s σ H _ I h) fun v s1 ⟨x,H1,I1,r1,q1⟩=>?_
  refine thn (hb pins s1 σ H1 _ I1 q1) fun u s2 ⟨y,H2,I2,r2,q2⟩=>?_
  exact hf v u s2 x y H2 I2 r1 r2 q2
noncomputable def tVar (i:Nat):TE:=fun σ H Q=>∃ v,σ[i]? = some (some v) ∧ Q v H
noncomputable def tC (v:V):TE:=fun _ H Q=>Q v H
theorem pe_var {i:Nat} {x:Str} {pos:Pos} (hN:X.N[i]? = some x) (hv:Vis X.env.scope x) (hd:(x == ("__debug__" : Str)) = false:=by decide) (hcd:(x == ("__classdict__" : Str)) = false:=by decide):PE X (.Name x pos) (tVar i):=by
  intro pins s σ H Q I h
  obtain ⟨v,e,h⟩:=h
  obtain ⟨m,hn,hl⟩:=I.loc
  obtain ⟨u,r,l⟩:=hl i x v hN e hv
  have fin:EP X pins σ Q u s:=⟨v,H,I,r,h⟩
  rcases l with ⟨hk,hm⟩ | ⟨hk,c,hc,hcell⟩
  · exact wpAny_Name (wpAny_loadName_local I.ok.kind hk hn hm fin) hd
  · rcases hk with hk | hk
    · exact wpAny_Name (wpAny_loadName_cell I.ok.kind hk hc hcell fin) hd
    · exact wpAny_Name (wpAny_loadName_free I.ok.kind hk hc hcell fin hcd) hd
theorem pe_int {i j pos}:PE X (.Constant (.int i) j pos) (tC (.int i)):=fun _ _ _ H _ I h=>wpAny_Constant_int ⟨.int i,H,I.tok _,⟨_,rfl⟩,h⟩
theorem pe_bl {b j pos}:PE X (.Constant (.bool b) j pos) (tC (.bl b)):=fun _ _ _ H _ I h=>Constant_bool ⟨.bl b,H,I,rfl,h⟩
theorem pe_non {j pos}:PE X (.Constant .none j pos) (tC .non):=fun _ _ _ H _ I h=>Constant_none ⟨.non,H,I,rfl,h⟩
theorem pe_str {x j pos}:PE X (.Constant (.str x) j pos) (tC (.str x)):=fun _ _ _ H _ I h=>Calls.Constant_str ⟨.str x,H,I.tok _,⟨_,rfl⟩,h⟩
noncomputable def Gl (X:Cx) (x:Str):Prop:=X.env.kindOf x = some .globalImplicit
theorem ld_glob {E:Value → Shared → Prop} {pins:List (Addr × Obj)} {s:Shared} {σ:St} {H:Hp} {x:Str} {u:Value} {pos:Pos} {Q:Value → Shared → Prop} (I:Inv X pins σ H s) (hg:Gl X x) (hm:X.mg x = some u) (h:Q u s)
    (hd:(x == ("__debug__" : Str)) = false:=by decide):wpAny (model X.prog X.w) X.A (eval (.Name x pos) X.env) Q E s :=
  Calls.Name_function_global I.ok.kind hg (Calls.loadGlobal_global (by rw [I.ok.glob];exact I.mod.glob.keeps I.bk) hm h) hd
theorem ld_blt {E:Value → Shared → Prop} {pins:List (Addr × Obj)} {s:Shared} {σ:St} {H:Hp} {x:Str} {u:Value} {pos:Pos} {Q:Value → Shared → Prop} (I:Inv X pins σ H s) (hg:Gl X x) (hm:X.mg x = none) (hv:bootBuiltins x = some u) (h:Q u s)
    (hn:x ≠ "__name__" := by decide) (hd:(x == ("__debug__" : Str)) = false:=by decide):wpAny (model X.prog X.w) X.A (eval (.Name x pos) X.env) Q E s:=by
  obtain ⟨mb,h1,h2⟩:=I.mod.blt
  exact Calls.Name_function_global I.ok.kind hg (Calls.loadGlobal_builtin (by rw [I.ok.glob];exact I.mod.glob.keeps I.bk) hm (by rw [I.ok.blt];exact h1.keeps I.bk) ((h2 x hn).trans hv) h) hd
theorem pe_bltn {x:Str} {v:V} {u:Value} {pos:Pos} (hg:Gl X x) (hm:X.mg x = none) (hv:bootBuiltins x = some u) (r:RelV v u) (hn:x ≠ "__name__" := by decide) (hd:(x == ("__debug__" : Str)) = false:=by decide):PE X (.Name x pos) (tC v) :=
  fun _ _ _ H _ I h=>ld_blt I hg hm hv ⟨v,H,I,r,h⟩ hn hd
variable {a b:Expr} {ta tb:TE} {pos:Pos}
noncomputable def tB (t:TE):TT:=fun σ H Q=>t σ H fun x H1=>∃ c,x = .bl c ∧ Q c H1
variable {tA tB':TT} {rest:List Expr}
noncomputable def tAnd (t u:TT):TT:=fun σ H Q=>t σ H fun c H1=>if c = true then u σ H1 Q else Q false H1
noncomputable def tOr (t u:TT):TT:=fun σ H Q=>t σ H fun c H1=>if c = true then Q true H1 else u σ H1 Q
noncomputable def tNot (t:TT):TT:=fun σ H Q=>t σ H fun c H1=>Q (!c) H1
theorem pw_and1 (ha:PT X a tA):PW X (.BoolOp .And [a] pos) tA:=by
  intro wh pins s σ H Q I h
  refine isTrue_and (thn (ha pins s σ H Q I h) fun c s1 e=>?_)
  cases c with
  | true=>exact isTrue_and_nil e
  | false=>exact e
theorem pw_or1 (ha:PT X a tA):PW X (.BoolOp .Or [a] pos) tA:=by
  intro wh pins s σ H Q I h
  refine isTrue_or (thn (ha pins s σ H Q I h) fun c s1 e=>?_)
  cases c with
  | false=>exact isTrue_or_nil e
  | true=>exact e
theorem pw_and (ha:PT X a tA) (hb:PW X (.BoolOp .And (b :: rest) pos) tB'):PW X (.BoolOp .And (a :: b :: rest) pos) (tAnd tA tB'):=by
  intro wh pins s σ H Q I h
  refine isTrue_and (thn (ha pins s σ H _ I h) fun c s1 ⟨H1,I1,q1⟩=>?_)
  cases c with
  | true=>exact hb wh pins s1 σ H1 Q I1 q1
  | false=>exact ⟨H1,I1,q1⟩
theorem pw_or (ha:PT X a tA) (hb:PW X (.BoolOp .Or (b :: rest) pos) tB'):PW X (.BoolOp .Or (a :: b :: rest) pos) (tOr tA tB'):=by
  intro wh pins s σ H Q I h
  refine isTrue_or (thn (ha pins s σ H _ I h) fun c s1 ⟨H1,I1,q1⟩=>?_)
  cases c with
  | true=>exact ⟨H1,I1,q1⟩
  | false=>exact hb wh pins s1 σ H1 Q I1 q1
theorem pt_not (ha:PT X a tA):PT X (.UnaryOp .Not a pos) (tNot tA):=by
  intro pins s σ H Q I h
  exact isTrue_not (ha pins s σ H (fun c H1=>Q (!c) H1) I h)
theorem pe_one {op} {t:TE} (h:PE X a t):PE X (.BoolOp op [a] pos) t:=fun pins s σ H Q I hw=>BoolOp_one (h pins s σ H Q I hw)
noncomputable def tIf (t:TT) (ta tb:TE):TE:=fun σ H Q=>t σ H fun c H1=>if c = true then ta σ H1 Q else tb σ H1 Q
theorem pe_ifExp {c:Expr} (hc:PT X c tA) (ha:PE X a ta) (hb:PE X b tb):PE X (.IfExp c a b pos) (tIf tA ta tb):=by
  intro pins s σ H Q I h
  refine wpAny_IfExp (thn (hc pins s σ H _ I h) fun d s1 ⟨H1,I1,q1⟩=>?_)
  cases d with
  | true=>exact ha pins s1 σ H1 Q I1 q1
  | false=>exact hb pins s1 σ H1 Q I1 q1
end
end L2
namespace L2
open PySem PySem.Spec PyProof.Rows
noncomputable def SqL (K:PySem.W.Frag) (H:Hp) (a:Addr) (xs:List V):Prop :=
  Rd H a (.lst xs) ∨
    ∃ (o:Obj) (its:Array Value) (n:Nat),K.lookup a = some o ∧ o.cls = .type "list" ∧ o.dict = none ∧ o.data = .seq its n ∧ its.size ≤ sizeLine ∧ Vals xs its.toList
noncomputable def SqT (K:PySem.W.Frag) (H:Hp) (a:Addr) (xs:List V):Prop :=
  Rd H a (.tup xs) ∨
    ∃ (o:Obj) (its:Array Value) (n:Nat),K.lookup a = some o ∧ o.cls = .type "tuple" ∧ o.data = .seq its n ∧ its.size ≤ sizeLine ∧ Vals xs its.toList
noncomputable def absV:Value → Option V
  | .none=>some .non
  | .bool b=>some (.bl b)
  | .int i _=>some (.int i)
  | .str x _=>some (.str x)
  | .bytes b _=>some (.byt b)
  | .float b _=>some (.flt b)
  | .ref a=>some (.ref a)
  | .type n=>some (.ty n)
  | _=>none
theorem RelV.abs {x:V} {u:Value} (r:RelV x u):absV u = some x:=by
  cases x with
  | non=>cases r;rfl
  | bl _=>cases r;rfl
  | int _=>obtain ⟨t,rfl⟩:=r;rfl
  | str _=>obtain ⟨t,rfl⟩:=r;rfl
  | byt _=>obtain ⟨t,rfl⟩:=r;rfl
  | flt _=>obtain ⟨t,rfl⟩:=r;rfl
  | ref _=>cases r;rfl
  | ty _=>cases r;rfl
theorem RelV.inj {x y:V} {u:Value} (r:RelV x u) (q:RelV y u):x = y:=Option.some.inj (r.abs.symm.trans q.abs)
theorem Vals.inj:∀ {xs ys:List V} {us:List Value},Vals xs us → Vals ys us → xs = ys
  | _,_,_,.nil,.nil=>rfl
  | _,_,_,.cons r t,.cons r' t'=>by rw [r.inj r',Vals.inj t t']
section
variable {X:Cx} {pins:List (Addr × Obj)} {σ:St} {H:Hp} {s:Shared} {a:Addr} {xs ys:List V}
theorem SqL.of {K:PySem.W.Frag} (h:H a = some (.lst xs)):SqL K H a xs:=.inl (.inl h)
theorem SqT.of {K:PySem.W.Frag} (h:H a = some (.tup xs)):SqT K H a xs:=.inl (.inl h)
theorem Inv.list (I:Inv X pins σ H s) (h:SqL X.K H a xs):∃ its:List Value,Vals xs its ∧ PlainL s.heap a its.toArray ∧ xs.length ≤ sizeLine:=by
  rcases h with h | ⟨o,its,n,hk,hc,hd,hs,hz,r⟩
  · obtain ⟨z,its,n,r,e⟩:=h.ok I.hok
    exact ⟨its,r,⟨_,n,e,rfl,rfl,rfl⟩,z⟩
  · refine ⟨its.toList,r,⟨o,n,I.kIn a o hk,hc,hd,by simpa using hs⟩,?_⟩
    have e:=r.length
    simp only [Array.length_toList] at e
    (first | lia | omega)
theorem Inv.tuple (I:Inv X pins σ H s) (h:SqT X.K H a xs):∃ its:List Value,Vals xs its ∧ IsTup s.heap a its.toArray ∧ xs.length ≤ sizeLine:=by
  rcases h with h | ⟨o,its,n,hk,hc,hs,hz,r⟩
  · obtain ⟨z,its,r,p⟩:=h.ok I.hok
    exact ⟨its,r,p,z⟩
  · refine ⟨its.toList,r,⟨o,I.kIn a o hk,hc,n,by simpa using hs⟩,?_⟩
    have e:=r.length
    simp only [Array.length_toList] at e
    (first | lia | omega)
theorem Inv.list_inj (I:Inv X pins σ H s) (h:SqL X.K H a xs) (h':SqL X.K H a ys):xs = ys:=by
  obtain ⟨its,r,⟨o,n,e,_,_,d⟩,_⟩:=I.list h
  obtain ⟨its',r',⟨o',n',e',_,_,d'⟩,_⟩:=I.list h'
  rw [e] at e';cases e'
  rw [d] at d'
  injection d' with d1 _
  have:its = its':=by simpa using congrArg Array.toList d1
  subst this
  exact r.inj r'
theorem Inv.tuple_inj (I:Inv X pins σ H s) (h:SqT X.K H a xs) (h':SqT X.K H a ys):xs = ys:=by
  obtain ⟨its,r,⟨o,e,_,n,d⟩,_⟩:=I.tuple h
  obtain ⟨its',r',⟨o',e',_,n',d'⟩,_⟩:=I.tuple h'
  rw [e] at e';cases e'
  rw [d] at d'
  injection d' with d1 _
  have:its = its':=by simpa using congrArg Array.toList d1
  subst this
  exact r.inj r'
end
noncomputable abbrev Cx.wish (X:Cx) (E:Value → Shared → Prop):Cx:={ X with xe:=E }
noncomputable abbrev Cx.nox (X:Cx):Cx:=X.wish fun _ _=>False
theorem Cx.Ok.wish {X:Cx} (ok:X.Ok) (E:Value → Shared → Prop):(X.wish E).Ok :=
  ⟨ok.mod,ok.kind,ok.glob,ok.blt,ok.above,ok.inj,ok.has,ok.cab,ok.hd,ok.frames,ok.stk,ok.exf,ok.bs,ok.bsz,ok.noex,ok.exfs,ok.funs,ok.frf⟩
theorem Cx.Ok.unwish {X:Cx} {E:Value → Shared → Prop} (ok:(X.wish E).Ok):X.Ok :=
  ⟨ok.mod,ok.kind,ok.glob,ok.blt,ok.above,ok.inj,ok.has,ok.cab,ok.hd,ok.frames,ok.stk,ok.exf,ok.bs,ok.bsz,ok.noex,ok.exfs,ok.funs,ok.frf⟩
section
variable {X:Cx} {pins:List (Addr × Obj)} {σ:St} {H:Hp} {s:Shared} {E:Value → Shared → Prop}
theorem Inv.wish (I:Inv X pins σ H s) (E:Value → Shared → Prop):Inv (X.wish E) pins σ H s:=⟨I.ok.wish E,I.os,I.bare,I.base,I.loc,I.cell,I.free,I.freeC,I.pin,I.hok,I.len⟩
theorem Inv.unwish (I:Inv (X.wish E) pins σ H s):Inv X pins σ H s:=⟨I.ok.unwish,I.os,I.bare,I.base,I.loc,I.cell,I.free,I.freeC,I.pin,I.hok,I.len⟩
theorem SP.unwish {D:Ends} {f:Flow} {s':Shared} (h:SP (X.wish E) pins D f s'):SP X pins D f s':=by
  cases f with
  | next=>obtain ⟨σ',H',I,q⟩:=h;exact ⟨σ',H',I.unwish,q⟩
  | brk=>obtain ⟨σ',H',I,q⟩:=h;exact ⟨σ',H',I.unwish,q⟩
  | cont=>obtain ⟨σ',H',I,q⟩:=h;exact ⟨σ',H',I.unwish,q⟩
  | ret u=>obtain ⟨v,σ',H',I,r,q⟩:=h;exact ⟨v,σ',H',I.unwish,r,q⟩
theorem PT.nox {e:Expr} {t:TT} (h:PT X.nox e t):PT X e t:=fun pins s σ H Q I hw =>
  wpAny_mono (h pins s σ H Q (I.wish _) hw) (fun _ _ ⟨H',I',q⟩=>⟨H',I'.unwish,q⟩) fun _ _ z=>False.elim z
theorem PSs.nox {st:List Stmt} {t:TS} (h:PSs X.nox st t):PSs X st t:=fun pins s σ H D I hw =>
  wpAny_mono (h pins s σ H D (I.wish _) hw) (fun _ _ q=>q.unwish) fun _ _ z=>False.elim z
end
section
variable {X:Cx} {st:Stmt} {rest:List Stmt} {t u:TS} {e:Expr} {te:TE} {pos:Pos}
noncomputable def tNext:TS:=fun D σ H=>D.nx σ H
noncomputable def tSeq (t u:TS):TS:=fun D σ H=>t { D with nx:=u D } σ H
theorem pss_nil:PSs X [] tNext:=fun _ _ σ H _ I h=>wpAny_execs_nil ⟨σ,H,I,h⟩
theorem pss_cons (h1:PS X st t) (h2:PSs X rest u):PSs X (st :: rest) (tSeq t u):=by
  intro pins s σ H D I h
  refine wpAny_execs_cons (thn (h1 pins s σ H { D with nx:=u D } I h) fun f s1 q=>?_)
  cases f with
  | next =>
    obtain ⟨σ',H',I',q⟩:=q
    exact h2 pins s1 σ' H' D I' q
  | ret v=>exact q
  | brk=>exact q
  | cont=>exact q
theorem Inv.quiet {pins:List (Addr × Obj)} {σ:St} {H:Hp} {s:Shared} (I:Inv X pins σ H s):interactive X.env = false:=by simp [interactive,I.ok.kind]
noncomputable def tDrop (te:TE):TS:=fun D σ H=>te σ H fun _ H1=>D.nx σ H1
theorem ps_expr (he:PE X e te) (hs:swapsWith e none pos.line X.env = pure false:=by rfl):PS X (.Expr e pos) (tDrop te):=by
  intro pins s σ H D I h
  exact wpAny_Expr_any (thn (he pins s σ H _ I h) fun v s1 ⟨x,H1,I1,r1,q1⟩=>⟨σ,H1,I1,q1⟩) I.quiet hs
noncomputable def tRet (te:TE):TS:=fun D σ H=>te σ H D.rt
theorem ps_ret (he:PE X e te):PS X (.Return (some e) pos) (tRet te):=by
  intro pins s σ H D I h
  exact wpAny_Return_some (thn (he pins s σ H _ I h) fun v s1 ⟨x,H1,I1,r1,q1⟩=>⟨x,σ,H1,I1,r1,q1⟩)
noncomputable def tIfS (c:TT) (t u:TS):TS:=fun D σ H=>c σ H fun b H1=>if b = true then t D σ H1 else u D σ H1
theorem ps_if {c:Expr} {a b:List Stmt} {tc:TT} (hc:PT X c tc) (ha:PSs X a t) (hb:PSs X b u):PS X (.If c a b pos) (tIfS tc t u):=by
  intro pins s σ H D I h
  refine wpAny_If (thn (hc pins s σ H _ I h) fun d s1 ⟨H1,I1,q1⟩=>?_)
  cases d with
  | true=>exact ha pins s1 σ H1 D I1 q1
  | false=>exact hb pins s1 σ H1 D I1 q1
noncomputable def tNever:TS:=fun _ _ _=>False
theorem ps_never:PS X st tNever:=fun _ _ _ _ _ _ h=>h.elim
end
noncomputable abbrev TG:=V → St → Hp → (St → Hp → Prop) → Prop
noncomputable abbrev TGs:=List V → St → Hp → (St → Hp → Prop) → Prop
noncomputable def PG (X:Cx) (target:Expr) (t:TG):Prop :=
  ∀ (pins:List (Addr × Obj)) (s:Shared) (σ:St) (H:Hp) (v:V) (u:Value) (Q:St → Hp → Prop),Inv X pins σ H s → RelV v u → t v σ H Q →
    wpAny (model X.prog X.w) X.A (assign target X.env u) (fun _ s'=>∃ σ' H',Inv X pins σ' H' s' ∧ Q σ' H') X.xe s
noncomputable def PGs (X:Cx) (ts:List Expr) (t:TGs):Prop :=
  ∀ (pins:List (Addr × Obj)) (s:Shared) (σ:St) (H:Hp) (vs:List V) (us:List Value) (Q:St → Hp → Prop),Inv X pins σ H s → Vals vs us → t vs σ H Q →
    wpAny (model X.prog X.w) X.A (assignInOrder ((assignEach ts X.env).map (·.2)) us) (fun _ s'=>∃ σ' H',Inv X pins σ' H' s' ∧ Q σ' H') X.xe s
noncomputable abbrev TIp:=V → V → Hp → VK → Prop
noncomputable def PIp (X:Cx) (op:Operator) (t:TIp):Prop :=
  ∀ (pins:List (Addr × Obj)) (s:Shared) (σ:St) (H:Hp) (x y:V) (v u:Value) (Q:VK),Inv X pins σ H s → RelV x v → RelV y u → t x y H Q →
    wpAny (model X.prog X.w) X.A (inplaceOp op v u) (EP X pins σ Q) X.xe s
section
variable {X:Cx} {pos:Pos}
noncomputable def gName (i:Nat):TG:=fun v σ H Q=>Q (σ.set i (some v)) H
theorem pg_name {i:Nat} {x:Str} (hN:X.N.Nodup) (hi:X.N[i]? = some x) (hx:Loc X.env.scope x) (hf:X.fn x = true ∨ X.env.scope.names.lookup x = some .local:=by first | exact .inl rfl | exact .inr rfl | assumption):PG X (.Name x pos) (gName i):=by
  intro pins s σ H v u Q I r h
  exact wpAny_assign_Name (store_ok I hN hi hx r (fun s' I'=>⟨_,H,I',h⟩) hf)
noncomputable def gNil:TGs:=fun vs σ H Q=>vs = [] ∧ Q σ H
noncomputable def gCons (t:TG) (u:TGs):TGs:=fun vs σ H Q=>∃ v r,vs = v :: r ∧ t v σ H fun σ' H'=>u r σ' H' Q
theorem pgs_nil:PGs X [] gNil:=by
  intro pins s σ H vs us Q I r h
  obtain ⟨e,h⟩:=h
  subst e
  cases r
  exact assignInOrder_nil ⟨σ,H,I,h⟩
theorem pgs_cons {e:Expr} {es:List Expr} {t:TG} {u:TGs} (h1:PG X e t) (h2:PGs X es u)
    (hs:(assignEach (e :: es) X.env).map (·.2) = assign e X.env :: (assignEach es X.env).map (·.2):=by rfl):PGs X (e :: es) (gCons t u):=by
  intro pins s σ H vs us Q I r h
  obtain ⟨v,vr,e1,h⟩:=h
  subst e1
  cases r with
  | cons r rr =>
    rw [hs]
    refine assignInOrder_cons (thn (h1 pins s σ H _ _ _ I r h) fun _ s1 ⟨σ1,H1,I1,q1⟩=>?_)
    exact h2 pins s1 σ1 H1 _ _ Q I1 rr q1
noncomputable def gTup (K:PySem.W.Frag) (n:Nat) (t:TGs):TG:=fun v σ H Q=>∃ a xs,v = .ref a ∧ SqT K H a xs ∧ xs.length = n ∧ t xs σ H Q
theorem pg_tup {es:List Expr} {k:Nat} {t:TGs} {n:Nat} (hc:X.calm = true) (h:PGs X es t)
    (hn:(assignEach es X.env).length = n:=by rfl) (hst:(assignEach es X.env).findIdx? (·.1) = none:=by rfl):PG X (.Tuple es k pos) (gTup X.K n t):=by
  intro pins s σ H v u Q I r hw
  obtain ⟨a,xs,e1,hq,hl,hw⟩:=hw
  subst e1
  cases r
  obtain ⟨its,rv,ht,hz⟩:=I.tuple hq
  refine assign_Tuple_tuple (I.ok.hd hc) ht (by simp [hn,← hl,rv.length]) hst fun h' hx=>?_
  have I1:Inv X pins σ H { s with heap:=h' }:=I.kept (t':=s.toks) fun b o e=>hx b o (Nat.ne_of_lt (Heap.lt_size e)) e
  exact h pins _ σ H xs _ Q I1 (by simpa using rv) hw
noncomputable def tAsg (te:TE) (g:TG):TS:=fun D σ H=>te σ H fun x H1=>g x σ H1 D.nx
theorem ps_asg {tg e:Expr} {te:TE} {g:TG} (he:PE X e te) (hg:PG X tg g) (hs:swapsWithSole [tg] e pos.line X.env = pure false:=by rfl) (hw:swappedStores [tg] e X.env = pure none:=by rfl)
    (h1:(assignEach [tg] X.env).map (·.2) = [assign tg X.env]:=by rfl):PS X (.Assign [tg] e pos) (tAsg te g):=by
  intro pins s σ H D I h
  refine wpAny_Assign_stores (thn (he pins s σ H _ I h) fun v s1 ⟨x,H1,I1,r1,q1⟩=>?_) hs hw
  rw [h1]
  exact thn (hg pins s1 σ H1 x v _ I1 r1 q1) fun _ s2 q=>q
theorem ps_set {i:Nat} {x:Str} {e:Expr} {te:TE} {pos':Pos} (hN:X.N.Nodup) (hi:X.N[i]? = some x) (hx:Loc X.env.scope x) (he:PE X e te) (hs:swapsWith e (some (.Name x pos')) pos.line X.env = pure false:=by rfl) (hf:X.fn x = true ∨ X.env.scope.names.lookup x = some .local:=by first | exact .inl rfl | exact .inr rfl | assumption) :
    PS X (.Assign [.Name x pos'] e pos) (tAsg te (gName i)):=by
  intro pins s σ H D I h
  refine wpAny_Assign_Name (thn (he pins s σ H _ I h) fun v s1 ⟨y,H1,I1,r1,q1⟩=>?_) hs
  exact store_ok I1 hN hi hx r1 (fun s2 I2=>⟨_,H1,I2,q1⟩) hf
noncomputable def tAug (i:Nat) (te:TE) (ti:TIp):TS:=fun D σ H=>∃ x,σ[i]? = some (some x) ∧ te σ H fun y H1=>ti x y H1 fun z H2=>D.nx (σ.set i (some z)) H2
theorem ps_aug {i:Nat} {x:Str} {e:Expr} {te:TE} {op:Operator} {ti:TIp} {pos':Pos} (hN:X.N.Nodup) (hi:X.N[i]? = some x) (hx:Loc X.env.scope x) (he:PE X e te) (ho:PIp X op ti) (hf:X.fn x = true ∨ X.env.scope.names.lookup x = some .local:=by first | exact .inl rfl | exact .inr rfl | assumption) :
    PS X (.AugAssign (.Name x pos') op e pos) (tAug i te ti):=by
  intro pins s σ H D I h
  obtain ⟨v,e1,h⟩:=h
  obtain ⟨m,hn,hl⟩:=I.loc
  have vis:Vis X.env.scope x:=by rcases hx with k | k;exact .inl k;exact .inr (.inl k)
  obtain ⟨u,r,l⟩:=hl i x v hi e1 vis
  refine wpAny_AugAssign_Name ?_
  have go:wpAny (model X.prog X.w) X.A (eval e X.env) (fun w s₂=>wpAny (model X.prog X.w) X.A (inplaceOp op u w) (fun r s₃=>wpAny (model X.prog X.w) X.A (storeName X.env x r) (fun _=>SP X pins D .next) X.xe s₃) X.xe s₂) X.xe s:=by
    refine thn (he pins s σ H _ I h) fun w s1 ⟨y,H1,I1,r1,q1⟩=>?_
    refine thn (ho pins s1 σ H1 v y u w _ I1 r r1 q1) fun z s2 ⟨zv,H2,I2,r2,q2⟩=>?_
    exact store_ok I2 hN hi hx r2 (fun s3 I3=>⟨_,H2,I3,q2⟩) hf
  rcases l with ⟨hk,hm⟩ | ⟨hk,c,hc,hcell⟩
  · exact wpAny_loadName_local I.ok.kind hk hn hm go
  · rcases hk with hk | hk
    · exact wpAny_loadName_cell I.ok.kind hk hc hcell go
    · rcases hx with k | k
      · have:X.env.scope.names.lookup x = some .free:=hk
        rw [k] at this;cases this
      · have:X.env.scope.names.lookup x = some .free:=hk
        rw [k] at this;cases this
end
section
variable {X:Cx} {pos:Pos}
noncomputable def tWhile (c:TT) (tb:TS):TS:=fun D σ H=>∃ W:Nat → St → Hp → Prop,(∃ m,W m σ H) ∧ ∀ m σ H,W m σ H →
  c σ H fun b H1=>if b = true then ∃ N:St → Hp → Prop,(∀ σ' H',N σ' H' → ∃ m',m' < m ∧ W m' σ' H') ∧ tb { D with nx:=N,ct:=N,bk:=D.nx } σ H1 else D.nx σ H1
theorem ps_while {c:Expr} {body:List Stmt} {tc:TT} {tb:TS} (hp:PassesOwn (model X.prog X.w) X.A X.env X.xe) (hc:PT X c tc) (hb:PSs X body tb):PS X (.While c body [] pos) (tWhile tc tb):=by
  intro pins s σ H D I h
  obtain ⟨W,⟨m0,w0⟩,turn⟩:=h
  refine wpAny_While (codeAny_whileLoop (fun n s'=>∃ σ' H',Inv X pins σ' H' s' ∧ W n σ' H') ?_ m0 ⟨σ,H,I,w0⟩)
  rintro n s1 ⟨σ1,H1,I1,w1⟩
  refine wpAny_passesOwn hp (thn (hc pins s1 σ1 H1 _ I1 (turn n σ1 H1 w1)) fun b s2 ⟨H2,I2,q2⟩=>?_)
  cases b with
  | true =>
    obtain ⟨N,hN,q2⟩:=q2
    rw [if_pos rfl]
    refine wpAny_passesOwn hp (thn (hb pins s2 σ1 H2 _ I2 q2) fun f s3 q3=>?_)
    cases f with
    | next =>
      obtain ⟨σ3,H3,I3,n3⟩:=q3
      obtain ⟨m',hm,w3⟩:=hN σ3 H3 n3
      exact ⟨m',hm,σ3,H3,I3,w3⟩
    | cont =>
      obtain ⟨σ3,H3,I3,n3⟩:=q3
      obtain ⟨m',hm,w3⟩:=hN σ3 H3 n3
      exact ⟨m',hm,σ3,H3,I3,w3⟩
    | brk=>exact q3
    | ret v=>exact q3
  | false =>
    rw [if_neg Bool.false_ne_true]
    exact wpAny_execs_nil ⟨σ1,H2,I2,q2⟩
end
set_option genInjectivity false in
structure It where
  go:Nat → Hp → Prop
  yld:Nat → Hp → V → Hp → Prop
  stop:Nat → Hp → Prop
noncomputable def FpOk (X:Cx) (pins:List (Addr × Obj)) (H:Hp) (b:Addr):Prop :=
  H b = none ∧ b ≠ X.env.locals ∧ b ∉ X.fs ∧ (b ∈ X.ex ∨ X.s₀.heap.objs.size ≤ b) ∧ (∀ x c,X.env.cells.lookup x = some c → c ≠ b) ∧ ∀ p ∈ X.pn ++ pins,p.1 ≠ b
theorem Inv.fpOk {X:Cx} {pins:List (Addr × Obj)} {σ:St} {H H':Hp} {s:Shared} {b:Addr} (I:Inv X pins σ H s) (hb:s.heap.objs.size ≤ b) (hn:H' b = none):FpOk X pins H' b:=by
  refine ⟨hn,Nat.ne_of_gt (Nat.lt_of_lt_of_le I.lt hb),I.nofs hb,.inr (Nat.le_trans I.sz hb),fun x c e z=>?_,fun p hp z=>?_⟩
  · obtain ⟨v,q⟩:=I.cell x c e
    exact absurd (Nat.lt_of_lt_of_le q.lt (by rw [z];exact hb)) (Nat.lt_irrefl _)
  · exact absurd (Nat.lt_of_lt_of_le (Heap.lt_size (I.pin p hp).1) (by rw [z];exact hb)) (Nat.lt_irrefl _)
set_option genInjectivity false in
structure Turn (P:Program) (w:World) (K:PySem.W.Frag) (tg:Expr) (J:It) (fp:List Addr) (it:Addr) (tn:Nat → Heap → Prop):Prop where
  mem:it ∈ fp
  obj:∀ i h,tn i h → ∀ b ∈ fp,∃ o,h.get? b = some o ∧ ∀ v,o.data ≠ .cell v
  keep:∀ i h h',tn i h → (∀ b ∈ fp,∀ o,h.get? b = some o → h'.get? b = some o) → tn i h'
  item:∀ (X:Cx),X.prog = P → X.w = w → X.K = K → X.calm = true → ∀ (i:Nat) (pins:List (Addr × Obj)) (s:Shared) (σ:St) (H:Hp) (E:Value → Shared → Prop),Inv X pins σ H s → (∀ b ∈ fp,FpOk X pins H b) → tn i s.heap → J.go i H →
    wpAny (model P w) X.A (pyNext (.ref it)) (fun r s1=>∃ u,r = some u ∧
      wpAny (model P w) X.A (letOwnedTupleGo tg (.ref it) u) (fun _ s2=>∃ x H',Inv X pins σ H' s2 ∧ RelV x u ∧ J.yld i H x H' ∧ tn (i + 1) s2.heap ∧ ∀ b ∈ fp,H' b = none) E s1) E s
  done:∀ (X:Cx),X.prog = P → X.w = w → X.K = K → X.calm = true → ∀ (i:Nat) (pins:List (Addr × Obj)) (s:Shared) (σ:St) (H:Hp) (E:Value → Shared → Prop),Inv X pins σ H s → (∀ b ∈ fp,FpOk X pins H b) → tn i s.heap → J.stop i H →
    wpAny (model P w) X.A (pyNext (.ref it)) (fun r s1=>r = none ∧ Inv X pins σ H s1) E s
  self:∀ (A:Around) (i:Nat) (s:Shared) (Q:Value → Shared → Prop) (E:Value → Shared → Prop),tn i s.heap → Q (.ref it) s → wpAny (model P w) A (pyIter (.ref it)) Q E s
noncomputable abbrev TI:=St → Hp → (It → Hp → Prop) → Prop
noncomputable def PIE (X:Cx) (pins:List (Addr × Obj)) (σ:St) (tg:Expr) (R:It → Hp → Prop) (itv:Value) (s2:Shared):Prop :=
  ∃ (it:Addr) (fp:List Addr) (tn:Nat → Heap → Prop) (J:It) (H':Hp),itv = .ref it ∧ Inv X pins σ H' s2 ∧ Turn X.prog X.w X.K tg J fp it tn ∧ tn 0 s2.heap ∧ (∀ b ∈ fp,FpOk X pins H' b) ∧ R J H'
noncomputable def PI (X:Cx) (tg iter:Expr) (wi:TI):Prop :=
  ∀ (pins:List (Addr × Obj)) (s:Shared) (σ:St) (H:Hp) (R:It → Hp → Prop),Inv X pins σ H s → wi σ H R →
    wpAny (model X.prog X.w) X.A (eval iter X.env) (fun v s1=>wpAny (model X.prog X.w) X.A (pyIter v) (PIE X pins σ tg R) X.xe s1) X.xe s
theorem go_of {M:Model} {A:Around} {E:Value → Shared → Prop} {s:Shared} {tg:Expr} {it:Addr} {u:Value} {o:Obj} {n:String} {vs:Array Value} {Q:Unit → Shared → Prop} (ho:s.heap.get? it = some o) (hc:o.cls = .type n) (hd:o.data = .fields vs)
    (hn:["enumerate", "zip", "dict_itemiterator", "dict_reverseitemiterator", "odict_iterator", "itertools.zip_longest", "itertools.pairwise"].contains n = false) (hQ:Q () s):wpAny M A (letOwnedTupleGo tg (.ref it) u) Q E s:=by
  unfold letOwnedTupleGo
  cases tg <;> first
    | exact wpAny_pure hQ
    | (cases u <;> first
        | exact wpAny_pure hQ
        | (refine wpAny_bind (wpAny_load ho ?_)
           rw [hc,hd]
           show wpAny M A (if (["enumerate", "zip", "dict_itemiterator", "dict_reverseitemiterator", "odict_iterator", "itertools.zip_longest", "itertools.pairwise"].contains n && vs[0]? == some (rawInt _)) = true then _ else _) Q E s
           rw [if_neg (by intro h;rw [hn,Bool.false_and] at h;cases h)]
           exact wpAny_pure hQ))
noncomputable def Itl (K:PySem.W.Frag) (a:Addr):It :=
  ⟨fun i H=>∃ xs x,SqL K H a xs ∧ xs[i]? = some x,fun i H x H'=>H' = H ∧ ∀ xs,SqL K H a xs → xs[i]? = some x,fun i H=>∃ xs,SqL K H a xs ∧ xs.length ≤ i⟩
noncomputable def Itt (K:PySem.W.Frag) (a:Addr):It :=
  ⟨fun i H=>∃ xs x,SqT K H a xs ∧ xs[i]? = some x,fun i H x H'=>H' = H ∧ ∀ xs,SqT K H a xs → xs[i]? = some x,fun i H=>∃ xs,SqT K H a xs ∧ xs.length ≤ i⟩
noncomputable def Itr (lo:Int) (n:Nat):It:=⟨fun i _=>i < n,fun i H x H'=>H' = H ∧ x = .int (lo + i),fun i _=>n ≤ i⟩
theorem turn_list {P:Program} {w:World} {K:PySem.W.Frag} {tg:Expr} (a it:Addr):Turn P w K tg (Itl K a) [it] it (fun i h=>h.IsListIter it a i) where
  mem:=by simp
  obj:=fun i h st b hb=>by
    have e:b = it:=by simpa using hb
    subst e
    obtain ⟨o,e,c,d⟩:=st
    exact ⟨o,e,fun v z=>by rw [d] at z;cases z⟩
  keep:=fun i h h' st k=>st.at fun o e=>k it (by simp) o e
  item:=by
    intro X hP hw hK hc i pins s σ H E I hf st hg
    subst hP hw hK
    obtain ⟨xs,x,hq,hx⟩:=hg
    obtain ⟨its,rv,p,hz⟩:=I.list hq
    obtain ⟨u,hu,ru⟩:=rv.get hx
    obtain ⟨f0,f1,f2,f3,f4,f5⟩:=hf it (by simp)
    refine wpAny_pyNext_list_item st p.isList (x:=u) (by simpa using hu) fun h' st' sb=>?_
    have I1:Inv X pins σ H { s with heap:=h' }:=I.turned (t':=s.toks) (fun b o hb e=>(sb.2 b hb).trans e) f0 f1 f3 f4 f5
    obtain ⟨o,e,c,d⟩:=id st'
    exact ⟨u,rfl,go_of (s:={ s with heap:=h' }) e c d (by decide) ⟨x,H,I1,ru,⟨rfl,fun ys hy=>by rw [I.list_inj hy hq];exact hx⟩,st',fun b hb=>(hf b hb).1⟩⟩
  done:=by
    intro X hP hw hK hc i pins s σ H E I hf st hg
    subst hP hw hK
    obtain ⟨xs,hq,hx⟩:=hg
    obtain ⟨its,rv,p,hz⟩:=I.list hq
    obtain ⟨f0,f1,f2,f3,f4,f5⟩:=hf it (by simp)
    have hl:=rv.length
    exact wpAny_pyNext_list_end (I.ok.hd hc) st p.isList (by simp;(first | lia | omega)) fun h' eb=>⟨rfl,I.turned (t':=s.toks) (fun b o hb e=>eb b o hb e) f0 f1 f3 f4 f5⟩
  self:=fun _ _ _ _ _ st h=>wpAny_pyIter_listiter st h
theorem turn_tuple {P:Program} {w:World} {K:PySem.W.Frag} {tg:Expr} (a it:Addr):Turn P w K tg (Itt K a) [it] it (fun i h=>h.IsTupleIter it a i) where
  mem:=by simp
  obj:=fun i h st b hb=>by
    have e:b = it:=by simpa using hb
    subst e
    obtain ⟨o,e,c,d⟩:=st
    exact ⟨o,e,fun v z=>by rw [d] at z;cases z⟩
  keep:=fun i h h' st k=>st.at fun o e=>k it (by simp) o e
  item:=by
    intro X hP hw hK hc i pins s σ H E I hf st hg
    subst hP hw hK
    obtain ⟨xs,x,hq,hx⟩:=hg
    obtain ⟨its,rv,p,hz⟩:=I.tuple hq
    obtain ⟨u,hu,ru⟩:=rv.get hx
    obtain ⟨f0,f1,f2,f3,f4,f5⟩:=hf it (by simp)
    refine wpAny_pyNext_tuple_item st (show s.heap.IsTuple a its.toArray from p) (x:=u) (by simpa using hu) fun h' st' sb=>?_
    have I1:Inv X pins σ H { s with heap:=h' }:=I.turned (t':=s.toks) (fun b o hb e=>(sb.2 b hb).trans e) f0 f1 f3 f4 f5
    obtain ⟨o,e,c,d⟩:=id st'
    exact ⟨u,rfl,go_of (s:={ s with heap:=h' }) e c d (by decide) ⟨x,H,I1,ru,⟨rfl,fun ys hy=>by rw [I.tuple_inj hy hq];exact hx⟩,st',fun b hb=>(hf b hb).1⟩⟩
  done:=by
    intro X hP hw hK hc i pins s σ H E I hf st hg
    subst hP hw hK
    obtain ⟨xs,hq,hx⟩:=hg
    obtain ⟨its,rv,p,hz⟩:=I.tuple hq
    obtain ⟨f0,f1,f2,f3,f4,f5⟩:=hf it (by simp)
    have hl:=rv.length
    exact wpAny_pyNext_tuple_end (I.ok.hd hc) st (show s.heap.IsTuple a its.toArray from p) (by simp;(first | lia | omega)) fun h' eb=>⟨rfl,I.turned (t':=s.toks) (fun b o hb e=>eb b o hb e) f0 f1 f3 f4 f5⟩
  self:=fun _ _ _ _ _ st h=>wpAny_pyIter_tupleiter st h
theorem turn_range {P:Program} {w:World} {K:PySem.W.Frag} {tg:Expr} (it:Addr) (lo:Int) (n:Nat):Turn P w K tg (Itr lo n) [it] it (fun i h=>IsRangeIter h it (lo + (i:Nat) * 1) ((n:Int) - (i:Nat)) 1) where
  mem:=by simp
  obj:=fun i h st b hb=>by
    have e:b = it:=by simpa using hb
    subst e
    exact ⟨_,st,fun v z=>by
      have z':Data.fields _ = Data.cell v:=z
      cases z'⟩
  keep:=fun i h h' st k=>k it (by simp) _ st
  item:=by
    intro X hP hw hK hc i pins s σ H E I hf st hg
    subst hP hw hK
    obtain ⟨f0,f1,f2,f3,f4,f5⟩:=hf it (by simp)
    have W:=Walks.range (prog:=X.prog) (w:=X.w) (I.ok.hd hc) it lo 1 n
    refine W.item i s _ _ hg st fun v h' tk hv st' kk=>?_
    obtain ⟨t,rfl⟩:=hv
    have I1:Inv X pins σ H { s with heap:=h',toks:=tk }:=I.turned (fun b o hb e=>kk b o (by simpa using hb) e) f0 f1 f3 f4 f5
    refine ⟨_,rfl,go_of (s:={ s with heap:=h',toks:=tk }) (n := "range_iterator") st' rfl rfl (by decide) ⟨.int (lo + i),H,I1,⟨t,?_⟩,⟨rfl,rfl⟩,st',fun b hb=>(hf b hb).1⟩⟩
    rw [Int.mul_one]
  done:=by
    intro X hP hw hK hc i pins s σ H E I hf st hg
    subst hP hw hK
    obtain ⟨f0,f1,f2,f3,f4,f5⟩:=hf it (by simp)
    exact wpAny_pyNext_range_end (I.ok.hd hc) st (by have:n ≤ i:=hg;(first | lia | omega)) fun h' eb=>⟨rfl,I.turned (t':=s.toks) (fun b o hb e=>eb b o hb e) f0 f1 f3 f4 f5⟩
  self:=fun _ _ _ _ _ st h=>wpAny_pyIter_rangeiter st h
end L2
namespace L2
open PySem PySem.Spec PyProof.Rows
section
variable {X:Cx} {tg:Expr}
theorem range_it {pins:List (Addr × Obj)} {σ:St} {H:Hp} {s:Shared} {R:It → Hp → Prop} {E:Value → Shared → Prop} {lo hi:Int} {t u v:Tok} {tk:Nat} (I:Inv X pins σ H s) (h1:-(2 ^ 62) ≤ lo) (h2:lo < 2 ^ 62) (h3:-(2 ^ 62) ≤ hi) (h4:hi < 2 ^ 62)
    (q:R (Itr lo (hi - lo).toNat) H):wpAny (model X.prog X.w) X.A (pyIter (.ref s.heap.objs.size)) (PIE X pins σ tg R) E { s with heap:=s.heap.push { cls:=.type "range", data:=.fields #[.int lo t,.int hi u,.int 1 v] },toks:=tk }:=by
  refine wpAny_pyIter_range (IsRange.new ..) (small_one h1 h2 h3 h4) ?_
  have I1:Inv X pins σ H { s with heap:=s.heap.push { cls:=.type "range", data:=.fields #[.int lo t,.int hi u,.int 1 v] },toks:=tk }:=I.kept fun b o e=>Heap.get?_push_of_some _ e
  refine ⟨(s.heap.push { cls:=.type "range", data:=.fields #[.int lo t,.int hi u,.int 1 v] }).objs.size,[(s.heap.push { cls:=.type "range", data:=.fields #[.int lo t,.int hi u,.int 1 v] }).objs.size],_,_,H,rfl,
    I1.kept (t':=tk) fun b o e=>Heap.get?_push_of_some _ e,turn_range _ lo (hi - lo).toNat,?_,fun b hb=>?_,q⟩
  · have e1:lo + ((0:Nat):Int) * 1 = lo:=by simp
    have e2:(((hi - lo).toNat:Nat):Int) - ((0:Nat):Int) = Builtin.Range.rangeSize lo hi 1:=by rw [rangeSize_one];split <;> (first | lia | omega)
    show IsRangeIter _ _ (lo + ((0:Nat):Int) * 1) ((((hi - lo).toNat:Nat):Int) - ((0:Nat):Int)) 1
    rw [e1,e2]
    exact Heap.get?_push_size _ rfl
  · have e:b = (s.heap.push { cls:=.type "range", data:=.fields #[.int lo t,.int hi u,.int 1 v] }).objs.size:=by simpa using hb
    subst e
    exact I1.fpOk (Nat.le_refl _) (I1.hok.fresh (Nat.le_refl _))
noncomputable def iRng1 (ta:TA):TI:=fun σ H R=>ta σ H fun vs H1=>∃ j:Int,vs = [.int j] ∧ -(2 ^ 62) ≤ j ∧ j < 2 ^ 62 ∧ R (Itr 0 j.toNat) H1
noncomputable def iRng2 (ta:TA):TI:=fun σ H R=>ta σ H fun vs H1=>∃ i j:Int,vs = [.int i,.int j] ∧ (-(2 ^ 62) ≤ i ∧ i < 2 ^ 62 ∧ -(2 ^ 62) ≤ j ∧ j < 2 ^ 62) ∧ R (Itr i (j - i).toNat) H1
theorem pi_range1 {a:Expr} {ta:TA} {p pos:Pos} (hg:Gl X "range") (hm:X.mg "range" = none) (ha:PA X [a] ta) (hs:starEach [a] X.env = [(false,eval a X.env)]:=by rfl):PI X tg (.Call (.Name "range" p) [a] [] pos) (iRng1 ta):=by
  intro pins s σ H R I h
  refine Call_ (ld_blt I hg hm boot_range (PyProof.Rows.callWith_type1 (thn (ha pos pins s σ H _ I h) fun us s1 ⟨vs,H1,I1,r1,q1⟩=>?_) hs rfl))
  obtain ⟨j,e,q1,q2,q⟩:=q1
  subst e
  cases r1 with
  | cons r rr =>
    cases rr
    obtain ⟨t,rfl⟩:=r
    exact call_range_1 (range_it I1 (by (first | lia | omega)) (by (first | lia | omega)) q1 q2 (by simpa using q))
theorem pi_range2 {a b:Expr} {ta:TA} {p pos:Pos} (hg:Gl X "range") (hm:X.mg "range" = none) (ha:PA X [a,b] ta) (hs:starEach [a,b] X.env = [(false,eval a X.env),(false,eval b X.env)]:=by rfl) (hs2:starEach [b] X.env = [(false,eval b X.env)]:=by rfl) :
    PI X tg (.Call (.Name "range" p) [a,b] [] pos) (iRng2 ta):=by
  intro pins s σ H R I h
  refine Call_ (ld_blt I hg hm boot_range (PyProof.Rows.callWith_type1 (thn (ha pos pins s σ H _ I h) fun us s1 ⟨vs,H1,I1,r1,q1⟩=>?_) (by rw [hs,hs2]) (by rw [hs2];rfl)))
  obtain ⟨i,j,e,⟨q1,q2,q3,q4⟩,q⟩:=q1
  subst e
  cases r1 with
  | cons r rr =>
    cases rr with
    | cons r' rr =>
      cases rr
      obtain ⟨t,rfl⟩:=r
      obtain ⟨t',rfl⟩:=r'
      exact call_range_2 (range_it I1 q1 q2 q3 q4 q)
noncomputable def tFor (wi:TI) (g:TG) (tb:TS):TS:=fun D σ H=>wi σ H fun J H1=>∃ W:Nat → Nat → St → Hp → Prop,(∃ m,W 0 m σ H1) ∧ ∀ i m σ H,W i m σ H →
  (J.stop i H ∧ D.nx σ H) ∨ (J.go i H ∧ ∃ N:St → Hp → Prop,(∀ σ' H',N σ' H' → ∃ m',m' < m ∧ W (i + 1) m' σ' H') ∧ ∀ x H',J.yld i H x H' → g x σ H' fun σ2 H2=>tb { D with nx:=N,ct:=N,bk:=D.nx } σ2 H2)
noncomputable def pinsAt (fp:List Addr) (h:Heap):List (Addr × Obj):=fp.filterMap fun b=>(h.get? b).map fun o=>(b,o)
theorem mem_pinsAt {fp:List Addr} {h:Heap} {b:Addr} {o:Obj} (hb:b ∈ fp) (e:h.get? b = some o):(b,o) ∈ pinsAt fp h:=List.mem_filterMap.mpr ⟨b,hb,by rw [e];rfl⟩
theorem of_pinsAt {fp:List Addr} {h:Heap} {p:Addr × Obj} (hp:p ∈ pinsAt fp h):p.1 ∈ fp ∧ h.get? p.1 = some p.2:=by
  obtain ⟨b,hb,e⟩:=List.mem_filterMap.mp hp
  cases q:h.get? b with
  | none=>rw [q] at e;cases e
  | some o =>
    rw [q] at e
    have e':(b,o) = p:=Option.some.inj e
    subst e'
    exact ⟨hb,q⟩
theorem Inv.pinned {pins:List (Addr × Obj)} {σ:St} {H:Hp} {s:Shared} {fp:List Addr} (I:Inv X pins σ H s) (hf:∀ b ∈ fp,FpOk X pins H b) (ho:∀ b ∈ fp,∃ o,s.heap.get? b = some o ∧ ∀ v,o.data ≠ .cell v):Inv X (pins ++ pinsAt fp s.heap) σ H s :=
  I.pins_of fun p hp=>(List.mem_append.mp hp).elim (fun z=>I.pin p (List.mem_append_right _ z)) fun z=>by
    obtain ⟨hb,e⟩:=of_pinsAt z
    obtain ⟨f0,f1,f2,_⟩:=hf p.1 hb
    obtain ⟨o,e',d⟩:=ho p.1 hb
    rw [e] at e';cases e'
    exact ⟨e,f0,f1,f2,d⟩
theorem Inv.unpinned {pins pl:List (Addr × Obj)} {σ:St} {H:Hp} {s:Shared} (I:Inv X (pins ++ pl) σ H s):Inv X pins σ H s:=I.pins_of fun p hp=>I.pin p (List.mem_append_right _ (List.mem_append_left _ hp))
theorem ps_for {iter:Expr} {body:List Stmt} {wi:TI} {g:TG} {tb:TS} {pos:Pos} (hp:PassesOwn (model X.prog X.w) X.A X.env X.xe) (hc:X.calm = true) (hi:PI X tg iter wi) (hg:PG X tg g) (hb:PSs X body tb)
    (hs:∀ x,foldedSetIterable iter X.env x = pure x:=by intro _;rfl):PS X (.For tg iter body [] pos) (tFor wi g tb):=by
  intro pins s σ H D I h
  refine wpAny_For (thn (hi pins s σ H _ I h) fun v s1 h1=>thn h1 fun itv s2 h2=>?_) hs
  obtain ⟨it,fp,tn,J,H2,e,I2,T,st2,f2,W,⟨m0,w0⟩,turn⟩:=h2
  subst e
  have stat:∀ {H':Hp},(∀ b ∈ fp,H' b = none) → ∀ b ∈ fp,FpOk X pins H' b:=fun hn b hb=>⟨hn b hb,(f2 b hb).2⟩
  refine codeAny_forLoop_any (fun n s'=>∃ i σ' H',Inv X pins σ' H' s' ∧ tn i s'.heap ∧ (∀ b ∈ fp,H' b = none) ∧ W i n σ' H') ?_ m0 ⟨0,σ,H2,I2,st2,fun b hb=>(f2 b hb).1,w0⟩
  rintro n s3 ⟨i,σ3,H3,I3,st3,fr3,w3⟩
  rcases turn i n σ3 H3 w3 with ⟨stop,qn⟩ | ⟨go,N,hN,step⟩
  · refine wpAny_passesOwn hp (thn (T.done X rfl rfl rfl hc i pins s3 σ3 H3 X.xe I3 (stat fr3) st3 stop) fun r s4 ⟨hr,I4⟩=>?_)
    subst hr
    exact wpAny_execs_nil ⟨σ3,H3,I4,qn⟩
  · refine wpAny_passesOwn hp (thn (T.item X rfl rfl rfl hc i pins s3 σ3 H3 X.xe I3 (stat fr3) st3 go) fun r s4 ⟨u,hr,h4⟩=>?_)
    subst hr
    refine wpAny_passesOwn hp (thn h4 fun _ s5 ⟨x,H5,I5,r5,y5,st5,fr5⟩=>?_)
    have I5':=I5.pinned (stat fr5) (T.obj _ _ st5)
    refine wpAny_passesOwn hp (thn (hg _ s5 σ3 H5 x u _ I5' r5 (step x H5 y5)) fun _ s6 ⟨σ6,H6,I6,q6⟩=>?_)
    refine wpAny_passesOwn hp (thn (hb _ s6 σ6 H6 _ I6 q6) fun f s7 q7=>?_)
    have again:∀ {σ7:St} {H7:Hp},Inv X (pins ++ pinsAt fp s5.heap) σ7 H7 s7 → N σ7 H7 → ∃ m,m < n ∧ ∃ i σ' H',Inv X pins σ' H' s7 ∧ tn i s7.heap ∧ (∀ b ∈ fp,H' b = none) ∧ W i m σ' H':=fun {σ7 H7} I7 n7=>by
      obtain ⟨m',hm,w7⟩:=hN σ7 H7 n7
      refine ⟨m',hm,i + 1,σ7,H7,I7.unpinned,T.keep _ _ _ st5 fun b hb o e=>(I7.pin (b,o) (List.mem_append_right _ (List.mem_append_right _ (mem_pinsAt hb e)))).1,fun b hb=>?_,w7⟩
      obtain ⟨o,e,d⟩:=T.obj _ _ st5 b hb
      exact (I7.pin (b,o) (List.mem_append_right _ (List.mem_append_right _ (mem_pinsAt hb e)))).2.1
    cases f with
    | next=>obtain ⟨σ7,H7,I7,n7⟩:=q7;exact again I7 n7
    | cont=>obtain ⟨σ7,H7,I7,n7⟩:=q7;exact again I7 n7
    | brk=>obtain ⟨σ7,H7,I7,q7⟩:=q7;exact ⟨σ7,H7,I7.unpinned,q7⟩
    | ret v=>obtain ⟨x7,σ7,H7,I7,r7,q7⟩:=q7;exact ⟨x7,σ7,H7,I7.unpinned,r7,q7⟩
end
end L2
namespace L2
open PySem PySem.Spec PyProof.Rows
noncomputable abbrev R2:=V → V → Hp → VK → Prop
noncomputable def OpR (X:Cx) (f:Value → Value → Sem Value) (r:R2):Prop :=
  ∀ (pins:List (Addr × Obj)) (s:Shared) (σ:St) (H:Hp) (x y:V) (v u:Value) (Q:VK),Inv X pins σ H s → RelV x v → RelV y u → r x y H Q →
    wpAny (model X.prog X.w) X.A (f v u) (EP X pins σ Q) X.xe s
noncomputable def UnR (X:Cx) (f:Value → Sem Value) (r:V → Hp → VK → Prop):Prop :=
  ∀ (pins:List (Addr × Obj)) (s:Shared) (σ:St) (H:Hp) (x:V) (v:Value) (Q:VK),Inv X pins σ H s → RelV x v → r x H Q →
    wpAny (model X.prog X.w) X.A (f v) (EP X pins σ Q) X.xe s
noncomputable def CallR (X:Cx) (f:Value) (r:List V → Hp → VK → Prop):Prop :=
  ∀ (pins:List (Addr × Obj)) (s:Shared) (σ:St) (H:Hp) (xs:List V) (us:List Value) (Q:VK),Inv X pins σ H s → Vals xs us → r xs H Q →
    wpAny (model X.prog X.w) X.A (call f us) (EP X pins σ Q) X.xe s
noncomputable def TruR (X:Cx) (r:V → Hp → (Bool → Hp → Prop) → Prop):Prop :=
  ∀ (pins:List (Addr × Obj)) (s:Shared) (σ:St) (H:Hp) (x:V) (v:Value) (Q:Bool → Hp → Prop),Inv X pins σ H s → RelV x v → r x H Q →
    wpAny (model X.prog X.w) X.A (truthy v) (TP X pins σ Q) X.xe s
noncomputable def tOp (r:R2) (ta tb:TE):TE:=fun σ H Q=>ta σ H fun x H1=>tb σ H1 fun y H2=>r x y H2 Q
noncomputable def tUn (r:V → Hp → VK → Prop) (ta:TE):TE:=fun σ H Q=>ta σ H fun x H1=>r x H1 Q
noncomputable def rI (C:Int → Int → Prop) (g:Int → Int → V):R2:=fun x y H Q=>∃ i j,x = .int i ∧ y = .int j ∧ C i j ∧ Q (g i j) H
noncomputable def rI0 (g:Int → Int → V):R2:=fun x y H Q=>∃ i j,x = .int i ∧ y = .int j ∧ Q (g i j) H
noncomputable def rU (g:Int → V):V → Hp → VK → Prop:=fun x H Q=>∃ i,x = .int i ∧ Q (g i) H
section
variable {X:Cx} {a b c:Expr} {ta tb tc:TE} {pos:Pos}
theorem binT (ha:PE X a ta) (hb:PE X b tb) {pins:List (Addr × Obj)} {s:Shared} {σ:St} {H:Hp} {R:V → V → Hp → Prop} (I:Inv X pins σ H s)
    (h:ta σ H fun x H1=>tb σ H1 fun y H2=>R x y H2) {Q:Value → Shared → Prop} {f:Value → Value → Sem Value}
    (hf:∀ v u s2 x y H2,Inv X pins σ H2 s2 → RelV x v → RelV y u → R x y H2 → wpAny (model X.prog X.w) X.A (f v u) Q X.xe s2) :
    wpAny (model X.prog X.w) X.A (eval a X.env) (fun v s₁=>wpAny (model X.prog X.w) X.A (eval b X.env) (fun u s₂=>wpAny (model X.prog X.w) X.A (f v u) Q X.xe s₂) X.xe s₁) X.xe s:=by
  refine thn (ha pins s σ H _ I h) fun v s1 ⟨x,H1,I1,r1,q1⟩=>?_
  refine thn (hb pins s1 σ H1 _ I1 q1) fun u s2 ⟨y,H2,I2,r2,q2⟩=>?_
  exact hf v u s2 x y H2 I2 r1 r2 q2
theorem pe_op {op:Operator} {r:R2} (ho:OpR X (binaryOp op) r) (ha:PE X a ta) (hb:PE X b tb):PE X (.BinOp a op b pos) (tOp r ta tb):=by
  intro pins s σ H Q I h
  exact wpAny_BinOp (binT ha hb I h fun v u s2 x y H2 I2 rx ry q=>ho pins s2 σ H2 x y v u Q I2 rx ry q)
theorem pe_un {op:UnaryOp} {r:V → Hp → VK → Prop} (ho:UnR X (unaryOp op) r) (ha:PE X a ta):PE X (.UnaryOp op a pos) (tUn r ta):=by
  intro pins s σ H Q I h
  exact UnaryOp_ (thn (ha pins s σ H _ I h) fun v s1 ⟨x,H1,I1,r1,q1⟩=>ho pins s1 σ H1 x v Q I1 r1 q1)
theorem opI {f:Value → Value → Sem Value} {C:Int → Int → Prop} {g:Int → Int → Int}
    (rule:∀ (i j:Int) (t u:Tok) (s:Shared) (Q:Value → Shared → Prop) (E:Value → Shared → Prop),C i j → Q (.int (g i j) s.toks) { s with toks:=s.toks + 1 } → wpAny (model X.prog X.w) X.A (f (.int i t) (.int j u)) Q E s) :
    OpR X f (rI C fun i j=>.int (g i j)):=by
  intro pins s σ H x y v u Q I rx ry h
  obtain ⟨i,j,rfl,rfl,hc,q⟩:=h
  obtain ⟨t,rfl⟩:=rx
  obtain ⟨t',rfl⟩:=ry
  exact rule i j t t' s _ _ hc ⟨.int (g i j),H,I.tok _,⟨_,rfl⟩,q⟩
theorem opI0 {f:Value → Value → Sem Value} {g:Int → Int → Int}
    (rule:∀ (i j:Int) (t u:Tok) (s:Shared) (Q:Value → Shared → Prop) (E:Value → Shared → Prop),Q (.int (g i j) s.toks) { s with toks:=s.toks + 1 } → wpAny (model X.prog X.w) X.A (f (.int i t) (.int j u)) Q E s) :
    OpR X f (rI0 fun i j=>.int (g i j)):=by
  intro pins s σ H x y v u Q I rx ry h
  obtain ⟨i,j,rfl,rfl,q⟩:=h
  obtain ⟨t,rfl⟩:=rx
  obtain ⟨t',rfl⟩:=ry
  exact rule i j t t' s _ _ ⟨.int (g i j),H,I.tok _,⟨_,rfl⟩,q⟩
theorem opB0 {f:Value → Value → Sem Value} {g:Int → Int → Bool}
    (rule:∀ (i j:Int) (t u:Tok) (s:Shared) (Q:Value → Shared → Prop) (E:Value → Shared → Prop),Q (.bool (g i j)) s → wpAny (model X.prog X.w) X.A (f (.int i t) (.int j u)) Q E s) :
    OpR X f (rI0 fun i j=>.bl (g i j)):=by
  intro pins s σ H x y v u Q I rx ry h
  obtain ⟨i,j,rfl,rfl,q⟩:=h
  obtain ⟨t,rfl⟩:=rx
  obtain ⟨t',rfl⟩:=ry
  exact rule i j t t' s _ _ ⟨.bl (g i j),H,I,rfl,q⟩
noncomputable def CDiv (i j:Int):Prop:=0 < j ∧ j < 1073741824
noncomputable def CPow (i j:Int):Prop:=0 ≤ j ∧ j ≤ 1000000 ∧ i.natAbs < 2 ^ 64
noncomputable def CMul (i j:Int):Prop:=(-(2 ^ 64) < i ∧ i < 2 ^ 64) ∨ (-(2 ^ 64) < j ∧ j < 2 ^ 64)
theorem CMul.ok {i j:Int} (h:CMul i j):IntMulOk i j:=by
  rcases h with ⟨h1,h2⟩ | ⟨h1,h2⟩
  · exact .of_left (intBits_le_64 h1 h2)
  · exact .of_right (intBits_le_64 h1 h2)
theorem op_add:OpR X (binaryOp .Add) (rI0 fun i j=>.int (i + j)):=opI0 fun _ _ _ _ _ _ _ q=>add_int q
theorem op_sub:OpR X (binaryOp .Sub) (rI0 fun i j=>.int (i - j)):=opI0 fun _ _ _ _ _ _ _ q=>sub_int q
theorem op_mul:OpR X (binaryOp .Mult) (rI CMul fun i j=>.int (i * j)):=opI fun _ _ _ _ _ _ _ hc q=>mul_int q hc.ok
theorem op_fdiv:OpR X (binaryOp .FloorDiv) (rI CDiv fun i j=>.int (i / j)):=opI fun i j _ _ _ _ _ hc q=>by
  have h1:(0:Int) < j:=hc.1
  have h2:j < 1073741824:=hc.2
  exact floordiv_int (by (first | lia | omega)) (by rw [Int.fdiv_eq_ediv_of_nonneg i (by (first | lia | omega))];exact q) (.inl (PyProof.noPylong_small (by (first | lia | omega))))
theorem op_mod:OpR X (binaryOp .Mod) (rI (fun _ j=>0 < j) fun i j=>.int (i % j)):=opI fun i j _ _ _ _ _ hc q=>by
  have h1:(0:Int) < j:=hc
  exact mod_int' (by (first | lia | omega)) (by rw [Int.fmod_eq_emod_of_nonneg i (by (first | lia | omega))];exact q)
theorem op_pow:OpR X (binaryOp .Pow) (rI CPow fun i j=>.int (i ^ j.toNat)):=opI fun _ _ _ _ _ _ _ hc q=>pow_int_small hc.1 hc.2.1 hc.2.2 q
theorem iop_add:OpR X (inplaceOp .Add) (rI0 fun i j=>.int (i + j)):=opI0 fun _ _ _ _ _ _ _ q=>iadd_int q
theorem iop_sub:OpR X (inplaceOp .Sub) (rI0 fun i j=>.int (i - j)):=opI0 fun _ _ _ _ _ _ _ q=>isub_int q
theorem unI {f:Value → Sem Value} {g:Int → Int}
    (rule:∀ (i:Int) (t:Tok) (s:Shared) (Q:Value → Shared → Prop) (E:Value → Shared → Prop),Q (.int (g i) s.toks) { s with toks:=s.toks + 1 } → wpAny (model X.prog X.w) X.A (f (.int i t)) Q E s) :
    UnR X f (rU fun i=>.int (g i)):=by
  intro pins s σ H x v Q I rx h
  obtain ⟨i,rfl,q⟩:=h
  obtain ⟨t,rfl⟩:=rx
  exact rule i t s _ _ ⟨.int (g i),H,I.tok _,⟨_,rfl⟩,q⟩
theorem un_neg:UnR X (unaryOp .USub) (rU fun i=>.int (-i)):=unI fun _ _ _ _ _ q=>neg_int q
end
section
variable {X:Cx} {a b c:Expr} {ta tb tc:TE} {pos:Pos}
theorem fin_bl {pins:List (Addr × Obj)} {σ:St} {H:Hp} {s:Shared} {Q:VK} {k k':Bool} (I:Inv X pins σ H s) (q:Q (.bl k) H) (e:k = k'):EP X pins σ Q (.bool k') s:=by
  subst e
  exact ⟨.bl k,H,I,rfl,q⟩
theorem op_lt:OpR X (compareOp .Lt) (rI0 fun i j=>.bl (decide (i < j))):=opB0 fun _ _ _ _ _ _ _ q=>lt_int q
theorem op_le:OpR X (compareOp .LtE) (rI0 fun i j=>.bl (decide (i ≤ j))):=opB0 fun _ _ _ _ _ _ _ q=>le_int q
theorem op_gt:OpR X (compareOp .Gt) (rI0 fun i j=>.bl (decide (j < i))):=opB0 fun _ _ _ _ _ _ _ q=>gt_int q
theorem op_ge:OpR X (compareOp .GtE) (rI0 fun i j=>.bl (decide (j ≤ i))):=opB0 fun _ _ _ _ _ _ _ q=>ge_int q
theorem op_in_str:OpR X (compareOp .In) (fun x y H Q=>∃ i j,x = .str i ∧ y = .str j ∧ Q (.bl (!(Builtin.Str.occurrences j i 0 j.length 1).isEmpty)) H):=by
  intro pins s σ H x y v u Q I rx ry h
  obtain ⟨i,j,rfl,rfl,q⟩:=h
  obtain ⟨t,rfl⟩:=rx
  obtain ⟨t',rfl⟩:=ry
  exact in_str (fin_bl I q rfl)
theorem op_isN:OpR X (compareOp .Is) (fun x y H Q=>y = .non ∧ Q (.bl (decide (x = .non))) H):=by
  intro pins s σ H x y v u Q I rx ry h
  obtain ⟨rfl,q⟩:=h
  cases ry
  refine is_none_gen (fin_bl I q ?_)
  cases x <;> first
    | (cases rx;rfl)
    | (obtain ⟨t,rfl⟩:=rx;rfl)
theorem op_notN:OpR X (compareOp .IsNot) (fun x y H Q=>y = .non ∧ Q (.bl (!decide (x = .non))) H):=by
  intro pins s σ H x y v u Q I rx ry h
  obtain ⟨rfl,q⟩:=h
  cases ry
  refine isnot_none_gen (fin_bl I q ?_)
  cases x <;> first
    | (cases rx;rfl)
    | (obtain ⟨t,rfl⟩:=rx;rfl)
theorem op_notin_str:OpR X (compareOp .NotIn) (fun x y H Q=>∃ i j,x = .str i ∧ y = .str j ∧ Q (.bl (!(!(Builtin.Str.occurrences j i 0 j.length 1).isEmpty))) H):=by
  intro pins s σ H x y v u Q I rx ry h
  obtain ⟨i,j,rfl,rfl,q⟩:=h
  obtain ⟨t,rfl⟩:=rx
  obtain ⟨t',rfl⟩:=ry
  exact notIn_str (fin_bl I q rfl)
theorem pe_cmpR {op:CmpOp} {r:R2} (ho:OpR X (compareOp op) r) (ha:PE X a ta) (hb:PE X b tb) (hm:behindInMarks op b = false):PE X (.Compare a [op] [b] pos) (tOp r ta tb):=by
  intro pins s σ H Q I h
  exact wpAny_Compare1 (binT ha hb I h fun v u s2 x y H2 I2 rx ry q=>ho pins s2 σ H2 x y v u Q I2 rx ry q) hm
noncomputable def tTest (t:TE):TT:=fun σ H Q=>t σ H fun x H'=>∃ k,x = .bl k ∧ Q k H'
theorem pt_cmpR {op:CmpOp} {r:R2} (ho:OpR X (compareOp op) r) (ha:PE X a ta) (hb:PE X b tb) (hm:behindInMarks op b = false):PT X (.Compare a [op] [b] pos) (tTest (tOp r ta tb)):=by
  intro pins s σ H Q I h
  refine wpAny_isTrue_Compare1 (thn (ha pins s σ H _ I h) fun v s1 ⟨x,H1,I1,r1,q1⟩=>thn (hb pins s1 σ H1 _ I1 q1) fun u s2 ⟨y,H2,I2,r2,q2⟩ =>
    thn (ho pins s2 σ H2 x y v u _ I2 r1 r2 q2) fun c s3 ⟨z,H3,I3,r3,k,e,q3⟩=>?_) hm
  subst e
  cases r3
  exact wpAny_truthy_bool ⟨H3,I3,q3⟩
noncomputable def tChain (r r':R2) (ta tb tc:TE):TE:=fun σ H Q=>ta σ H fun x H1=>tb σ H1 fun y H2=>r x y H2 fun z H3=>∃ k,z = .bl k ∧
  (if k = true then tc σ H3 fun w' H4=>r' y w' H4 Q else Q (.bl false) H3)
theorem pe_chain {op op':CmpOp} {r r':R2} (ho:OpR X (compareOp op) r) (ho':OpR X (compareOp op') r') (ha:PE X a ta) (hb:PE X b tb) (hc:PE X c tc)
    (hm:lastMarks [op,op'] [b,c] = false:=by with_unfolding_all rfl):PE X (.Compare a [op,op'] [b,c] pos) (tChain r r' ta tb tc):=by
  intro pins s σ H Q I h
  refine Compare_chain (thn (ha pins s σ H _ I h) fun v s1 ⟨x,H1,I1,r1,q1⟩=>chain_link (thn (hb pins s1 σ H1 _ I1 q1) fun u s2 ⟨y,H2,I2,r2,q2⟩ =>
    thn (ho pins s2 σ H2 x y v u _ I2 r1 r2 q2) fun d s3 ⟨z,H3,I3,r3,k,e,q3⟩=>?_)) hm
  subst e
  cases r3
  refine wpAny_truthy_bool ?_
  cases k with
  | false=>exact ite_ff ⟨.bl false,H3,I3,rfl,q3⟩
  | true=>exact ite_tt (chain_last (thn (hc pins s3 σ H3 _ I3 q3) fun w' s4 ⟨z',H4,I4,r4,q4⟩=>ho' pins s4 σ H4 y z' u w' Q I4 r2 r4 q4))
theorem pt_chain {op op':CmpOp} {r r':R2} (ho:OpR X (compareOp op) r) (ho':OpR X (compareOp op') r') (ha:PE X a ta) (hb:PE X b tb) (hc:PE X c tc)
    (hm:lastMarks [op,op'] [b,c] = false:=by with_unfolding_all rfl):PT X (.Compare a [op,op'] [b,c] pos) (tTest (tChain r r' ta tb tc)):=by
  intro pins s σ H Q I h
  refine isTrue_chain (thn (ha pins s σ H _ I h) fun v s1 ⟨x,H1,I1,r1,q1⟩=>test_link (thn (hb pins s1 σ H1 _ I1 q1) fun u s2 ⟨y,H2,I2,r2,q2⟩ =>
    thn (ho pins s2 σ H2 x y v u _ I2 r1 r2 q2) fun d s3 ⟨z,H3,I3,r3,k,e,q3⟩=>?_)) hm
  subst e
  cases r3
  refine wpAny_truthy_bool ?_
  cases k with
  | false =>
    obtain ⟨k',e',q'⟩:=q3
    cases e'
    exact ite_ff ⟨H3,I3,q'⟩
  | true =>
    refine ite_tt (test_last (thn (hc pins s3 σ H3 _ I3 q3) fun w' s4 ⟨z',H4,I4,r4,q4⟩=>thn (ho' pins s4 σ H4 y z' u w' _ I4 r2 r4 q4) fun d' s5 ⟨z2,H5,I5,r5,k2,e2,q5⟩=>?_))
    subst e2
    cases r5
    exact wpAny_truthy_bool ⟨H5,I5,q5⟩
noncomputable def TruV (K:PySem.W.Frag) (x:V) (H:Hp) (k:Bool):Prop :=
  match x with
  | .non=>k = false
  | .bl b=>k = b
  | .int i=>k = (i != 0)
  | .str y=>y.length ≤ sizeLine ∧ k = ((y.length:Int) != 0)
  | .byt y=>y.size ≤ sizeLine ∧ k = ((y.size:Int) != 0)
  | .ref p=>(∃ xs,SqL K H p xs ∧ k = !xs.isEmpty) ∨ (∃ xs,SqT K H p xs ∧ k = !xs.isEmpty) ∨ ∃ kvs,H p = some (.dK kvs) ∧ k = !kvs.isEmpty
  | _=>False
theorem isEmpty_kv {κ:Type} {kvs:List (κ × V)} {vs:List (κ × Value)} (r:KV kvs vs):(!vs.isEmpty) = !kvs.isEmpty:=by
  cases r <;> rfl
theorem isEmpty_of {xs:List V} {its:List Value} (r:Vals xs its):(!its.toArray.isEmpty) = !xs.isEmpty:=by
  cases r <;> simp
theorem line63:(sizeLine:Nat) < 2 ^ 63:=by rw [sizeLine_eq];decide
theorem tru_ok:TruR X (fun x H Q=>∃ k,TruV X.K x H k ∧ Q k H):=by
  intro pins s σ H x v Q I rx h
  obtain ⟨k,e,q⟩:=h
  have hl:=line63
  have hs:sizeLine = 16777216:=sizeLine_eq
  cases x with
  | non =>
    cases rx
    have e':k = false:=e
    subst e'
    exact truthy_none ⟨H,I,q⟩
  | bl b =>
    cases rx
    have e':k = b:=e
    subst e'
    exact wpAny_truthy_bool ⟨H,I,q⟩
  | int i =>
    obtain ⟨t,rfl⟩:=rx
    have e':k = (i != 0):=e
    subst e'
    exact PySem.P.truthy_int ⟨H,I,q⟩
  | str y =>
    obtain ⟨t,rfl⟩:=rx
    obtain ⟨hy,e'⟩ : y.length ≤ sizeLine ∧ k = ((y.length:Int) != 0):=e
    subst e'
    exact PySem.P.truthy_str (by (first | lia | omega)) ⟨H,I.tok _,q⟩
  | byt y =>
    obtain ⟨t,rfl⟩:=rx
    obtain ⟨hy,e'⟩ : y.size ≤ sizeLine ∧ k = ((y.size:Int) != 0):=e
    subst e'
    exact PySem.W.truthy_bytes (by (first | lia | omega)) ⟨H,I.tok _,q⟩
  | ref p =>
    cases rx
    have e':(∃ xs,SqL X.K H p xs ∧ k = !xs.isEmpty) ∨ (∃ xs,SqT X.K H p xs ∧ k = !xs.isEmpty) ∨ ∃ kvs,H p = some (.dK kvs) ∧ k = !kvs.isEmpty:=e
    rcases e' with ⟨xs,hx,e'⟩ | ⟨xs,hx,e'⟩ | ⟨kvs,hx,e'⟩
    · subst e'
      obtain ⟨its,r,pl,hz⟩:=I.list hx
      have hlen:=r.length
      exact wpAny_truthy_list pl.isList (by simp only [List.size_toArray];(first | lia | omega)) ⟨H,I.tok _,by rw [isEmpty_of r];exact q⟩
    · subst e'
      obtain ⟨its,r,pl,hz⟩:=I.tuple hx
      have hlen:=r.length
      exact truthy_tuple pl (by simp only [List.size_toArray];(first | lia | omega)) ⟨H,I.tok _,by rw [isEmpty_of r];exact q⟩
    · subst e'
      obtain ⟨hz,hS,vs,r,m⟩ : kvs.length ≤ sizeLine ∧ (p == sysModules) = false ∧ ∃ vs,KV kvs vs ∧ s.heap.DictOf (mixKind X.prog X.w) p vs:=I.hok p _ hx
      have hlen:kvs.length = vs.length:=Paired.length r
      exact wpAny_truthy_dict hS m (by (first | lia | omega)) ⟨H,I.tok _,by rw [isEmpty_kv r];exact q⟩
  | _=>exact (show False from e).elim
theorem pt_truth (ha:PE X a ta) (he:∀ whole,isTrue a X.env whole = (do let v ← whole;standAt a.pos;holding [v] (truthy v))) :
    PT X a (fun σ H Q=>ta σ H fun x H'=>∃ k,TruV X.K x H' k ∧ Q k H'):=by
  intro pins s σ H Q I h
  exact isTrue_plain (thn (ha pins s σ H _ I h) fun v s1 ⟨x,H1,I1,r1,q1⟩=>tru_ok pins s1 σ H1 x v Q I1 r1 q1) (he _)
theorem op_add_str:OpR X (binaryOp .Add) (fun x y H Q=>∃ i j,x = .str i ∧ y = .str j ∧ i.length + j.length ≤ sizeLine ∧ Q (.str (i ++ j)) H):=by
  intro pins s σ H x y v u Q I rx ry h
  obtain ⟨i,j,rfl,rfl,hz,q⟩:=h
  obtain ⟨t,rfl⟩:=rx
  obtain ⟨t',rfl⟩:=ry
  exact add_str (fun t' tk=>⟨.str (i ++ j),H,I.tok _,⟨_,rfl⟩,q⟩) hz
theorem vals1 {x:V} {us:List Value} (r:Vals [x] us):∃ u,us = [u] ∧ RelV x u:=by
  cases r with
  | cons r1 r2=>cases r2;exact ⟨_,rfl,r1⟩
theorem vals2 {x y:V} {us:List Value} (r:Vals [x,y] us):∃ u w',us = [u,w'] ∧ RelV x u ∧ RelV y w':=by
  cases r with
  | cons r1 r2 =>
    cases r2 with
    | cons r3 r4=>cases r4;exact ⟨_,_,rfl,r1,r3⟩
theorem call_max2 (hc:X.calm = true):CallR X (.builtin "max") (fun xs H Q=>∃ i j,xs = [.int i,.int j] ∧ Q (.int (if j > i then j else i)) H):=by
  intro pins s σ H xs us Q I r h
  obtain ⟨i,j,rfl,q⟩:=h
  obtain ⟨u,w',rfl,⟨t,rfl⟩,⟨t',rfl⟩⟩:=vals2 r
  refine max_two_ints (I.ok.hd hc) fun h' tk k=>⟨_,H,I.kept k,?_,q⟩
  by_cases hj:j > i
  · rw [if_pos hj,if_pos hj];exact ⟨_,rfl⟩
  · rw [if_neg hj,if_neg hj];exact ⟨_,rfl⟩
theorem call_min2 (hc:X.calm = true):CallR X (.builtin "min") (fun xs H Q=>∃ i j,xs = [.int i,.int j] ∧ Q (.int (if j < i then j else i)) H):=by
  intro pins s σ H xs us Q I r h
  obtain ⟨i,j,rfl,q⟩:=h
  obtain ⟨u,w',rfl,⟨t,rfl⟩,⟨t',rfl⟩⟩:=vals2 r
  refine min_two_ints (I.ok.hd hc) fun h' tk k=>⟨_,H,I.kept k,?_,q⟩
  by_cases hj:j < i
  · rw [if_pos hj,if_pos hj];exact ⟨_,rfl⟩
  · rw [if_neg hj,if_neg hj];exact ⟨_,rfl⟩
end
end L2
namespace L2
open PySem PySem.Spec PyProof.Rows
theorem RelO.some_of {v:V} {o:Option Value} (r:RelO (some v) o):∃ u,o = some u ∧ RelV v u:=by
  cases o with
  | none=>exact (show False from r).elim
  | some u=>exact ⟨u,rfl,r⟩
end L2
namespace L2
open PySem PySem.Spec PyProof.Rows
set_option genInjectivity false in
structure Room (k:Nat) (A:Around):Prop where
  hd:A.handled = none
  dp:A.depth + 3 * k + 5 < recursionLimit
  un:A.units + 16 * k + 200 < cLine
theorem Room.deeper {k:Nat} {A:Around} (r:Room (k + 1) A) (env:Env):Room k (A.deeper env) :=
  ⟨r.hd,by have:=r.dp;show A.depth + 1 + 3 * k + 5 < _;(first | lia | omega),by have:=r.un;show A.units + 3 + 16 * k + 200 < _;(first | lia | omega)⟩
theorem Room.depth {k:Nat} {A:Around} (r:Room k A):A.depth < recursionLimit:=by have:=r.dp;(first | lia | omega)
theorem Room.units {k:Nat} {A:Around} (r:Room k A):A.units + 64 < cLine:=by have:=r.un;(first | lia | omega)
noncomputable def tNil:TA:=fun _ H Q=>Q [] H
noncomputable def tCons (ta:TE) (tr:TA):TA:=fun σ H Q=>ta σ H fun x H1=>tr σ H1 fun xs H2=>Q (x :: xs) H2
section
variable {X:Cx} {e:Expr} {es:List Expr} {te:TE} {t:TA} {pos:Pos}
theorem pa_nil:PA X [] tNil:=fun _ _ _ _ H Q I h=>Calls.spliced_nil ⟨[],H,I,.nil,h⟩
theorem pa_cons (ha:PE X e te) (hr:PA X es t) (hs:starEach (e :: es) X.env = (false,eval e X.env) :: starEach es X.env:=by rfl):PA X (e :: es) (tCons te t):=by
  intro pos pins s σ H Q I h
  rw [hs]
  show wpAny _ _ (spliced ((false,eval e X.env) :: backTo pos (starEach es X.env))) _ _ s
  refine Calls.spliced_cons (thn (ha pins s σ H _ I h) fun u s1 ⟨x,H1,I1,r1,q1⟩=>?_)
  exact thn (hr pos pins s1 σ H1 _ I1 q1) fun us s2 ⟨xs,H2,I2,r2,q2⟩=>⟨x :: xs,H2,I2,.cons r1 r2,q2⟩
noncomputable def tTup (t:TA):TE:=fun σ H Q=>t σ H fun xs H1=>xs.length ≤ sizeLine ∧ ∀ p,H1 p = none → Q (.ref p) (upd H1 p (.tup xs))
noncomputable def tLst (t:TA):TE:=fun σ H Q=>t σ H fun xs H1=>xs.length ≤ sizeLine ∧ ∀ p,H1 p = none → Q (.ref p) (upd H1 p (.lst xs))
theorem pe_tup {x1} (h:PA X es t):PE X (.Tuple es x1 pos) (tTup t):=by
  intro pins s σ H Q I hq
  refine wpAny_Tuple_spliced (thn (h pos pins s σ H _ I hq) fun us s1 ⟨xs,H1,I1,r,z,q⟩=>⟨by rw [← r.length];exact z,?_⟩)
  have hf:H1 s1.heap.objs.size = none:=I1.hok.fresh (Nat.le_refl _)
  refine ⟨.ref s1.heap.objs.size,upd H1 s1.heap.objs.size (.tup xs),I1.laid (t':=s1.toks) (fun b u e=>Heap.get?_push_of_some _ e) (Nat.le_refl _) ?_,rfl,q _ hf⟩
  exact ⟨z,us,r,⟨_,Heap.get?_push_size _ rfl,rfl,_,rfl⟩⟩
theorem pe_lst (h:PA X es t):PE X (.List es pos) (tLst t):=by
  intro pins s σ H Q I hq
  refine wpAny_List_spliced (thn (h pos pins s σ H _ I hq) fun us s1 ⟨xs,H1,I1,r,z,q⟩=>⟨by rw [← r.length];exact z,?_⟩)
  have hf:H1 s1.heap.objs.size = none:=I1.hok.fresh (Nat.le_refl _)
  refine ⟨.ref s1.heap.objs.size,upd H1 s1.heap.objs.size (.lst xs),I1.laid (t':=s1.toks) (fun b u e=>Heap.get?_push_of_some _ e) (Nat.le_refl _) ?_,rfl,q _ hf⟩
  exact ⟨z,us,0,r,Heap.get?_push_size _ rfl⟩
end
noncomputable abbrev Sp:=List V → Hp → VK → XK → Prop
noncomputable abbrev CXT:=List Env → Hp → Shared → XK → Value → Shared → Prop
set_option genInjectivity false in
structure Env0 (P:Program) (w:World) (K:PySem.W.Frag) (mg:Str → Option Value) (base:Heap) (A:Around) (outer:List Env) (s:Shared) (H:Hp):Prop where
  frames:A.frames = some outer
  mod:Mod K mg base
  bs:∀ b o,base.get? b = some o → s.heap.get? b = some o ∧ H b = none
  bsz:base.objs.size ≤ s.heap.objs.size
  funs:s.heap.FunFrames base outer
  frf:∀ b ∈ frs outer,H b = none
  hok:HOk P w H s.heap
  bare:AllBare s.gens
noncomputable def CE (outer:List Env) (P:Program) (w:World) (H:Hp) (s:Shared) (Q:VK) (u:Value) (s':Shared):Prop :=
  ∃ v H',s'.os = s.os ∧ AllBare s'.gens ∧ Un (frs outer) [] H H' s.heap s'.heap ∧ HOk P w H' s'.heap ∧ RelV v u ∧ Q v H'
noncomputable def CR (CX:CXT) (outer:List Env) (P:Program) (w:World) (H:Hp) (s:Shared) (Q:VK) (E:XK) (r:Result) (s':Shared):Prop :=
  match r with
  | .ok (.ret u)=>CE outer P w H s Q u s'
  | .ok _=>False
  | .error e=>CX outer H s E e s'
set_option genInjectivity false in
structure FnOk (P:Program) (w:World) (K:PySem.W.Frag) (mg:Str → Option Value) (base:Heap) (CX:CXT) (k:Nat) (f:Addr) (fd:FuncData) (ps:List Str) (sp:Sp):Prop where
  len:∀ vs H Q E,sp vs H Q E → vs.length = ps.length
  run:∀ (A:Around) (outer:List Env) (s:Shared) (H:Hp) (args:Args) (us:List Value) (vs:List V) (Q:VK) (E:XK),Room k A → Env0 P w K mg base A outer s H → BindsTo s fd args (ps.zip us) → Vals vs us → sp vs H Q E →
    codeAny (model P w) A (.call (.ref f) args) (CR CX outer P w H s Q E) s
section
variable {X:Cx} {pins:List (Addr × Obj)} {σ:St} {H:Hp} {s s':Shared}
theorem Inv.env0 (I:Inv X pins σ H s):Env0 X.prog X.w X.K X.mg X.base X.A X.stack s H :=
  ⟨I.ok.frames,I.ok.mod,I.bs,Nat.le_trans I.ok.bsz I.sz,I.stack,I.stkFree,I.hok,I.bare⟩
theorem Inv.after {Q:VK} {u:Value} (I:Inv X pins σ H s) (h:CE X.stack X.prog X.w H s Q u s'):EP X pins σ Q u s':=by
  obtain ⟨v,H',os,bare,un,hok,r,q⟩:=h
  obtain ⟨hh,g,d,t,os'⟩:=s'
  obtain rfl:os' = s.os:=os
  exact ⟨v,H',I.call (h':=hh) (g':=g) (d':=d) (t':=t) (ch:=[]) un hok bare (fun b z=>absurd z (by simp)),r,q⟩
end
noncomputable def tCall (sp:Sp) (dvs:List V) (E:XK) (t:TA):TE:=fun σ H Q=>t σ H fun vs H1=>sp (vs ++ dvs) H1 Q E
noncomputable def Binds (K:PySem.W.Frag) (fd:FuncData) (ps:List Str) (ds:List Value):Prop :=
  ∀ (s:Shared) (us:List Value),K.In s.heap → (us ++ ds).length = ps.length → BindsTo s fd ⟨us,[]⟩ (ps.zip (us ++ ds))
theorem Binds.all {K:PySem.W.Frag} {fd:FuncData} {ps:List Str} (h:∀ us:List Value,us.length = ps.length → bindArgs fd ⟨us,[]⟩ = pure (ps.zip us)):Binds K fd ps []:=fun s us _ hl=>by
  rw [List.append_nil] at hl ⊢
  exact .of_eq (h us hl)
noncomputable def Passes (CX:CXT) (X:Cx) (E:XK):Prop:=∀ (pins:List (Addr × Obj)) (σ:St) (H:Hp) (s:Shared) (e:Value) (s':Shared),Inv X pins σ H s → CX X.stack H s E e s' → X.xe e s'
section
variable {X:Cx} {CX:CXT} {k:Nat} {f C:Addr} {fd:FuncData} {ps:List Str} {sp:Sp} {dvs:List V} {ds:List Value} {E:XK} {x m:Str} {p pos apos:Pos} {e o:Expr} {es:List Expr} {ta:TE} {t:TA}
theorem run_fn {pins:List (Addr × Obj)} {σ:St} {H:Hp} {s:Shared} {Q:VK} {us:List Value} {vs:List V} (F:FnOk X.prog X.w X.K X.mg X.base CX k f fd ps sp) (hr:Room k X.A) (hb:Binds X.K fd ps ds) (hd:Vals dvs ds) (hx:Passes CX X E)
    (I:Inv X pins σ H s) (r:Vals vs us) (h:sp (vs ++ dvs) H Q E):wpAny (model X.prog X.w) X.A (call (.ref f) us) (EP X pins σ Q) X.xe s:=by
  have r2:Vals (vs ++ dvs) (us ++ ds):=r.append hd
  have hl:(us ++ ds).length = ps.length:=by rw [← r2.length];exact F.len _ _ _ _ h
  refine wpAny_call (codeAny_mono (F.run X.A X.stack s H ⟨us,[]⟩ (us ++ ds) (vs ++ dvs) Q E hr I.env0 (hb s us I.kIn hl) r2 h) fun r s' hq=>?_)
  cases r with
  | error e=>exact hx pins σ H s e s' I hq
  | ok fl =>
    cases fl with
    | ret u=>exact I.after hq
    | next=>exact False.elim hq
    | brk=>exact False.elim hq
    | cont=>exact False.elim hq
theorem pe_call (F:FnOk X.prog X.w X.K X.mg X.base CX k f fd ps sp) (hr:Room k X.A) (hg:Gl X x) (hm:X.mg x = some (.ref f)) (hk:PySem.W.keepIn X.K (.ref f) = true) (hb:Binds X.K fd ps ds) (hd:Vals dvs ds) (hx:Passes CX X E)
    (ha:PA X (e :: es) t) (hdb:(x == ("__debug__" : Str)) = false:=by decide) (he:starEach (e :: es) X.env = (false,eval e X.env) :: starEach es X.env:=by rfl) (hpl:(backTo pos (starEach es X.env)).any (·.1) = false:=by rfl) :
    PE X (.Call (.Name x p) (e :: es) [] pos) (tCall sp dvs E t):=by
  intro pins s σ H Q I h
  refine wpAny_Call_Name_kw (ld_glob I hg hm ?_ hdb)
  refine PySem.W.callWith_K (h₀:=X.base) I.ok.mod.kin hk (thn (ha pos pins s σ H _ I h) fun us s1 ⟨vs,H1,I1,r,q⟩=>⟨I1.kIn,?_⟩) he hpl
  exact run_fn F hr hb hd hx I1 r q
theorem pe_call0 (F:FnOk X.prog X.w X.K X.mg X.base CX k f fd ps sp) (hr:Room k X.A) (hg:Gl X x) (hm:X.mg x = some (.ref f)) (hk:PySem.W.keepIn X.K (.ref f) = true) (hb:Binds X.K fd ps ds) (hd:Vals dvs ds) (hx:Passes CX X E)
    (hdb:(x == ("__debug__" : Str)) = false:=by decide):PE X (.Call (.Name x p) [] [] pos) (tCall sp dvs E tNil):=by
  intro pins s σ H Q I h
  refine wpAny_Call_Name_kw (ld_glob I hg hm ?_ hdb)
  exact PySem.W.callWith_K0 I.kIn hk (run_fn (us:=[]) F hr hb hd hx I .nil h)
end
section
variable {X:Cx} {CX:CXT} {k:Nat} {f C:Addr} {fd:FuncData} {ps ks:List Str} {sp:Sp} {E:XK} {x m:Str} {p pos apos kpos:Pos} {e o:Expr} {es:List Expr} {kws:List Keyword} {te ta:TE} {t tk:TA} {nm:Option Str}
variable {g:List Value → List Value → List Value} {gV:List V → List V → List V}
end
set_option genInjectivity false in
structure FnScope (N P:List Str) (sc:Scope):Prop where
  kind:sc.kind = .function
  co:sc.isCoroutine = false
  gen:sc.isGenerator = false
  nd:N.Nodup
  pre:N.take P.length = P
  par:∀ x ∈ P,sc.names.lookup x = some .local ∨ sc.names.lookup x = some .cell
  nofree:∀ y ∈ sc.names,y.2 ≠ .free
theorem bindL_out {kindOf:Str → Option NameKind} {x:Str}:∀ {binds:List (Str × Value)} {m:Str → Option Value},(∀ v,(x,v) ∉ binds) → bindL kindOf binds m x = m x
  | [],_,_=>rfl
  | (n,v) :: r,m,h=>by
    unfold bindL
    rw [bindL_out fun w hw=>h w (List.mem_cons_of_mem _ hw)]
    split
    · have:x ≠ n:=by rintro rfl;exact h v List.mem_cons_self
      simp [this]
    · rfl
theorem bindC_out {kindOf:Str → Option NameKind} {x:Str}:∀ {binds:List (Str × Value)} {m:Str → Option Value},(∀ v,(x,v) ∉ binds) → bindC kindOf binds m x = m x
  | [],_,_=>rfl
  | (n,v) :: r,m,h=>by
    unfold bindC
    rw [bindC_out fun w hw=>h w (List.mem_cons_of_mem _ hw)]
    split
    · rfl
    · have:x ≠ n:=by rintro rfl;exact h v List.mem_cons_self
      simp [this]
theorem bindL_get {kindOf:Str → Option NameKind} {x:Str} {v:Value}:∀ {P:List Str} {vs:List Value} {i:Nat} {m:Str → Option Value},P.Nodup → P[i]? = some x → vs[i]? = some v → kindOf x = some .local →
    bindL kindOf (P.zip vs) m x = some v
  | [],_,_,_,_,h,_,_=>by simp at h
  | _ :: _,[],_,_,_,_,h,_=>by simp at h
  | p :: P,w :: vs,0,m,nd,h1,h2,hk=>by
    simp at h1 h2;subst h1;subst h2
    show bindL kindOf ((p,w) :: P.zip vs) m p = _
    unfold bindL
    rw [bindL_out fun v hv=>(List.nodup_cons.mp nd).1 (List.of_mem_zip hv).1,if_pos hk]
    simp
  | p :: P,w :: vs,i + 1,m,nd,h1,h2,hk=>by
    show bindL kindOf ((p,w) :: P.zip vs) m x = _
    unfold bindL
    exact bindL_get (i:=i) (List.nodup_cons.mp nd).2 (by simpa using h1) (by simpa using h2) hk
theorem bindC_get {kindOf:Str → Option NameKind} {x:Str} {v:Value}:∀ {P:List Str} {vs:List Value} {i:Nat} {m:Str → Option Value},P.Nodup → P[i]? = some x → vs[i]? = some v → kindOf x ≠ some .local →
    bindC kindOf (P.zip vs) m x = some v
  | [],_,_,_,_,h,_,_=>by simp at h
  | _ :: _,[],_,_,_,_,h,_=>by simp at h
  | p :: P,w :: vs,0,m,nd,h1,h2,hk=>by
    simp at h1 h2;subst h1;subst h2
    show bindC kindOf ((p,w) :: P.zip vs) m p = _
    unfold bindC
    rw [bindC_out fun v hv=>(List.nodup_cons.mp nd).1 (List.of_mem_zip hv).1,if_neg hk]
    simp
  | p :: P,w :: vs,i + 1,m,nd,h1,h2,hk=>by
    show bindC kindOf ((p,w) :: P.zip vs) m x = _
    unfold bindC
    exact bindC_get (i:=i) (List.nodup_cons.mp nd).2 (by simpa using h1) (by simpa using h2) hk
noncomputable def start (N:List Str) (vs:List V):St:=vs.map some ++ List.replicate (N.length - vs.length) none
noncomputable def cxOf (CX:CXT) (P:Program) (w:World) (K:PySem.W.Frag) (mg:Str → Option Value) (base:Heap) (N:List Str) (qual:Str) (scope:Scope) (f:Addr) (cd:Value) (A:Around) (outer:List Env) (s:Shared) (H:Hp) (E:XK):Cx where
  prog:=P
  w:=w
  K:=K
  mg:=mg
  base:=base
  A:=A.deeper (envOfC qual scope s.heap.objs.size f cd)
  N:=N
  s₀:=s
  H₀:=H
  env:=envOfC qual scope s.heap.objs.size f cd
  outer:=outer
  stack:=envOfC qual scope s.heap.objs.size f cd :: outer
  ex:=[]
  calm:=true
  fn:=fun _=>true
  pn:=[]
  xe:=fun e s'=>wpAny (model P w) (A.deeper (envOfC qual scope s.heap.objs.size f cd)) (leaving (envOfC qual scope s.heap.objs.size f cd) e) (fun _ s''=>CX outer H s E e s'') (fun e' s''=>CX outer H s E e' s'') s'
theorem cell_has {sc:Scope} {n:Nat} {x:Str} (h:sc.names.lookup x = some .cell):∃ c,(cellsFrom n sc.names []).lookup x = some c:=by
  have q:=PySem.W.cellsFrom_some sc.names n [] (.inl h)
  exact Option.isSome_iff_exists.mp q
theorem inv_start {CX:CXT} {P:Program} {w:World} {K:PySem.W.Frag} {mg:Str → Option Value} {base:Heap} {N ps:List Str} {qual:Str} {scope:Scope} {f:Addr} {cd:Value} {A:Around} {outer:List Env} {s s1:Shared} {H:Hp} {E:XK} {us:List Value} {vs:List V}
    (S:FnScope N ps scope) (hd:A.handled = none) (e0:Env0 P w K mg base A outer s H) (hl:vs.length = ps.length) (r:Vals vs us)
    (x:InCallC s s.heap.objs.size (bindL (envOfC qual scope s.heap.objs.size f cd).kindOf (ps.zip us) fun _=>none) (cellsFrom (s.heap.objs.size + 1) scope.names []) (bindC (envOfC qual scope s.heap.objs.size f cd).kindOf (ps.zip us) fun _=>none) s1) :
    Inv (cxOf CX P w K mg base N qual scope f cd A outer s H E) [] (start N vs) H s1:=by
  have hpl:ps.length ≤ N.length:=by have:=congrArg List.length S.pre;rw [List.length_take] at this;(first | lia | omega)
  obtain ⟨h1,tk,rfl,hk⟩:=x.done
  have noA:∀ b:Addr,b ∉ (cxOf CX P w K mg base N qual scope f cd A outer s H E).ex:=fun b z=>absurd (show b ∈ ([]:List Addr) from z) (by simp)
  refine ⟨⟨e0.mod,S.kind,rfl,rfl,Nat.le_refl _,fun y z c h1 h2=>?_,fun y hy=>?_,fun y c _ h=>?_,fun _=>hd,Around.frames_deeper e0.frames,.inr ⟨rfl,rfl⟩,fun b z=>absurd z (noA b),e0.bs,e0.bsz,fun b _ _=>noA b,fun b z=>absurd z (noA b),e0.funs,e0.frf⟩,
    rfl,e0.bare,Un.kept hk,⟨_,x.toInCall.ns,fun i y v h1 h2 h3=>?_⟩,fun y c h=>⟨_,x.cell y c h⟩,e0.hok.fresh (Nat.le_refl _),fun y c h=>?_,fun p hp=>absurd (show p ∈ ([]:List (Addr × Obj)) from hp) (by simp),e0.hok.kept hk,?_⟩
  · exact name_of_addr x.apart (PySem.mem_of_lookup h1) (PySem.mem_of_lookup h2)
  · have hy:scope.names.lookup y = some .cell ∨ scope.names.lookup y = some .free:=hy
    rcases hy with hy | hy
    · exact cell_has hy
    · exact absurd rfl (S.nofree _ (PySem.mem_of_lookup hy))
  · exact Nat.le_of_lt (x.above y c (PySem.mem_of_lookup h))
  · have hi:i < vs.length:=by
      unfold start at h2
      by_cases hi:i < vs.length
      · exact hi
      · rw [List.getElem?_append_right (by simpa using hi)] at h2
        rw [List.getElem?_replicate] at h2
        split at h2 <;> cases h2
    have ha:vs[i]? = some v:=by
      unfold start at h2
      rw [List.getElem?_append_left (by simpa using hi),List.getElem?_map] at h2
      cases e:vs[i]? with
      | none=>rw [e] at h2;cases h2
      | some a=>rw [e] at h2;cases h2;rfl
    obtain ⟨u,hu,rv⟩:=r.get ha
    have hp:ps[i]? = some y:=by
      rw [← S.pre,List.getElem?_take_of_lt (by (first | lia | omega))];exact h1
    have ndP:ps.Nodup:=by rw [← S.pre];exact S.nd.sublist (List.take_sublist _ _)
    refine ⟨u,rv,?_⟩
    rcases S.par y (List.mem_of_getElem? hp) with k | k
    · exact .inl ⟨k,bindL_get ndP hp hu k⟩
    · obtain ⟨c,e⟩:=cell_has (n:=s.heap.objs.size + 1) k
      refine .inr ⟨.inl k,c,e,?_⟩
      have q:=x.cell y c e
      rw [bindC_get ndP hp hu (by show scope.names.lookup y ≠ _;rw [k];decide)] at q
      exact q
  · exact e0.hok.fresh (Nat.le_of_lt (x.above y c (PySem.mem_of_lookup h)))
  · unfold start
    show _ = N.length
    rw [List.length_append,List.length_map,List.length_replicate]
    (first | lia | omega)
theorem fn_of {CX:CXT} {P:Program} {w:World} {K:PySem.W.Frag} {mg:Str → Option Value} {base:Heap} {k:Nat} {f:Addr} {name qual:Str} {params:Arguments} {body:List Stmt} {scope:Scope} {dV kV doc pm cdv ct oc:Value} {an od:Option Addr}
    {osl:Array (Option Value)} {N ps:List Str} {sp:Sp} (lk:K.lookup f = some ⟨oc,od,.func (PySem.W.fnOf name qual params body scope dV kV doc pm an cdv ct),osl⟩) (hcd:PySem.W.codeIn K cdv qual = true) (S:FnScope N ps scope)
    (len:∀ vs H Q E,sp vs H Q E → vs.length = ps.length)
    (hbody:∀ (A:Around) (outer:List Env) (s:Shared) (H:Hp) (vs:List V) (Q:VK) (E:XK),Room k (A.deeper (envOfC qual scope s.heap.objs.size f cdv)) → sp vs H Q E →
      ∃ t,PSs (cxOf CX P w K mg base N qual scope f cdv A outer s H E) body t ∧ t { nx:=fun _ H'=>Q .non H',rt:=Q } (start N vs) H) :
    FnOk P w K mg base CX (k + 1) f (PySem.W.fnOf name qual params body scope dV kV doc pm an cdv ct) ps sp:=by
  refine ⟨len,fun A outer s H args us vs Q E hr e0 hb r hsp=>?_⟩
  have hl:=len _ _ _ _ hsp
  have KX:K.In s.heap:=e0.mod.kin.keeps fun b o e=>(e0.bs b o e).1
  have lim:s.heap.NoLimit:=e0.mod.nolimit.keeps fun b o e=>(e0.bs b o e).1
  have hkind:∀ y ∈ ps.zip us,scope.names.lookup y.1 = some .local ∨ (scope.names.lookup y.1 = some .cell ∧ ((cellsFrom (s.heap.objs.size + 1) scope.names []).lookup y.1).isSome = true):=fun ⟨n,v⟩ hy=>by
    rcases S.par n (List.of_mem_zip hy).1 with q | q
    · exact .inl q
    · exact .inr ⟨q,PySem.W.cellsFrom_some _ _ _ (.inl q)⟩
  refine codeAny_call_function hr.depth (KX _ _ lk) rfl S.co S.gen rfl (PySem.W.codeRec_of KX hcd) (hb _ _ _ _ ?_)
  refine wpAny_newFunctionEnv_cells S.kind hkind fun env he s1 x=>?_
  subst he
  refine ⟨lim.keeps x.toInCall.keep,codeAny_func ?_⟩
  obtain ⟨t,ht,hq⟩:=hbody A outer s H vs Q E (hr.deeper _) hsp
  have I:Inv (cxOf CX P w K mg base N qual scope f cdv A outer s H E) [] (start N vs) H s1:=inv_start S hr.hd e0 hl r x
  refine wpAny_mono (ht [] s1 (start N vs) H _ I hq) (fun fl s' hs=>?_) fun e s' hs=>hs
  have fin:∀ {σ':St} {H':Hp} {v:V} {u:Value},Inv (cxOf CX P w K mg base N qual scope f cdv A outer s H E) [] σ' H' s' → RelV v u → Q v H' → CE outer P w H s Q u s' :=
    fun {σ' H' v u} J rv q=>⟨v,H',J.os,J.bare,J.base,J.hok,rv,q⟩
  cases fl with
  | ret u =>
    obtain ⟨v,σ',H',J,rv,q⟩:=hs
    exact fin J rv q
  | next =>
    obtain ⟨σ',H',J,q⟩:=hs
    exact fin (v:=V.non) (u:=Value.none) J rfl q
  | brk =>
    obtain ⟨_,_,_,q⟩:=hs
    exact False.elim q
  | cont =>
    obtain ⟨_,_,_,q⟩:=hs
    exact False.elim q
end L2
namespace L2
open PySem PySem.Spec PyProof.Rows
section
variable {X:Cx} {x:Str} {p pos:Pos} {e:Expr} {es:List Expr} {t:TA} {id T:String} {r:List V → Hp → VK → Prop}
noncomputable def tCB (r:List V → Hp → VK → Prop) (t:TA):TE:=fun σ H Q=>t σ H fun vs H1=>r vs H1 Q
theorem pe_callB (hc:CallR X (.builtin id) r) (hg:Gl X x) (hm:X.mg x = none) (hv:bootBuiltins x = some (.builtin id)) (ha:PA X (e :: es) t) (hn:x ≠ "__name__" := by decide) (hdb:(x == ("__debug__" : Str)) = false:=by decide)
    (he:starEach (e :: es) X.env = (false,eval e X.env) :: starEach es X.env:=by rfl) (hpl:(backTo pos (starEach es X.env)).any (·.1) = false:=by rfl):PE X (.Call (.Name x p) (e :: es) [] pos) (tCB r t):=by
  intro pins s σ H Q I h
  refine wpAny_Call_Name_kw (ld_blt I hg hm hv ?_ hn hdb)
  exact PyProof.Rows.callWith_builtin1 (thn (ha pos pins s σ H _ I h) fun us s1 ⟨vs,H1,I1,r1,q1⟩=>hc pins s1 σ H1 vs us Q I1 r1 q1) he hpl
theorem pe_callTy (hc:CallR X (.type T) r) (hg:Gl X x) (hm:X.mg x = none) (hv:bootBuiltins x = some (.type T)) (ha:PA X (e :: es) t) (hn:x ≠ "__name__" := by decide) (hdb:(x == ("__debug__" : Str)) = false:=by decide)
    (he:starEach (e :: es) X.env = (false,eval e X.env) :: starEach es X.env:=by rfl) (hpl:(backTo pos (starEach es X.env)).any (·.1) = false:=by rfl):PE X (.Call (.Name x p) (e :: es) [] pos) (tCB r t):=by
  intro pins s σ H Q I h
  refine wpAny_Call_Name_kw (ld_blt I hg hm hv ?_ hn hdb)
  exact PyProof.Rows.callWith_type1 (thn (ha pos pins s σ H _ I h) fun us s1 ⟨vs,H1,I1,r1,q1⟩=>hc pins s1 σ H1 vs us Q I1 r1 q1) he hpl
end
end L2
namespace HT
open PySem PyProof.Rows
section
open PySem.SeqAt
open PySem.AutoSeq1 (wpAny_loadPart')
open PySem.MeetsSeq PySem.MeetsSeq2 PySem.MeetsSeq3
end
section
variable {prog:Program} {w:World} {A:Around} {E:Value → Shared → Prop} {s:Shared}
theorem cat_tup {t b:Addr} {vs ws:List Value} {Q:Value → Shared → Prop} (ht:IsTup s.heap t vs.toArray) (hb:IsTup s.heap b ws.toArray) (hv:vs ≠ [])
    (h1:ws = [] → Q (.ref t) s) (h2:ws ≠ [] → Q (.ref s.heap.objs.size) { s with heap:=s.heap.push { cls:=.type "tuple", data:=.seq (vs ++ ws).toArray } })
    (hsz:vs.length + ws.length ≤ sizeLine):wpAny (model prog w) A (binaryOp .Add (.ref t) (.ref b)) Q E s:=by
  obtain ⟨⟨cls,dd,data,sl⟩,ho,hc,n,hd⟩:=id ht
  obtain ⟨⟨cls2,dd2,data2,sl2⟩,ho2,hc2,n2,hd2⟩:=id hb
  simp only at hc hd hc2 hd2
  subst hc hd hc2 hd2
  have e:vs.toArray ++ ws.toArray = (vs ++ ws).toArray:=by simp
  by_cases hw:ws = []
  · exact concat_meets ⟨_,ho,rfl⟩ ⟨_,ho2,rfl⟩ noFill_tuple_add seq_tuple_add PySem.F.slot_tuple_add PySem.F.entry_tuple_add (PySem.F.args_tuple_add_2 _ _)
      (tuple_addW1 t b vs.toArray ws.toArray n n2 dd dd2 sl sl2 (by simpa using hv) (by simp [hw])) ⟨ho,ho2,h1 hw⟩
  · refine concat_meets ⟨_,ho,rfl⟩ ⟨_,ho2,rfl⟩ noFill_tuple_add seq_tuple_add PySem.F.slot_tuple_add PySem.F.entry_tuple_add (PySem.F.args_tuple_add_2 _ _)
      (tuple_addW2 t b vs.toArray ws.toArray n n2 dd dd2 sl sl2 (by simpa using hv) (by simpa using hw) (by rw [List.size_toArray,List.size_toArray];exact hsz)) ⟨ho,ho2,?_⟩
    rw [e]
    exact h2 hw
noncomputable def sIx (n d:Nat):Option Int → Nat
  | none=>d
  | some v=>if v < 0 then (v + (n:Int)).toNat else min v.toNat n
theorem sIx_le (n d:Nat) (hd:d ≤ n) (o:Option Int):sIx n d o ≤ n:=by
  cases o with
  | none=>exact hd
  | some v =>
    show (if v < 0 then (v + (n:Int)).toNat else min v.toNat n) ≤ n
    by_cases hv:v < 0
    · rw [if_pos hv];(first | lia | omega)
    · rw [if_neg hv];exact Nat.min_le_right _ _
theorem clip_eq (v:Int) (n d:Nat):(if v < 0 then max (v + (n:Int)) 0 else min v (n:Int)) = ((sIx n d (some v):Nat):Int):=by
  show (if v < 0 then max (v + (n:Int)) 0 else min v (n:Int)) = (((if v < 0 then (v + (n:Int)).toNat else min v.toNat n):Nat):Int)
  by_cases hv:v < 0
  · simp only [if_pos hv];(first | lia | omega)
  · simp only [if_neg hv];(first | lia | omega)
theorem adjust_gen (lo hi:Option Int) (n:Nat):Builtin.Slice.sliceAdjust lo hi 1 (n:Int) = (((sIx n 0 lo:Nat):Int),((sIx n n hi:Nat):Int)):=by
  have h1:¬ ((1:Int) < 0):=by (first | lia | omega)
  unfold Builtin.Slice.sliceAdjust
  simp only [h1,if_false]
  refine Prod.ext ?_ ?_
  · cases lo with
    | none=>rfl
    | some v=>exact clip_eq v n 0
  · cases hi with
    | none=>rfl
    | some v=>exact clip_eq v n n
theorem places_gen (i j:Nat):Builtin.Slice.slicePlaces (i:Int) (j:Int) 1 = j - i:=by
  unfold Builtin.Slice.slicePlaces
  have h1:(1:Int) > 0:=by (first | lia | omega)
  simp only [h1,if_true,Int.ediv_one]
  split <;> (first | lia | omega)
theorem slicePart_ {v:Value} {o:Option Int} {Q:Option Int → Shared → Prop} (p:IsPart v o) (h:Q o s):wpAny (model prog w) A (Builtin.Slice.slicePartIndex v) Q E s:=by
  cases p with
  | none=>exact slicePart_none h
  | int i t=>exact slicePart_int h
theorem sliceApplied_gen {sl:Addr} {vl vu:Value} {lo hi:Option Int} {n:Nat} {Q:Int × Int × Nat → Shared → Prop} (hs:s.heap.IsSliceOf sl vl vu .none) (pl:IsPart vl lo) (pu:IsPart vu hi)
    (h:Q (((sIx n 0 lo:Nat):Int),1,sIx n n hi - sIx n 0 lo) s):wpAny (model prog w) A (Builtin.Slice.sliceApplied (.ref sl) (pure (n:Int))) Q E s:=by
  obtain ⟨os,hos,hcs,hds⟩:=id hs
  unfold Builtin.Slice.sliceApplied Builtin.Slice.sliceFields
  refine wpAny_bind (wpAny_bind (wpAny_field hos hds (x:=vl) rfl (wpAny_bind (wpAny_field hos hds (x:=vu) rfl (wpAny_bind (wpAny_field hos hds (x:=.none) rfl (wpAny_pure ?_)))))))
  refine wpAny_bind (slicePart_none ?_)
  show wpAny _ _ (if ((1:Int) == 0) = true then _ else _) _ _ s
  rw [if_neg (by decide)]
  refine wpAny_bind (slicePart_ pl (wpAny_bind (slicePart_ pu (wpAny_bind (wpAny_pure ?_)))))
  show wpAny _ _ (match Builtin.Slice.sliceAdjust lo hi 1 (n:Int) with | (lo,hi)=>pure (lo,(1:Int),Builtin.Slice.slicePlaces lo hi 1)) _ _ s
  rw [adjust_gen lo hi n]
  show wpAny _ _ (pure (((sIx n 0 lo:Nat):Int),(1:Int),Builtin.Slice.slicePlaces ((sIx n 0 lo:Nat):Int) ((sIx n n hi:Nat):Int) 1)) _ _ s
  rw [places_gen]
  exact wpAny_pure h
theorem pick_gen (xs:Array Value) (i k:Nat):((List.range k).filterMap fun (m:Nat)=>xs[((i:Int) + (m:Int) * 1).toNat]?).toArray = ((xs.toList.drop i).take k).toArray:=by
  have e:(fun (m:Nat)=>xs[((i:Int) + (m:Int) * 1).toNat]?) = fun m=>xs[i + m]?:=by
    funext m
    have:((i:Int) + (m:Int) * 1).toNat = i + m:=by (first | lia | omega)
    rw [this]
  rw [e]
  have:=pick_run xs i k
  rw [List.filterMap_map] at this
  have e2:((fun x=>xs[x]?) ∘ fun x=>i + x) = fun m=>xs[i + m]?:=rfl
  rw [e2] at this
  rw [this]
theorem getItem_tuple_cut {t sl:Addr} {items:Array Value} {vl vu:Value} {lo hi:Option Int} {Q:Value → Shared → Prop} (ht:IsTup s.heap t items) (hs:s.heap.IsSliceOf sl vl vu .none) (pl:IsPart vl lo) (pu:IsPart vu hi)
    (hw:¬ (sIx items.size 0 lo = 0 ∧ sIx items.size items.size hi = items.size))
    (h:Q (.ref s.heap.objs.size) { s with heap:=s.heap.push { cls:=.type "tuple", data:=.seq ((items.toList.drop (sIx items.size 0 lo)).take (sIx items.size items.size hi - sIx items.size 0 lo)).toArray } })
    (hsz:items.size ≤ sizeLine):wpAny (model prog w) A (getItem (.ref t) (.ref sl)) Q E s:=by
  have htake:sizeOk (.seq ((items.toList.drop (sIx items.size 0 lo)).take (sIx items.size items.size hi - sIx items.size 0 lo)).toArray):=by
    show ((items.toList.drop (sIx items.size 0 lo)).take (sIx items.size items.size hi - sIx items.size 0 lo)).toArray.size ≤ sizeLine
    rw [List.size_toArray,List.length_take,List.length_drop,Array.length_toList]
    (first | lia | omega)
  have hj:sIx items.size items.size hi ≤ items.size:=sIx_le _ _ (Nat.le_refl _) hi
  obtain ⟨os,hos,hcs,hds⟩:=id hs
  have hTs:s.TypeIs (.ref sl) "slice" := ⟨os,hos,hcs⟩
  unfold getItem
  try with_reducible refine wpAny_holding ?_
  first | refine wpAny_bind (wpAny_pure ?_) | skip
  refine wpAny_bind (wpAny_sequenceKey ht.typeIs (by decide) ?_)
  refine wpAny_bind (wpAny_callSpecial?_slot (name:=Str.ofString "__getitem__") ht.typeIs PyProof.Rows.slot_tuple_getitem
    (wpAny_call_entry PyProof.Rows.slot_tuple_getitem ht.typeIs entry_tuple_getitem ?_ (args_tuple_getitem _ _)))
  show wpAny _ _ (Builtin.Tuple.tupleItemsOf (.ref t) >>= _) _ _ s
  refine wpAny_bind (tupleItemsOf_ ht ?_)
  refine wpAny_bind (wpAny_typeOf hTs ?_)
  rw [if_pos (by decide)]
  refine wpAny_bind (sliceApplied_gen hs pl pu ?_)
  have hno:¬ ((((sIx items.size 0 lo:Nat):Int) == 0 && (1:Int) == 1 && (sIx items.size items.size hi - sIx items.size 0 lo) == items.size) = true):=by
    intro q
    rw [Bool.and_eq_true,Bool.and_eq_true] at q
    have q1:((sIx items.size 0 lo:Nat):Int) = 0:=eq_of_beq q.1.1
    have q2:sIx items.size items.size hi - sIx items.size 0 lo = items.size:=eq_of_beq q.2
    exact hw ⟨by (first | lia | omega),by (first | lia | omega)⟩
  show wpAny _ _ (if (((sIx items.size 0 lo:Nat):Int) == 0 && (1:Int) == 1 && (sIx items.size items.size hi - sIx items.size 0 lo) == items.size) = true then _ else _) _ _ s
  rw [if_neg hno,pick_gen]
  first
    | exact wpAny_bind (m:=Builtin.Tuple.tupleExact _) (wpAny_newObj_type (wpAny_pure ⟨_,rfl,wpAny_pure h⟩) htake)
    | exact wpAny_bind (m:=Builtin.Tuple.tupleExact _) (wpAny_newObj_type (wpAny_bind (wpAny_pure (wpAny_pure ⟨_,rfl,wpAny_pure h⟩))) htake)
    | exact wpAny_bind (wpAny_bind (m:=Builtin.Tuple.tupleExact _) (wpAny_newObj_type (wpAny_pure (wpAny_pure ⟨_,rfl,wpAny_pure h⟩)) htake))
    | exact wpAny_bind (wpAny_bind (m:=Builtin.Tuple.tupleExact _) (wpAny_newObj_type (wpAny_pure ⟨_,rfl,wpAny_pure h⟩) htake))
end
end HT
namespace L2
open PySem PySem.Spec PyProof.Rows
noncomputable abbrev TO:=St → Hp → (Option Int → Hp → Prop) → Prop
noncomputable def PO (X:Cx) (e:Option Expr) (t:TO):Prop :=
  ∀ (pins:List (Addr × Obj)) (s:Shared) (σ:St) (H:Hp) (Q:Option Int → Hp → Prop),Inv X pins σ H s → t σ H Q →
    wpAny (model X.prog X.w) X.A (evalPart e X.env) (fun u s'=>∃ o H',Inv X pins σ H' s' ∧ IsPart u o ∧ Q o H') X.xe s
noncomputable def tNoPart:TO:=fun _ H Q=>Q none H
section
variable {X:Cx} {e:Expr} {te:TE} {lo hi:Option Expr} {tl th:TO} {pos p2:Pos}
theorem po_none:PO X none tNoPart:=by
  intro pins s σ H Q I h
  rw [evalPart_none]
  exact wpAny_pure ⟨none,H,I,.none,h⟩
noncomputable def SlR (X:Cx) (r:V → Option Int → Option Int → Hp → VK → Prop):Prop :=
  ∀ (pins:List (Addr × Obj)) (s:Shared) (σ:St) (H:Hp) (x:V) (v vl vu:Value) (lo hi:Option Int) (sl:Addr) (Q:VK),Inv X pins σ H s → RelV x v → s.heap.IsSliceOf sl vl vu .none → IsPart vl lo → IsPart vu hi → r x lo hi H Q →
    ∃ T id,typeLookup (.type T) "__getitem__" = pure (some (.builtin id)) ∧ s.TypeIs v T ∧ wpAny (model X.prog X.w) X.A (getItem v (.ref sl)) (EP X pins σ Q) X.xe s
noncomputable def tSl (r:V → Option Int → Option Int → Hp → VK → Prop) (te:TE) (tl th:TO):TE:=fun σ H Q=>te σ H fun x H1=>tl σ H1 fun l H2=>th σ H2 fun u H3=>r x l u H3 Q
theorem pe_slice {r:V → Option Int → Option Int → Hp → VK → Prop} (hr:SlR X r) (he:PE X e te) (hl:PO X lo tl) (hu:PO X hi th):PE X (.Subscript e (.Slice lo hi none p2) pos) (tSl r te tl th):=by
  intro pins s σ H Q I h
  refine Subscript_ (thn (he pins s σ H _ I h) fun v s1 ⟨x,H1,I1,r1,q1⟩=>?_)
  refine wpAny_Slice (thn (hl pins s1 σ H1 _ I1 q1) fun vl s2 ⟨l,H2,I2,pl,q2⟩=>thn (hu pins s2 σ H2 _ I2 q2) fun vu s3 ⟨u,H3,I3,pu,q3⟩=>?_)
  rw [evalPart_none]
  refine wpAny_pure ?_
  have I4:Inv X pins σ H3 { s3 with heap:=s3.heap.push { cls:=.type "slice", data:=.fields #[vl,vu,.none] } }:=I3.kept (t':=s3.toks) fun b ob q=>Heap.get?_push_of_some _ q
  obtain ⟨T,id,hT,ht,hg⟩:=hr pins { s3 with heap:=s3.heap.push { cls:=.type "slice", data:=.fields #[vl,vu,.none] } } σ H3 x v vl vu l u s3.heap.objs.size Q I4 r1 (Heap.IsSliceOf.new ..) pl pu q3
  show wpAny (model X.prog X.w) X.A (subscriptTail e (.Slice lo hi none p2) v (.ref s3.heap.objs.size)) (EP X pins σ Q) X.xe { s3 with heap:=s3.heap.push { cls:=.type "slice", data:=.fields #[vl,vu,.none] } }
  exact tail_any (ops:=[.ref s3.heap.objs.size,v]) ht hT hg (by with_unfolding_all rfl)
noncomputable def cutV (xs:List V) (lo hi:Option Int):List V:=(xs.drop (HT.sIx xs.length 0 lo)).take (HT.sIx xs.length xs.length hi - HT.sIx xs.length 0 lo)
theorem cutV_length (xs:List V) (lo hi:Option Int):(cutV xs lo hi).length ≤ xs.length:=by
  unfold cutV
  rw [List.length_take,List.length_drop]
  (first | lia | omega)
noncomputable def rSlT (K:PySem.W.Frag):V → Option Int → Option Int → Hp → VK → Prop:=fun x lo hi H Q=>∃ a xs,x = .ref a ∧ SqT K H a xs ∧
  ¬ (HT.sIx xs.length 0 lo = 0 ∧ HT.sIx xs.length xs.length hi = xs.length) ∧ ∀ p,H p = none → Q (.ref p) (upd H p (.tup (cutV xs lo hi)))
theorem sl_tup:SlR X (rSlT X.K):=by
  intro pins s σ H x v vl vu lo hi sl Q I rx hs pl pu h
  obtain ⟨a,xs,rfl,hx,hw,q⟩:=h
  cases rx
  obtain ⟨its,r,ht,hz⟩:=I.tuple hx
  have hlen:its.toArray.size = xs.length:=by rw [List.size_toArray];exact r.length.symm
  refine ⟨"tuple", _,PyProof.Rows.slot_tuple_getitem.lookup,ht.typeIs,?_⟩
  refine HT.getItem_tuple_cut ht hs pl pu (by rw [hlen];exact hw) ?_ (by rw [hlen];exact hz)
  rw [hlen]
  refine ⟨.ref s.heap.objs.size,_,I.laid (t':=s.toks) (o:=.tup (cutV xs lo hi)) (fun b ob q=>Heap.get?_push_of_some _ q) (Nat.le_refl _) ?_,rfl,q _ (I.hok.fresh (Nat.le_refl _))⟩
  exact ⟨Nat.le_trans (cutV_length xs lo hi) hz,_,(r.drop (HT.sIx xs.length 0 lo)).take (HT.sIx xs.length xs.length hi - HT.sIx xs.length 0 lo),IsTup.new _ _⟩
noncomputable def rCatT (K:PySem.W.Frag):R2:=fun x y H Q=>∃ a b xs ys,x = .ref a ∧ y = .ref b ∧ SqT K H a xs ∧ SqT K H b ys ∧ xs ≠ [] ∧ xs.length + ys.length ≤ sizeLine ∧
  (ys = [] → Q (.ref a) H) ∧ (ys ≠ [] → ∀ p,H p = none → Q (.ref p) (upd H p (.tup (xs ++ ys))))
theorem Vals.nil_iff {xs:List V} {us:List Value} (r:Vals xs us):us = [] ↔ xs = []:=by
  cases r with
  | nil=>simp
  | cons _ _=>simp
theorem op_catT:OpR X (binaryOp .Add) (rCatT X.K):=by
  intro pins s σ H x y v u Q I rx ry h
  obtain ⟨a,b,xs,ys,rfl,rfl,ha,hb,hx,hz,q1,q2⟩:=h
  cases rx
  cases ry
  obtain ⟨its,r1,p1,_⟩:=I.tuple ha
  obtain ⟨its2,r2,p2,_⟩:=I.tuple hb
  refine HT.cat_tup p1 p2 (fun z=>hx (r1.nil_iff.mp z)) (fun z=>⟨.ref a,H,I,rfl,q1 (r2.nil_iff.mp z)⟩) (fun z=>?_) (by rw [← r1.length,← r2.length];exact hz)
  refine ⟨.ref s.heap.objs.size,_,I.laid (t':=s.toks) (o:=.tup (xs ++ ys)) (fun b ob q=>Heap.get?_push_of_some _ q) (Nat.le_refl _) ?_,rfl,q2 (fun w=>z (r2.nil_iff.mpr w)) _ (I.hok.fresh (Nat.le_refl _))⟩
  exact ⟨by rw [List.length_append];exact hz,_,r1.append r2,IsTup.new _ _⟩
end
end L2
namespace L2
open PySem PySem.Spec PyProof.Rows
noncomputable def ixN (n:Nat) (i:Int):Option Nat:=if 0 ≤ i then (if i < n then some i.toNat else none) else if -(n:Int) ≤ i then some (i + n).toNat else none
noncomputable def atI {α:Type} (xs:List α) (i:Int):Option α:=(ixN xs.length i).bind fun j=>xs[j]?
theorem ixN_seq {n:Nat} {i:Int} {j:Nat} (h:ixN n i = some j):seqIndex? i n = some j ∧ j < n ∧ -(n:Int) ≤ i ∧ i < n:=by
  unfold ixN at h
  by_cases h0:0 ≤ i
  · rw [if_pos h0] at h
    by_cases h1:i < n
    · rw [if_pos h1] at h
      have e:i.toNat = j:=Option.some.inj h
      exact ⟨by rw [seqIndex_of h0 h1,e],by (first | lia | omega),by (first | lia | omega),h1⟩
    · rw [if_neg h1] at h;cases h
  · rw [if_neg h0] at h
    by_cases h1:-(n:Int) ≤ i
    · rw [if_pos h1] at h
      have e:(i + n).toNat = j:=Option.some.inj h
      exact ⟨by rw [seqIndex_neg (by (first | lia | omega)) h1,e],by (first | lia | omega),h1,by (first | lia | omega)⟩
    · rw [if_neg h1] at h;cases h
theorem atI_get {α:Type} {xs:List α} {i:Int} {v:α} (h:atI xs i = some v):∃ j,seqIndex? i xs.length = some j ∧ xs[j]? = some v ∧ j < xs.length ∧ -(xs.length:Int) ≤ i ∧ i < xs.length:=by
  unfold atI at h
  cases e:ixN xs.length i with
  | none=>rw [e] at h;cases h
  | some j =>
    rw [e] at h
    obtain ⟨h1,h2,h3,h4⟩:=ixN_seq e
    exact ⟨j,h1,h,h2,h3,h4⟩
noncomputable def PlainIx (b:Expr):Prop:=∀ o i,subscripted b false o i = operate [o,i] (getItem o i)
noncomputable def IxR (X:Cx) (r:R2):Prop :=
  ∀ (value slice:Expr) (pins:List (Addr × Obj)) (s:Shared) (σ:St) (H:Hp) (x y:V) (v u:Value) (Q:VK),Inv X pins σ H s → RelV x v → RelV y u → r x y H Q →
    subscripted slice false v u = operate [v,u] (getItem v u) → wpAny (model X.prog X.w) X.A (subscriptTail value slice v u) (EP X pins σ Q) X.xe s
noncomputable def MtR (X:Cx) (id:String) (r:V → List V → Hp → VK → Prop):Prop :=
  ∀ (pins:List (Addr × Obj)) (s:Shared) (σ:St) (H:Hp) (x:V) (xs:List V) (v:Value) (us:List Value) (Q:VK),Inv X pins σ H s → RelV x v → Vals xs us → r x xs H Q →
    wpAny (model X.prog X.w) X.A (call (.builtin id) (v :: us)) (EP X pins σ Q) X.xe s
section
variable {X:Cx} {a b:Expr} {ta tb:TE} {pos:Pos}
theorem pe_ix {r:R2} (hr:IxR X r) (ha:PE X a ta) (hb:PE X b tb) (hs:PlainIx b):PE X (.Subscript a b pos) (tOp r ta tb):=by
  intro pins s σ H Q I h
  exact Subscript_ (binT ha hb I h fun v u s2 x y H2 I2 rx ry q=>hr a b pins s2 σ H2 x y v u Q I2 rx ry q (hs _ _))
noncomputable def rIxL (K:PySem.W.Frag):R2:=fun x y H Q=>∃ p xs i v,x = .ref p ∧ y = .int i ∧ SqL K H p xs ∧ atI xs i = some v ∧ Q v H
noncomputable def rIxT (K:PySem.W.Frag):R2:=fun x y H Q=>∃ p xs i v,x = .ref p ∧ y = .int i ∧ SqT K H p xs ∧ atI xs i = some v ∧ Q v H
noncomputable def rIxS:R2:=fun x y H Q=>∃ z i c,x = .str z ∧ y = .int i ∧ z.length ≤ sizeLine ∧ atI z.cps.toList i = some c ∧ Q (.str ⟨#[c]⟩) H
theorem ix_list:IxR X (rIxL X.K):=by
  intro value slice pins s σ H x y v u Q I rx ry h hs
  obtain ⟨p,xs,i,z,rfl,rfl,hq,he,q⟩:=h
  cases rx
  obtain ⟨t,rfl⟩:=ry
  obtain ⟨its,r,pl,hz⟩:=I.list hq
  obtain ⟨j,h1,h2,h3,h4,h5⟩:=atI_get he
  obtain ⟨w,ew,rw'⟩:=r.get h2
  have hl:=r.length
  have hn:=line63
  have fin:EP X pins σ Q w s:=⟨z,H,I,rw',q⟩
  by_cases h0:0 ≤ i
  · have hj:i.toNat = j:=by
      rw [seqIndex_of h0 h5] at h1
      exact Option.some.inj h1
    exact item_listR pl.isList h0 (by (first | lia | omega)) (by rw [hj];simpa using ew) fin hs
  · have hj:(i + (its.toArray.size:Int)).toNat = j:=by
      rw [seqIndex_neg (by (first | lia | omega)) h4] at h1
      rw [List.size_toArray,← hl]
      exact Option.some.inj h1
    exact subscriptTail_builtinR (x:=w) pl.isList.typeIs slot_list_getitem.lookup
      (wpAny_getItem_list_neg (Q:=fun r s'=>r = w ∧ EP X pins σ Q r s') pl.isList (by (first | lia | omega)) (by rw [List.size_toArray] <;> (first | lia | omega)) (by (first | lia | omega)) (by rw [hj];simpa using ew) ⟨rfl,fin⟩) hs
theorem ix_tup:IxR X (rIxT X.K):=by
  intro value slice pins s σ H x y v u Q I rx ry h hs
  obtain ⟨p,xs,i,z,rfl,rfl,hq,he,q⟩:=h
  cases rx
  obtain ⟨t,rfl⟩:=ry
  obtain ⟨its,r,pl,hz⟩:=I.tuple hq
  obtain ⟨j,h1,h2,h3,h4,h5⟩:=atI_get he
  obtain ⟨w,ew,rw'⟩:=r.get h2
  have hl:=r.length
  have hn:=line63
  have fin:EP X pins σ Q w s:=⟨z,H,I,rw',q⟩
  exact subscriptTail_builtinR (x:=w) pl.typeIs slot_tuple_getitem.lookup
    (getItem_tuple (j:=j) (Q:=fun r s'=>r = w ∧ EP X pins σ Q r s') pl (by (first | lia | omega)) (by (first | lia | omega)) (by rw [List.size_toArray,← hl];exact h1) (by simpa using ew) ⟨rfl,fin⟩) hs
theorem ix_str:IxR X rIxS:=by
  intro value slice pins s σ H x y v u Q I rx ry h hs
  obtain ⟨z,i,c,rfl,rfl,hz,he,q⟩:=h
  obtain ⟨t,rfl⟩:=rx
  obtain ⟨t',rfl⟩:=ry
  obtain ⟨j,h1,h2,h3,h4,h5⟩:=atI_get he
  have hl:z.cps.toList.length = z.length:=by simp [Str.length]
  rw [hl] at h1 h4 h5
  have hn:=line63
  exact tail_any (typeIs_str s z t) slot_str_getitem.lookup (getItem_str (c:=c) (by
    have e1:decide (i < -(2 ^ 63:Int)) = false:=decide_eq_false (by (first | lia | omega))
    have e2:decide (i ≥ 2 ^ 63) = false:=decide_eq_false (by (first | lia | omega))
    rw [e1,e2,Bool.or_false]) (by rw [h1];simpa using h2) ⟨.str ⟨#[c]⟩,H,I.tok _,⟨_,rfl⟩,q⟩) hs
theorem slice_bounds (lo hi:Option Int) (n:Nat):(sliceBounds lo hi none n).1 = ((HT.sIx n 0 lo:Nat):Int) ∧ (sliceBounds lo hi none n).2.1 = ((HT.sIx n n hi:Nat):Int) ∧ (sliceBounds lo hi none n).2.2 = 1:=by
  refine ⟨?_,?_,rfl⟩
  · cases lo with
    | none=>simp [sliceBounds,HT.sIx]
    | some i =>
      simp only [sliceBounds,HT.sIx,Option.getD_none,show (1:Int) > 0 by decide,if_true]
      by_cases h:i < 0
      · simp only [h,if_true] <;> (first | lia | omega)
      · simp only [h,if_false] <;> (first | lia | omega)
  · cases hi with
    | none=>simp [sliceBounds,HT.sIx]
    | some i =>
      simp only [sliceBounds,HT.sIx,Option.getD_none,show (1:Int) > 0 by decide,if_true]
      by_cases h:i < 0
      · simp only [h,if_true] <;> (first | lia | omega)
      · simp only [h,if_false] <;> (first | lia | omega)
theorem slicePick_cut (its:List Value) (lo hi:Option Int):slicePick its.toArray lo hi none = ((its.drop (HT.sIx its.length 0 lo)).take (HT.sIx its.length its.length hi - HT.sIx its.length 0 lo)).toArray:=by
  obtain ⟨h1,h2,h3⟩:=slice_bounds lo hi its.toArray.size
  unfold slicePick
  rw [h1,h2,h3]
  simp only [sliceRange_one,pick_run,List.size_toArray] <;> rfl
noncomputable def rSlL (K:PySem.W.Frag):V → Option Int → Option Int → Hp → VK → Prop:=fun x lo hi H Q=>∃ a xs,x = .ref a ∧ SqL K H a xs ∧ ∀ p,H p = none → Q (.ref p) (upd H p (.lst (cutV xs lo hi)))
theorem sl_list:SlR X (rSlL X.K):=by
  intro pins s σ H x v vl vu lo hi sl Q I rx hs pl pu h
  obtain ⟨a,xs,rfl,hx,q⟩:=h
  cases rx
  obtain ⟨its,r,ht,hz⟩:=I.list hx
  have hlen:=r.length
  refine ⟨"list", _,slot_list_getitem.lookup,ht.isList.typeIs,?_⟩
  refine wpAny_getItem_list_slice ht.isList hs pl pu .none (by simp) ?_ (by rw [List.size_toArray] <;> (first | lia | omega))
  rw [slicePick_cut,← hlen]
  refine ⟨.ref s.heap.objs.size,_,I.laid (t':=s.toks) (o:=.lst (cutV xs lo hi)) (fun b ob q=>Heap.get?_push_of_some _ q) (Nat.le_refl _) ?_,rfl,q _ (I.hok.fresh (Nat.le_refl _))⟩
  exact ⟨Nat.le_trans (cutV_length xs lo hi) hz,_,0,(r.drop (HT.sIx xs.length 0 lo)).take (HT.sIx xs.length xs.length hi - HT.sIx xs.length 0 lo),Heap.get?_push_size _ rfl⟩
theorem call_len_seq:CallR X (.builtin "len") (fun xs H Q=>∃ p ys,xs = [.ref p] ∧ (SqL X.K H p ys ∨ SqT X.K H p ys) ∧ Q (.int ys.length) H):=by
  intro pins s σ H xs us Q I r h
  obtain ⟨p,ys,rfl,hq,q⟩:=h
  obtain ⟨u,rfl,rx⟩:=vals1 r
  cases rx
  have hn:=line63
  rcases hq with hq | hq
  · obtain ⟨its,r',pl,hz⟩:=I.list hq
    have hlen:=r'.length
    exact Calls.call_len_list pl.isList (by simp only [List.size_toArray] <;> (first | lia | omega)) ⟨.int ys.length,H,I.tok _,⟨s.toks + 1,by rw [List.size_toArray,hlen]⟩,q⟩
  · obtain ⟨its,r',pl,hz⟩:=I.tuple hq
    have hlen:=r'.length
    exact len_tuple pl (by simp only [List.size_toArray] <;> (first | lia | omega)) ⟨.int ys.length,H,I.tok _,⟨s.toks + 1,by rw [List.size_toArray,hlen]⟩,q⟩
theorem call_len_str:CallR X (.builtin "len") (fun xs H Q=>∃ z,xs = [.str z] ∧ z.length ≤ sizeLine ∧ Q (.int z.length) H):=by
  intro pins s σ H xs us Q I r h
  obtain ⟨z,rfl,hz,q⟩:=h
  obtain ⟨u,rfl,t,rfl⟩:=vals1 r
  have hn:=line63
  exact len_str (by (first | lia | omega)) ⟨.int z.length,H,I.tok _,⟨_,rfl⟩,q⟩
theorem call_list_of:CallR X (.type "list") (fun xs H Q=>∃ p ys,xs = [.ref p] ∧ (SqL X.K H p ys ∨ SqT X.K H p ys) ∧ ∀ l,H l = none → Q (.ref l) (upd H l (.lst ys))):=by
  intro pins s σ H xs us Q I r h
  obtain ⟨p,ys,rfl,hq,q⟩:=h
  obtain ⟨u,rfl,rx⟩:=vals1 r
  cases rx
  have fin:∀ (its:List Value),Vals ys its → ys.length ≤ sizeLine → ∀ (h':Heap) (c':Nat),(∀ b o',s.heap.get? b = some o' → h'.get? b = some o') →
      h'.get? s.heap.objs.size = some { cls:=.type "list", dict:=none,data:=.seq its.toArray c',slots:=#[] } → EP X pins σ Q (.ref s.heap.objs.size) { s with heap:=h' }:=fun its r' hz h' c' kp e =>
    ⟨.ref s.heap.objs.size,_,I.laid (t':=s.toks) kp (Nat.le_refl _) (show ObjOk X.prog X.w _ h' _ (.lst ys) from ⟨hz,its,c',r',e⟩),rfl,q _ (I.hok.fresh (Nat.le_refl _))⟩
  rcases hq with hq | hq
  · obtain ⟨its,r',pl,hz⟩:=I.list hq
    have hlen:=r'.length
    obtain ⟨o,ho,hc,n,hd⟩:=pl.isList
    exact call_list_seq p (.inl rfl) ho hc hd (fun h' c' kp e=>fin its r' hz h' c' kp e) (by simp only [List.size_toArray] <;> (first | lia | omega))
  · obtain ⟨its,r',pl,hz⟩:=I.tuple hq
    have hlen:=r'.length
    obtain ⟨o,ho,hc,n,hd⟩:=pl
    exact call_list_seq p (.inr rfl) ho hc hd (fun h' c' kp e=>fin its r' hz h' c' kp e) (by simp only [List.size_toArray] <;> (first | lia | omega))
noncomputable def tyV (K:PySem.W.Frag) (T:String) (x:V) (H:Hp):Prop:=match x with
  | .str _=>T = "str"
  | .int _=>T = "int"
  | .ref p=>(T = "list" ∧ ∃ xs,SqL K H p xs) ∨ (T = "tuple" ∧ ∃ o,K.lookup p = some o ∧ o.cls = .type "tuple" ∧ o.dict = none) ∨
      (T = "dict" ∧ ((∃ kvs,H p = some (.dK kvs)) ∨ ∃ kvs,H p = some (.dT kvs))) ∨ (T = "set" ∧ ∃ S n,H p = some (.set S n))
  | _=>False
theorem tyV_is {pins:List (Addr × Obj)} {σ:St} {H:Hp} {s:Shared} {T:String} {x:V} {v:Value} (I:Inv X pins σ H s) (r:RelV x v) (ty:tyV X.K T x H) :
    s.TypeIs v T ∧ ∀ a,v = .ref a → ∃ ob,s.heap.get? a = some ob ∧ ob.dict = none:=by
  cases x with
  | str z =>
    obtain ⟨t,rfl⟩:=r
    cases (show T = "str" from ty)
    exact ⟨typeIs_str s z t,fun _ e=>nomatch e⟩
  | int i =>
    obtain ⟨t,rfl⟩:=r
    cases (show T = "int" from ty)
    exact ⟨typeIs_int s i t,fun _ e=>nomatch e⟩
  | ref p =>
    cases r
    rcases ty with ⟨rfl,xs,hq⟩ | ⟨rfl,o,hk,hc,hd⟩ | ⟨rfl,hk⟩ | ⟨rfl,S,n,hk⟩
    · obtain ⟨its,_,pl,_⟩:=I.list hq
      refine ⟨pl.isList.typeIs,fun a e=>?_⟩
      cases e
      obtain ⟨o,n,e,c,hd,_⟩:=pl
      exact ⟨o,e,hd⟩
    · refine ⟨⟨o,I.kIn p o hk,hc⟩,fun a e=>?_⟩
      cases e
      exact ⟨o,I.kIn _ o hk,hd⟩
    · have z:∃ o,s.heap.get? p = some o ∧ o.ExactDict:=by
        rcases hk with ⟨kvs,hk⟩ | ⟨kvs,hk⟩
        · obtain ⟨_,_,_,_,o,_,_,e,ex,_⟩:=I.hok p _ hk
          exact ⟨o,e,ex⟩
        · obtain ⟨_,_,_,_,o,_,_,e,ex,_⟩:=I.hok p _ hk
          exact ⟨o,e,ex⟩
      obtain ⟨o,e,ex⟩:=z
      refine ⟨⟨o,e,ex.1⟩,fun a e2=>?_⟩
      cases e2
      exact ⟨o,e,ex.2.1⟩
    · obtain ⟨o,_,_,_,e,ex,_⟩:=I.hok p _ hk
      refine ⟨⟨o,e,ex.1⟩,fun a e2=>?_⟩
      cases e2
      exact ⟨o,e,ex.2.1⟩
  | _=>exact False.elim ty
noncomputable def tBM0 (K:PySem.W.Frag) (T:String) (r:V → List V → Hp → VK → Prop) (to:TE):TE:=fun σ H Q=>to σ H fun x H1=>tyV K T x H1 ∧ r x [] H1 Q
noncomputable def tBM (K:PySem.W.Frag) (T:String) (r:V → List V → Hp → VK → Prop) (to:TE) (t:TA):TE:=fun σ H Q=>to σ H fun x H1=>tyV K T x H1 ∧ t σ H1 fun xs H2=>r x xs H2 Q
variable {o e:Expr} {es:List Expr} {to:TE} {t:TA} {name:Str} {apos cpos:Pos} {T id:String} {r:V → List V → Hp → VK → Prop}
theorem pe_bm0 (pa:PlainAttrs T) (slot:Slot T name id) (hty:typeOf (.builtin id) = pure (.type "method_descriptor")) (hm:MtR X id r) (ho:PE X o to)
    (hbase:attributeBase o name X.env (eval o X.env) = eval o X.env:=by rfl) (hline:(apos.endLine == cpos.line) = true:=by rfl):PE X (.Call (.Attribute o name apos) [] [] cpos) (tBM0 X.K T r to):=by
  intro pins s σ H Q I h
  refine wpAny_Call_method0_late hbase hline (thn (ho pins s σ H _ I h) fun v s1 ⟨x,H1,I1,r1,ty,q1⟩=>?_)
  obtain ⟨h1,h2⟩:=tyV_is I1 r1 ty
  exact ⟨T,id,pa,slot,hty,h1,h2,Calls.callWith_builtin rfl (PySem.evalArgs_none (hm pins s1 σ H1 x [] v [] Q I1 r1 .nil q1))⟩
theorem pe_bm (pa:PlainAttrs T) (slot:Slot T name id) (hty:typeOf (.builtin id) = pure (.type "method_descriptor")) (hm:MtR X id r) (ho:PE X o to) (ha:PA X (e :: es) t)
    (hbase:attributeBase o name X.env (eval o X.env) = eval o X.env:=by rfl)
    (hfew:((backTo cpos (starEach (e :: es) X.env)).all (fun x=>!x.1) && (backToKw cpos (keywordEach [] X.env)).all (fun x=>x.1.isSome)
      && decide ((e :: es).length + ([]:List Keyword).length + (if ([]:List Keyword).isEmpty then 0 else 1) < 30)) = true:=by rfl)
    (hline:(apos.endLine == cpos.line) = true:=by rfl) (hs:starEach (e :: es) X.env = (false,eval e X.env) :: starEach es X.env:=by rfl) (hplain:(backTo cpos (starEach es X.env)).any (·.1) = false:=by rfl) :
    PE X (.Call (.Attribute o name apos) (e :: es) [] cpos) (tBM X.K T r to t):=by
  intro pins s σ H Q I h
  refine wpAny_Call_method_late hbase hfew hline rfl (thn (ho pins s σ H _ I h) fun v s1 ⟨x,H1,I1,r1,ty,q1⟩=>?_)
  obtain ⟨h1,h2⟩:=tyV_is I1 r1 ty
  refine ⟨T,id,pa,slot,hty,h1,h2,?_⟩
  have hA:=ha cpos pins s1 σ H1 _ I1 q1
  rw [hs] at hA ⊢
  refine Calls.callWith_builtin (by show (false || (backTo cpos (starEach es X.env)).any (·.1)) = false;rw [hplain] <;> rfl) (Calls.evalArgs_plain ?_)
  exact thn hA fun us s2 ⟨vs,H2,I2,r2,q2⟩=>hm pins s2 σ H2 x vs v us Q I2 r1 r2 q2
end
end L2
namespace L2
open PySem PySem.Spec PyProof.Rows
noncomputable def MtM (X:Cx) (id:String) (r:V → List V → Hp → VK → Prop):Prop :=
  ∀ (pins:List (Addr × Obj)) (s:Shared) (σ:St) (H:Hp) (x:V) (xs:List V) (v:Value) (us:List Value) (Q:VK),Inv X pins σ H s → RelV x v → Vals xs us → r x xs H Q →
    wpAny (model X.prog X.w) X.A (call (.builtin id) (v :: us)) (EP X pins σ Q) X.xe s
theorem Vals.one:∀ {x:V} {us:List Value},Vals [x] us → ∃ u,us = [u] ∧ RelV x u
  | _,_,.cons r .nil=>⟨_,rfl,r⟩
theorem Vals.zero:∀ {us:List Value},Vals [] us → us = []
  | _,.nil=>rfl
theorem Vals.dropLast {xs:List V} {us:List Value} (h:Vals xs us):Vals xs.dropLast us.dropLast:=by
  induction h with
  | nil=>exact .nil
  | cons r t ih =>
    cases t with
    | nil=>exact .nil
    | cons q t'=>exact .cons r ih
theorem Vals.eraseIdx:∀ {xs:List V} {us:List Value} (i:Nat),Vals xs us → Vals (xs.eraseIdx i) (us.eraseIdx i)
  | _,_,_,.nil=>.nil
  | _,_,0,.cons _ t=>t
  | _,_,i + 1,.cons r t=>.cons r (Vals.eraseIdx i t)
theorem Vals.reverse {xs:List V} {us:List Value} (h:Vals xs us):Vals xs.reverse us.reverse:=by
  induction h with
  | nil=>exact .nil
  | cons r t ih=>rw [List.reverse_cons,List.reverse_cons];exact Vals.append ih (.cons r .nil)
theorem Vals.rep {xs:List V} {us:List Value} (h:Vals xs us):∀ k:Nat,Vals (List.replicate k xs).flatten (List.replicate k us).flatten
  | 0=>.nil
  | k + 1=>by
    rw [List.replicate_succ,List.replicate_succ,List.flatten_cons,List.flatten_cons]
    exact Vals.append h (Vals.rep h k)
theorem erase_last {α:Type} (l:List α):l.eraseIdx (l.length - 1) = l.dropLast:=by
  induction l with
  | nil=>rfl
  | cons a r ih =>
    cases r with
    | nil=>rfl
    | cons b r =>
      have e:(a :: b :: r).length - 1 = ((b :: r).length - 1) + 1:=by
        have h1:(a :: b :: r).length = r.length + 2:=rfl
        have h2:(b :: r).length = r.length + 1:=rfl
        (first | lia | omega)
      rw [e,List.eraseIdx_cons_succ,ih]
      all_goals rfl
theorem len_erase {α:Type}:∀ (l:List α) (i:Nat),(l.eraseIdx i).length ≤ l.length
  | [],_=>Nat.le_refl _
  | _ :: _,0=>Nat.le_succ _
  | _ :: r,i + 1=>Nat.succ_le_succ (len_erase r i)
theorem foldl_rep (its:List Value):∀ (k:Nat) (acc:List Value),
    List.foldl (fun x1 x2=>x1 ++ x2) acc.toArray (List.replicate k its.toArray) = (acc ++ (List.replicate k its).flatten).toArray
  | 0,acc=>by simp
  | k + 1,acc=>by
    have e:acc.toArray ++ its.toArray = (acc ++ its).toArray:=by simp
    have e2:(acc ++ its) ++ (List.replicate k its).flatten = acc ++ (List.replicate (k + 1) its).flatten:=by
      rw [List.replicate_succ,List.flatten_cons,List.append_assoc]
    rw [← e2,← foldl_rep its k (acc ++ its),← e,List.replicate_succ,List.foldl_cons]
section
variable {X:Cx} {pins:List (Addr × Obj)} {σ:St} {H:Hp} {s:Shared} {l b:Addr} {xs ys zs:List V}
theorem Inv.lset {its its':List Value} {n:Nat} {f:Array Value → Array Value} {t':Nat} (I:Inv X pins σ H s) (hH:H l = some (.lst xs))
    (e:s.heap.get? l = some { cls:=.type "list", data:=.seq its.toArray n }) (hf:f its.toArray = its'.toArray) (hv:Vals ys its') (hz:ys.length ≤ sizeLine) :
    Inv X pins σ (upd H l (.lst ys)) { s with heap:=s.heap.update l (Obj.mapSeq f),toks:=t' }:=by
  have q:=PySem.IsL.update e f
  rw [hf] at q
  refine I.write (x:=l) (e:=l) (by rw [hH];exact trivial) (.inl rfl) (fun b' u hb hu=>(Heap.get?_update_other s.heap (Obj.mapSeq f) (Ne.symm hb)).trans hu) ⟨_,q⟩ ?_
  exact ⟨hz,its',_,hv,q⟩
theorem Inv.lnew {its:List Value} {t':Nat} (I:Inv X pins σ H s) (hv:Vals ys its) (hz:ys.length ≤ sizeLine) :
    Inv X pins σ (upd H s.heap.objs.size (.lst ys)) { s with heap:=s.heap.push { cls:=.type "list", data:=.seq its.toArray },toks:=t' } :=
  I.laid (fun _ _ q=>Heap.get?_push_of_some _ q) (Nat.le_refl _) ⟨hz,its,0,hv,Heap.get?_push_size _ rfl⟩
theorem Inv.fresh (I:Inv X pins σ H s):H s.heap.objs.size = none:=I.hok.fresh (Nat.le_refl _)
theorem Inv.lstM (I:Inv X pins σ H s) (hH:H l = some (.lst xs)):xs.length ≤ sizeLine ∧ ∃ (its:List Value) (n:Nat),Vals xs its ∧ xs.length = its.length ∧ s.heap.get? l = some { cls:=.type "list", data:=.seq its.toArray n }:=by
  obtain ⟨z,its,n,r,e⟩:=I.hok l _ hH
  exact ⟨z,its,n,r,r.length,e⟩
end
section
variable {X:Cx}
noncomputable def rAppend:V → List V → Hp → VK → Prop:=fun x vs H Q=>∃ l xs y,x = .ref l ∧ vs = [y] ∧ H l = some (.lst xs) ∧ xs.length < sizeLine ∧ Q .non (upd H l (.lst (xs ++ [y])))
theorem mt_append:MtM X "list.append" rAppend:=by
  intro pins s σ H x vs v us Q I rx rv h
  obtain ⟨l,xs,y,rfl,rfl,hH,hz,q⟩:=h
  cases rx
  obtain ⟨u,rfl,ru⟩:=rv.one
  obtain ⟨z,its,n,r,hl,e⟩:=I.lstM hH
  refine call_meets F.slot_list_append ⟨_,e,rfl⟩ F.entry_list_append (F.args_list_append_2 _ _) (PySem.list_append l its.toArray n u (by rw [List.size_toArray];(first | lia | omega))) ⟨e,?_⟩
  refine ⟨.non,_,I.lset (its':=its ++ [u]) hH e (by simp) (r.append (.cons ru .nil)) ?_,rfl,q⟩
  rw [List.length_append,List.length_singleton]
  (first | lia | omega)
noncomputable def rPop:V → List V → Hp → VK → Prop:=fun x vs H Q=>∃ l xs y,x = .ref l ∧ vs = [] ∧ H l = some (.lst xs) ∧ xs[xs.length - 1]? = some y ∧ Q y (upd H l (.lst xs.dropLast))
theorem mt_pop:MtM X "list.pop" rPop:=by
  intro pins s σ H x vs v us Q I rx rv h
  obtain ⟨l,xs,y,rfl,rfl,hH,hy,q⟩:=h
  cases rx
  have hus:=rv.zero
  subst hus
  obtain ⟨z,its,n,r,hl,e⟩:=I.lstM hH
  obtain ⟨u,hu,ru⟩:=r.get hy
  have hy':its.toArray[its.toArray.size - 1]? = some u:=by
    show its.toArray[its.length - 1]? = some u
    rw [← Array.getElem?_toList,← hl]
    exact hu
  refine call_meets F.slot_list_pop ⟨_,e,rfl⟩ F.entry_list_pop (F.args_list_pop_1 _) (MeetsSeq.list_pop_last l its.toArray n u hy' (by rw [List.size_toArray];(first | lia | omega))) ⟨e,?_⟩
  refine ⟨y,_,I.lset (its':=its.dropLast) hH e ?_ r.dropLast ?_,ru,q⟩
  · show its.toArray.eraseIdxIfInBounds (its.toArray.size - 1) = its.dropLast.toArray
    rw [List.size_toArray,List.eraseIdxIfInBounds_toArray,erase_last]
  · rw [List.length_dropLast]
    (first | lia | omega)
noncomputable def rPopAt:V → List V → Hp → VK → Prop:=fun x vs H Q=>∃ l xs i k y,x = .ref l ∧ vs = [.int i] ∧ H l = some (.lst xs) ∧ -(2 ^ 63) ≤ i ∧ i < 2 ^ 63 ∧ seqIndex? i xs.length = some k ∧ xs[k]? = some y ∧ Q y (upd H l (.lst (xs.eraseIdx k)))
theorem mt_popAt:MtM X "list.pop" rPopAt:=by
  intro pins s σ H x vs v us Q I rx rv h
  obtain ⟨l,xs,i,k,y,rfl,rfl,hH,h1,h2,hk,hy,q⟩:=h
  cases rx
  obtain ⟨u,rfl,ru⟩:=rv.one
  obtain ⟨t,rfl⟩:=ru
  obtain ⟨z,its,n,r,hl,e⟩:=I.lstM hH
  obtain ⟨w,hw,rw'⟩:=r.get hy
  refine call_meets F.slot_list_pop ⟨_,e,rfl⟩ F.entry_list_pop (F.args_list_pop_2 _ _)
    (MeetsSeq.list_pop_at l its.toArray n i t k w (fitsIndex_both h1 h2) (by rw [List.size_toArray,← hl];exact hk) (by rw [← Array.getElem?_toList];exact hw) (by rw [List.size_toArray];(first | lia | omega))) ⟨e,?_⟩
  refine ⟨y,_,I.lset (its':=its.eraseIdx k) hH e ?_ (r.eraseIdx k) ?_,rw',q⟩
  · show its.toArray.eraseIdxIfInBounds k = (its.eraseIdx k).toArray
    rw [List.eraseIdxIfInBounds_toArray]
  · have:=len_erase xs k
    (first | lia | omega)
noncomputable def rReverse:V → List V → Hp → VK → Prop:=fun x vs H Q=>∃ l xs,x = .ref l ∧ vs = [] ∧ H l = some (.lst xs) ∧ Q .non (upd H l (.lst xs.reverse))
theorem mt_reverse:MtM X "list.reverse" rReverse:=by
  intro pins s σ H x vs v us Q I rx rv h
  obtain ⟨l,xs,rfl,rfl,hH,q⟩:=h
  cases rx
  have hus:=rv.zero
  subst hus
  obtain ⟨z,its,n,r,hl,e⟩:=I.lstM hH
  refine call_meets F.slot_list_reverse ⟨_,e,rfl⟩ F.entry_list_reverse (F.args_list_reverse_1 _) (AutoSeq1.list_reverse_list_0 l its.toArray n (by rw [List.size_toArray];(first | lia | omega))) ⟨e,?_⟩
  refine ⟨.non,_,I.lset (its':=its.reverse) hH e (by simp) r.reverse ?_,rfl,q⟩
  rw [List.length_reverse]
  (first | lia | omega)
theorem len_rep {α:Type} (xs:List α) (k:Nat):(List.replicate k xs).flatten.length = k * xs.length:=by
  induction k with
  | zero=>simp
  | succ k ih=>rw [List.replicate_succ,List.flatten_cons,List.length_append,ih,Nat.succ_mul,Nat.add_comm]
end
end L2
namespace Att
open PySem PySem.W PySem.Calls PyProof.Rows
theorem ints_of_wellAll {P:Params} {h:Heap}:∀ (ns:List Int) (vs:List Value),WellAll P h vs (ns.map WData.int) → IntsAre vs ns:=by
  intro ns
  induction ns with
  | nil =>
    intro vs w
    rw [List.map_nil] at w
    cases w
    exact .nil
  | cons n ns ih =>
    intro vs w
    rw [List.map_cons] at w
    cases w with
    | cons a b =>
      cases a
      exact .cons _ _ (ih _ b)
theorem script_of {l:OpenLaw} {n:Nat} (hn:l.most = some n) {P:Params} {h:Heap} {args:List WData} {vals:List Value}
    (hpre:l.row.toRowW.claim.pre args = true) (hwl:WellAll P h vals args) :
    ∃ a vs ns,vals = [Value.ref a] ∧ args = [WData.list (ns.map WData.int)] ∧ h.get? a = some { cls:=.type "list", data:=.seq vs.toArray } ∧ IntsAre vs ns ∧ ns.length ≤ n:=by
  have hsh:WShape.hasAll [] args [.list .int] = true:=(pre_splitW hpre).1
  have hc:l.pre.holds [] { args:=args } = true:=(pre_splitW hpre).2
  obtain ⟨d,r,rfl,h1,h2⟩:=hasAllW_cons hsh
  obtain rfl:=hasAllW_nil h2
  obtain ⟨xs,rfl,h3⟩:=hasW_list h1
  obtain ⟨ns,rfl⟩:=items_int h3
  have hlen:ns.length ≤ n:=by
    unfold OpenLaw.pre at hc
    have h4:(WTm.not (.lt (.lit (.int (n:Int))) (.len (.arg 0)))).holds [] { args:=[.list (ns.map .int)] } = true:=by
      have h4:=(holds_andW hc).1
      rw [hn] at h4
      exact h4
    have h5:=condW_of h4 (w_not (w_lt w_lit (w_len_list (w_arg rfl))))
    rw [List.length_map] at h5
    refine Nat.le_of_not_lt fun q=>?_
    have q':(n:Int) < ((ns.length:Nat):Int):=by (first | lia | omega)
    first
      | (rw [decide_eq_true q'] at h5;exact absurd h5 (by decide))
      | (simp at h5;(first | lia | omega))
  cases hwl with
  | cons w1 w2 =>
    cases w2
    cases w1 with
    | list ho hall=>exact ⟨_,_,ns,rfl,rfl,ho,ints_of_wellAll ns _ hall,hlen⟩
theorem post_true (l:OpenLaw) (args:List WData):l.row.toRowW.claim.post args (.bool true) args = true :=
  postW_of (r:=l.row.toRowW) (X:=(true == true))
    (show WShape.has [] (.bool true) .bool = true by first | rfl | decide | simp [WShape.has,WShape.arms,WShape.armsAll])
    (show (WTm.eq .res (.lit (.bool true))).value [] { args:=args,res:=some (.bool true),after:=args } = some (.bool (true == true)) from w_eq_bool (w_res rfl) w_lit) rfl
theorem attach_call {l:OpenLaw} {n:Nat} {q:Program} {loose:List Str} {XP:(Str → Option Value) → Heap → Prop} {YP:World → Heap → Prop} {d:DefRec}
    (hn:l.most = some n) (hdf:d.params.defaults = [])
    (call:∀ (w:World) (s₀ s₁:Shared) (mg mb:Str → Option Value) (fa:Addr) (o:Obj) (pm cd doc:Value) (a:Addr) (vs:List Value) (ns:List Int),
      Ground q loose [] XP w s₀ mg mb s₁.heap → YP w s₁.heap →
      s₁.heap.get? fa = some o → o.data = .func (docDef d.name d.params d.body d.scope pm cd doc) → s₁.heap.CodeRec cd d.name → mg d.name = some (.ref fa) →
      s₁.heap.get? a = some { cls:=.type "list", data:=.seq vs.toArray } → IntsAre vs ns → ns.length ≤ n → s₁.gens = #[] →
      codeAny (model l.prog w) callerA (.call (.ref fa) ⟨[.ref a],[]⟩) (fun r s'=>r = .ok (.ret (.bool true)) ∧ OldK s₁.heap s'.heap ∧ s'.os = s₁.os ∧ AllBare s'.gens) s₁) :
    WalkO q loose XP YP l.row.toRowW d [] (fun f vs=>PySem.call f vs):=by
  intro w s₀ s₁ mg mb G Y fa o pm cd doc dV kV ho hd hcd hD hmg hg args vals as hpre hlay hrd hwl hlo
  obtain rfl:dV = .none:=Dflts.none hD hdf
  obtain rfl:kV = .none:=Dflts.noKw hD
  obtain ⟨a,vs,ns,rfl,rfl,hobj,hints,hlen⟩:=script_of hn hpre hwl
  refine enter_call (codeAny_mono (call w s₀ s₁ mg mb fa o pm cd doc a vs ns G Y ho (fd_plain hd) hcd hmg hobj hints hlen hg) fun r s' hq=>?_)
  obtain ⟨rfl,h2,h3,h4⟩:=hq
  exact ⟨.inl ⟨.bool true,.bool true,[],rfl,fun _=>rfl,.bool true,post_true l _,fun _=>⟨List.Pairwise.nil,fun _ hm=>(nomatch hm)⟩⟩,h2,h3,h4⟩
end Att
namespace L2
open PySem PySem.Spec PyProof.Rows
theorem vals_ints:∀ {vs:List Value} {ns:List Int},IntsAre vs ns → Vals (ns.map V.int) vs
  | _,_,.nil=>.nil
  | _,_,.cons n t h=>.cons ⟨t,rfl⟩ (vals_ints h)
noncomputable def Only (H:Hp):Prop:=∀ b,H b = none ∨ ∃ o xs,H b = some (.frz o (.lst xs))
theorem law_call {P:Program} {w:World} {K:PySem.W.Frag} {mg mb:Str → Option Value} {CX:CXT} {k:Nat} {fa a:Addr} {fd:FuncData} {x:Str} {sp:Sp} {s₁:Shared} {vs:List Value} {ns:List Int}
    (KX:K.In s₁.heap) (hns:s₁.heap.Ns mainGlobals mg) (hb:s₁.heap.Ns builtinsNs mb) (hbb:∀ x:Str,x ≠ "__name__" → mb x = bootBuiltins x) (hlim:s₁.heap.NoLimit) (hg:s₁.gens = #[])
    (ha:s₁.heap.get? a = some { cls:=.type "list", data:=.seq vs.toArray }) (hi:IntsAre vs ns) (hl:ns.length ≤ sizeLine) (hr:Room k callerA)
    (F:∀ base:Heap,K.In base → base.Ns mainGlobals mg → FnOk P w K mg base CX k fa fd [x] sp) (hbind:∀ (s:Shared) (u:Value),BindsTo s fd ⟨[u],[]⟩ [(x,u)])
    (hsp:∀ H:Hp,Only H → SqL K H a (ns.map V.int) → sp [.ref a] H (fun v _=>v = .bl true) fun _ _ _=>False)
    (hCX:∀ H e s',CX [] H s₁ (fun _ _ _=>False) e s' → False) :
    codeAny (model P w) callerA (.call (.ref fa) ⟨[.ref a],[]⟩) (fun r s'=>r = .ok (.ret (.bool true)) ∧ OldK s₁.heap s'.heap ∧ s'.os = s₁.os ∧ AllBare s'.gens) s₁:=by
  have rv:=vals_ints hi
  have lenV:=hi.length
  have core:∀ H:Hp,Only H → SqL K H a (ns.map V.int) → HOk P w H s₁.heap → (∀ b,H b ≠ none → b = a) → (H a ≠ none → K.lookup a = none) →
      codeAny (model P w) callerA (.call (.ref fa) ⟨[.ref a],[]⟩) (fun r s'=>r = .ok (.ret (.bool true)) ∧ OldK s₁.heap s'.heap ∧ s'.os = s₁.os ∧ AllBare s'.gens) s₁:=by
    intro H hO hS hok hA hK
    have base_of:∀ {b:Addr} {o:Obj},s₁.heap.get? b = some o → H b = none → (hidT s₁.heap H).get? b = some o:=fun e n=>hidT_get e n
    have noA:∀ {b:Addr} {o:Obj} {es:Array DictEntry} {ep:Nat},s₁.heap.get? b = some o → o.data = .dict es ep → H b = none:=fun {b o es ep} e d=>by
      cases q:H b with
      | none=>rfl
      | some u =>
        have e':b = a:=hA b (by rw [q];simp)
        subst e'
        rw [ha] at e;cases e
        have d':Data.seq vs.toArray _ = Data.dict es ep:=d
        cases d'
    have nsK:∀ {b:Addr} {m:Str → Option Value},s₁.heap.Ns b m → (hidT s₁.heap H).Ns b m:=fun {b m} ⟨o,es,ep,e,d,r⟩=>⟨o,es,ep,base_of e (noA e d),d,r⟩
    have hKb:K.In (hidT s₁.heap H):=fun b o e=>base_of (KX b o e) (by
      cases q:H b with
      | none=>rfl
      | some u =>
        have e':b = a:=hA b (by rw [q];simp)
        subst e'
        rw [hK (by rw [q];simp)] at e;cases e)
    have hM:Mod K mg (hidT s₁.heap H):=⟨hKb,nsK hns,⟨mb,nsK hb,hbb⟩,let ⟨mc,h1,h2⟩:=hlim;⟨mc,nsK h1,h2⟩⟩
    have e0:Env0 P w K mg (hidT s₁.heap H) callerA [] s₁ H:=⟨rfl,hM,fun b o e=>of_hidT e,Nat.le_of_eq (hidT_size _ _),trivial,fun b hb=>absurd (show b ∈ ([]:List Addr) from hb) (by simp),hok,.of_eq hg⟩
    refine codeAny_mono ((F _ hKb (nsK hns)).run callerA [] s₁ H ⟨[.ref a],[]⟩ [.ref a] [.ref a] _ _ hr e0 (hbind s₁ (.ref a)) (.cons rfl .nil) (hsp H hO hS)) fun r s' h=>?_
    cases r with
    | error e=>exact (hCX H e s' h).elim
    | ok fl =>
      cases fl with
      | next=>exact False.elim h
      | brk=>exact False.elim h
      | cont=>exact False.elim h
      | ret u =>
        obtain ⟨v,H',os,bare,un,hok',r',q⟩:=h
        have q':v = .bl true:=q
        subst q'
        obtain rfl:u = Value.bool true:=r'
        refine ⟨rfl,OldK.of_keep fun b o e=>?_,os,bare⟩
        cases q:H b with
        | none=>exact un.keep b o e q (by intro z;exact absurd (show b ∈ ([]:List Addr) from z) (by simp)) (by simp)
        | some u =>
          rcases hO b with z | ⟨ob,xs,z⟩
          · rw [q] at z;cases z
          · have z2:=un.frzs b ob _ z
            obtain ⟨e1,_⟩:=hok b _ z
            obtain ⟨e2,_⟩:=hok' b _ z2
            rw [e] at e1;cases e1
            exact e2
  cases hk:K.lookup a with
  | some o =>
    have e:=KX a o hk
    rw [ha] at e
    cases e
    refine core (fun _=>none) (fun _=>.inl rfl) (.inr ⟨_,vs.toArray,_,hk,rfl,rfl,rfl,by rw [List.size_toArray,lenV];exact hl,by simpa using rv⟩) (fun b u z=>by have z':(none:Option HO) = some u:=z;cases z') (fun b z=>absurd rfl z) fun z=>absurd rfl z
  | none =>
    refine core (fun b=>if b = a then some (.frz { cls:=.type "list", data:=.seq vs.toArray } (.lst (ns.map V.int))) else none) (fun b=>?_) (.inl (.inr ⟨{ cls:=.type "list", data:=.seq vs.toArray },if_pos rfl⟩)) (fun b u z=>?_) (fun b z=>?_) fun _=>hk
    · by_cases hb:b = a
      · exact .inr ⟨_,_,if_pos hb⟩
      · exact .inl (if_neg hb)
    · by_cases hb:b = a
      · have z':=(if_pos hb).symm.trans z
        cases z'
        subst hb
        exact ⟨ha,by rw [List.length_map];exact hl,vs,_,rv,ha⟩
      · have z':=(if_neg hb).symm.trans z
        cases z'
    · by_cases hb:b = a
      · exact hb
      · exact absurd (if_neg hb) z
end L2
namespace L2
open PySem PySem.Spec PyProof.Rows
theorem walk_of {l:PySem.W.OpenLaw} {n k:Nat} {q:Program} {loose:List Str} {XP:(Str → Option Value) → Heap → Prop} {YP:World → Heap → Prop} {d:DefRec} {K:Params → PySem.W.Frag} {CX:World → CXT} {sp:World → Sp} {x:Str}
    (hn:l.most = some n) (hn2:n ≤ sizeLine) (hdf:d.params.defaults = []) (hr:Room k callerA)
    (hY:∀ (w:World) (h:Heap),YP w h → (K w.params).In h)
    (F:∀ (w:World) (mg:Str → Option Value) (fa:Addr) (h:Heap),(K w.params).In h → h.Ns mainGlobals mg → mg d.name = some (.ref fa) →
      ∃ fd:FuncData,(∀ (s:Shared) (u:Value),BindsTo s fd ⟨[u],[]⟩ [(x,u)]) ∧
        ∀ base:Heap,(K w.params).In base → base.Ns mainGlobals mg → FnOk l.prog w (K w.params) mg base (CX w) k fa fd [x] (sp w))
    (hsp:∀ (w:World) (H:Hp) (a:Addr) (ns:List Int),ns.length ≤ n → Only H → SqL (K w.params) H a (ns.map V.int) → sp w [.ref a] H (fun v _=>v = .bl true) fun _ _ _=>False)
    (hCX:∀ (w:World) (H:Hp) (s:Shared) (e:Value) (s':Shared),CX w [] H s (fun _ _ _=>False) e s' → False) :
    PySem.W.WalkO q loose XP YP l.row.toRowW d [] (fun f vs=>PySem.call f vs):=by
  refine Att.attach_call hn hdf fun w s₀ s₁ mg mb fa o pm cd doc a vs ns G Y ho hd hcd hmg hobj hints hlen hg=>?_
  have KX:=hY w _ Y
  obtain ⟨fd,hb,hF⟩:=F w mg fa _ KX G.T.g hmg
  exact law_call KX G.T.g G.T.b G.T.builtins G.T.nolimit hg hobj hints (Nat.le_trans hlen hn2) hr hF hb (fun H hO hS=>hsp w H a ns hlen hO hS) fun H e s'=>hCX w H s₁ e s'
end L2
namespace L2
open PySem PySem.Spec PyProof.Rows
noncomputable def defArgs (s:Stmt):Arguments:=match s with
  | .FunctionDef _ a _ _ _ _ _ _ _ _=>a
  | _=>{ posonlyargs:=[],args:=[],vararg:=none,kwonlyargs:=[],kw_defaults:=[],kwarg:=none,defaults:=[] }
noncomputable def defBody (s:Stmt):List Stmt:=match s with
  | .FunctionDef _ _ b _ _ _ _ _ _ _=>b
  | _=>[]
noncomputable def defScope (s:Stmt):Scope:=match s with
  | .FunctionDef _ _ _ _ _ _ sc _ _ _=>sc
  | _=>{ kind:=.function,names:=[],isGenerator:=false,isCoroutine:=false }
noncomputable abbrev E0:XK:=fun _ _ _=>False
set_option genInjectivity false in
structure Fun (K:PySem.W.Frag) (x qual:Str) (st:Stmt) (f:Addr) (fd:FuncData):Prop where
  ex:∃ (oc:Value) (od:Option Addr) (kV doc pm:Value) (an:Option Addr) (cdv ct:Value) (osl:Array (Option Value)),
    fd = PySem.W.fnOf x qual (defArgs st) (defBody st) (defScope st) .none kV doc pm an cdv ct ∧ K.lookup f = some ⟨oc,od,.func fd,osl⟩ ∧ PySem.W.codeIn K cdv qual = true
  kp:PySem.W.keepIn K (.ref f) = true
section
variable {P:Program} {w:World} {K:PySem.W.Frag} {mg:Str → Option Value} {base:Heap}
theorem Fun.binds {x qual:Str} {st:Stmt} {f:Addr} {fd:FuncData} {ps:List Str} (F:Fun K x qual st f fd)
    (h:∀ (kV doc pm:Value) (an:Option Addr) (cdv ct:Value) (us:List Value),us.length = ps.length → bindArgs (PySem.W.fnOf x qual (defArgs st) (defBody st) (defScope st) .none kV doc pm an cdv ct) ⟨us,[]⟩ = pure (ps.zip us)):Binds K fd ps []:=by
  obtain ⟨oc,od,kV,doc,pm,an,cdv,ct,osl,rfl,lk,hcd⟩:=F.ex
  exact .all (h kV doc pm an cdv ct)
theorem fun_mk {x qual:Str} {st:Stmt} {f:Addr} {oc:Value} {od an:Option Addr} {osl:Array (Option Value)} {kV doc pm cdv ct:Value} (l:K.lookup f = some ⟨oc,od,.func (PySem.W.fnOf x qual (defArgs st) (defBody st) (defScope st) .none kV doc pm an cdv ct),osl⟩)
    (c:PySem.W.codeIn K cdv qual = true) (k:PySem.W.keepIn K (.ref f) = true):Fun K x qual st f (PySem.W.fnOf x qual (defArgs st) (defBody st) (defScope st) .none kV doc pm an cdv ct):=⟨⟨oc,od,kV,doc,pm,an,cdv,ct,osl,rfl,l,c⟩,k⟩
end
theorem small1000 {n:Nat} (h:n ≤ 1000):n < sizeLine:=Nat.lt_of_le_of_lt h (by decide)
noncomputable def Same (H H':Hp):Prop:=∀ b o,H b = some o → H' b = some o
theorem Same.refl (H:Hp):Same H H:=fun _ _ h=>h
theorem Same.trans {H H1 H2:Hp} (a:Same H H1) (b:Same H1 H2):Same H H2:=fun c o h=>b c o (a c o h)
theorem Same.free {H H':Hp} (e:Same H H') {l:Addr} (h:H' l = Option.none):H l = Option.none:=by
  cases q:H l with
  | none=>rfl
  | some o =>
    rw [e l o q] at h
    cases h
end L2
set_option maxRecDepth 100000
namespace L2
open PySem PySem.Spec PyProof.Rows
section
variable {κ:Type} [DecidableEq κ]
noncomputable def valV (kvs:List (κ × V)) (k:κ):Option V:=(kvs.find? fun kv=>decide (kv.1 = k)).map (·.2)
noncomputable def putK (kvs:List (κ × V)) (k:κ) (v:V):List (κ × V) :=
  if (kvs.any fun kv=>decide (kv.1 = k)) = true then kvs.map (fun kv=>if kv.1 = k then (kv.1,v) else kv) else kvs ++ [(k,v)]
theorem valV_pos {p:κ × V} {r:List (κ × V)} {k:κ} (e:p.1 = k):valV (p :: r) k = some p.2:=by simp [valV,List.find?_cons,e]
theorem valV_neg {p:κ × V} {r:List (κ × V)} {k:κ} (e:¬ p.1 = k):valV (p :: r) k = valV r k:=by simp [valV,List.find?_cons,e]
theorem RelO.isSome_eq {o:Option V} {u:Option Value} (r:RelO o u):o.isSome = u.isSome:=by
  cases o with
  | none=>cases u with
    | none=>rfl
    | some _=>exact (show False from r).elim
  | some _=>cases u with
    | none=>exact (show False from r).elim
    | some _=>rfl
theorem KV.val {kvs:List (κ × V)} {vs:List (κ × Value)} (r:KV kvs vs) (k:κ):RelO (valV kvs k) (valueAt vs k):=by
  unfold KV at r
  induction r with
  | nil=>exact True.intro
  | @cons p q ps qs h t ih =>
    obtain ⟨h1,h2⟩:=h
    by_cases e:p.1 = k
    · have e':q.1 = k:=h1.symm.trans e
      have b:valueAt (q :: qs) k = some q.2:=by simp [valueAt,List.find?_cons,e']
      rw [valV_pos e,b];exact h2
    · have e':¬ q.1 = k:=fun z=>e (h1.trans z)
      have b:valueAt (q :: qs) k = valueAt qs k:=by simp [valueAt,List.find?_cons,e']
      rw [valV_neg e,b];exact ih
theorem KV.length {kvs:List (κ × V)} {vs:List (κ × Value)} (r:KV kvs vs):kvs.length = vs.length:=Paired.length r
end
theorem kV_is {P:Program} {w:World} {k:Key} {u:Value} (r:RelV (kV k) u):(mixKind P w).is k u = true:=by
  cases k with
  | inl i=>obtain ⟨t,e⟩:=(show ∃ t,u = Value.int i t from r);subst e;exact mixKind_int P w i t
  | inr x=>obtain ⟨t,e⟩:=(show ∃ t,u = Value.str x t from r);subst e;exact mixKind_str P w x t
theorem items_are {P:Program} {w:World}:∀ {ks:List Key} {us:List Value},Vals (ks.map kV) us → ItemsAre (mixKind P w) ks us
  | [],_,r=>by rw [List.map_nil] at r;cases r;exact .nil
  | k :: ks,_,r=>by
    rw [List.map_cons] at r
    cases r with
    | cons h t=>exact .cons (kV_is h) (items_are t)
noncomputable abbrev KT (H:Hp):List (List Key × V) → List (List Key × Addr × Value) → Prop:=Paired fun p q=>p.1 = q.1 ∧ H q.2.1 = some (.tup (p.1.map kV)) ∧ RelV p.2 q.2.2
theorem KT.val {H:Hp} {kvs:List (List Key × V)} {xs:List (List Key × Addr × Value)} (r:KT H kvs xs) (k:List Key):RelO (valV kvs k) ((atKey xs k).map (·.2)):=by
  induction r with
  | nil=>exact True.intro
  | @cons p q ps qs h t ih =>
    obtain ⟨h1,_,h2⟩:=h
    by_cases e:p.1 = k
    · have e':q.1 = k:=h1.symm.trans e
      have b:atKey (q :: qs) k = some q.2:=by simp [atKey,List.find?_cons,e']
      rw [valV_pos e,b];exact h2
    · have e':¬ q.1 = k:=fun z=>e (h1.trans z)
      have b:atKey (q :: qs) k = atKey qs k:=by simp [atKey,List.find?_cons,e']
      rw [valV_neg e,b];exact ih
section
variable {P:Program} {w:World} {H:Hp} {h:Heap} {a:Addr}
theorem rd_of {u:HO} (ok:HOk P w H h) (e:Rd H a u):ObjOk P w H h a u:=e.ok ok
theorem dk_rd {kvs:List (Key × V)} (ok:HOk P w H h) (e:Rd H a (.dK kvs)):kvs.length ≤ sizeLine ∧ (a == sysModules) = false ∧ ∃ vs,KV kvs vs ∧ h.DictOf (mixKind P w) a vs :=
  show ObjOk P w H h a (.dK kvs) from rd_of ok e
theorem key_of {ks:List Key} (ok:HOk P w H h) (e:H a = some (.tup (ks.map kV))):(tupleKind (mixKind P w)).is h ks a:=by
  obtain ⟨_,its,r,o,h1,h2,n,h3⟩:=(show ObjOk P w H h a (.tup (ks.map kV)) from ok a _ e)
  exact ⟨o,its.toArray,n,h1,h2,h3,by simpa using items_are r⟩
theorem dt_rd {kvs:List (List Key × V)} (ok:HOk P w H h) (e:Rd H a (.dT kvs)):kvs.length ≤ sizeLine ∧ (a == sysModules) = false ∧
    ∃ xs,KT H kvs xs ∧ h.DictOfH (tupleKind (mixKind P w)) a xs:=by
  obtain ⟨z,y,xs,r,o,es,ep,h1,h2,h3,h4,h5⟩:=(show ObjOk P w H h a (.dT kvs) from rd_of ok e)
  refine ⟨z,y,xs,r,o,es,ep,h1,h2,h3,h4,fun x hx=>?_,h5⟩
  have all:∀ {l:List (List Key × V)} {m:List (List Key × Addr × Value)},KT H l m → ∀ x ∈ m,(tupleKind (mixKind P w)).is h x.1 x.2.1:=by
    intro l m q
    induction q with
    | nil=>intro x hx;exact nomatch hx
    | @cons p q ps qs hq t ih =>
      intro x hx
      rcases List.mem_cons.mp hx with e | hx
      · subst e
        exact key_of ok (by rw [← hq.1];exact hq.2.1)
      · exact ih x hx
  exact all r x hx
end
noncomputable def DGet (H:Hp) (a:Addr) (y:V) (r:Option V):Prop :=
  (∃ kvs k,Rd H a (.dK kvs) ∧ y = kV k ∧ r = valV kvs k) ∨ ∃ kvs k b,Rd H a (.dT kvs) ∧ y = .ref b ∧ H b = some (.tup (k.map kV)) ∧ r = valV kvs k
noncomputable def DPut (H:Hp) (a:Addr) (y v:V) (H':Hp):Prop :=
  (∃ kvs k,H a = some (.dK kvs) ∧ y = kV k ∧ kvs.length < sizeLine ∧ H' = upd H a (.dK (putK kvs k v))) ∨
  ∃ kvs k b,H a = some (.dT kvs) ∧ y = .ref b ∧ H b = some (.tup (k.map kV)) ∧ kvs.length < sizeLine ∧ H' = upd H a (.dT (putK kvs k v))
theorem DGet.k {H:Hp} {a:Addr} {kvs:List (Key × V)} {k:Key} (e:H a = some (.dK kvs)):DGet H a (kV k) (valV kvs k):=.inl ⟨kvs,k,.inl e,rfl,rfl⟩
section
variable {X:Cx} {pins:List (Addr × Obj)} {σ:St} {H:Hp} {s:Shared} {a:Addr} {y v:V} {u r:Value} {o:Option V} {A:Around} {E:Value → Shared → Prop}
theorem d_getItem {Q:Value → Shared → Prop} (hu:A.units + 1 < cLine) (I:Inv X pins σ H s) (g:DGet H a y (some v)) (ry:RelV y u) (h:∀ w' s',Inv X pins σ H s' → RelV v w' → Q w' s') :
    wpAny (model X.prog X.w) A (getItem (.ref a) u) Q E s:=by
  rcases g with ⟨kvs,k,e,ey,l⟩ | ⟨kvs,k,b,e,ey,eb,l⟩
  · subst ey
    obtain ⟨z,hd,vs,rel,dd⟩:=dk_rd I.hok e
    obtain ⟨w',hw,rw'⟩:=RelO.some_of (v:=v) (o:=valueAt vs k) (by rw [l];exact rel.val k)
    exact wpAny_getItem_of (kV_is ry) dd.mapOf hw (h w' _ (I.tok _) rw')
  · subst ey
    cases (show u = Value.ref b from ry)
    obtain ⟨z,hd,xs,rel,dd⟩:=dt_rd I.hok e
    obtain ⟨w',hw,rw'⟩:=RelO.some_of (v:=v) (o:=(atKey xs k).map (·.2)) (by rw [l];exact rel.val k)
    obtain ⟨p,hp,hp2⟩:=Option.map_eq_some_iff.mp hw
    refine wpAny_getItem_heap (tupleKind_room_in1 hu) (key_of I.hok eb) dd hp ?_
    rw [hp2]
    exact h w' _ (I.tok _) rw'
theorem d_in {Q:Value → Shared → Prop} (hu:A.units + 1 < cLine) (I:Inv X pins σ H s) (g:DGet H a y o) (ry:RelV y u) (h:∀ s',Inv X pins σ H s' → Q (.bool o.isSome) s') :
    wpAny (model X.prog X.w) A (compareOp .In u (.ref a)) Q E s:=by
  rcases g with ⟨kvs,k,e,ey,l⟩ | ⟨kvs,k,b,e,ey,eb,l⟩
  · subst ey
    obtain ⟨z,hd,vs,rel,dd⟩:=dk_rd I.hok e
    refine wpAny_in_of (kV_is ry) hd dd.mapOf ?_
    rw [← (rel.val k).isSome_eq,← l]
    exact h _ (I.tok _)
  · subst ey
    cases (show u = Value.ref b from ry)
    obtain ⟨z,hd,xs,rel,dd⟩:=dt_rd I.hok e
    refine wpAny_in_heap (tupleKind_room_in1 hu) (key_of I.hok eb) hd dd ?_
    have q:=(rel.val k).isSome_eq
    rw [Option.isSome_map] at q
    rw [← q,← l]
    exact h _ (I.tok _)
theorem d_notIn {Q:Value → Shared → Prop} (hu:A.units + 1 < cLine) (I:Inv X pins σ H s) (g:DGet H a y o) (ry:RelV y u) (h:∀ s',Inv X pins σ H s' → Q (.bool (!o.isSome)) s') :
    wpAny (model X.prog X.w) A (compareOp .NotIn u (.ref a)) Q E s:=by
  rcases g with ⟨kvs,k,e,ey,l⟩ | ⟨kvs,k,b,e,ey,eb,l⟩
  · subst ey
    obtain ⟨z,hd,vs,rel,dd⟩:=dk_rd I.hok e
    refine wpAny_notIn_of (kV_is ry) hd dd.mapOf ?_
    rw [← (rel.val k).isSome_eq,← l]
    exact h _ (I.tok _)
  · subst ey
    cases (show u = Value.ref b from ry)
    obtain ⟨z,hd,xs,rel,dd⟩:=dt_rd I.hok e
    refine wpAny_notIn_heap (tupleKind_room_in1 hu) (key_of I.hok eb) hd dd ?_
    have q:=(rel.val k).isSome_eq
    rw [Option.isSome_map] at q
    rw [← q,← l]
    exact h _ (I.tok _)
end
section
variable {X:Cx} {pins:List (Addr × Obj)} {σ:St} {H:Hp} {s:Shared} {a:Addr} {kvs:List (Key × V)} {k:Key} {u:Value} {A:Around} {E:Value → Shared → Prop}
theorem d_len {Q:Value → Shared → Prop} (I:Inv X pins σ H s) (e:Rd H a (.dK kvs)) (h:∀ t s',Inv X pins σ H s' → Q (.int kvs.length t) s'):wpAny (model X.prog X.w) A (call (.builtin "len") [.ref a]) Q E s:=by
  obtain ⟨z,hd,vs,rel,dd⟩:=dk_rd I.hok e
  refine call_len_dict hd dd (by rw [← rel.length];rw [sizeLine_eq] at z;(first | lia | omega)) ?_
  rw [← rel.length]
  exact h _ _ (I.tok _)
end
theorem dict_typeIs {X:Cx} {pins:List (Addr × Obj)} {σ:St} {H:Hp} {s:Shared} {a:Addr} {y:V} {o:Option V} (I:Inv X pins σ H s) (g:DGet H a y o):s.TypeIs (.ref a) "dict" := by
  rcases g with ⟨kvs,k,e,_,_⟩ | ⟨kvs,k,b,e,_,_,_⟩
  · obtain ⟨_,_,vs,_,dd⟩:=dk_rd I.hok e
    exact dd.typeIs
  · obtain ⟨_,_,xs,_,dd⟩:=dt_rd I.hok e
    exact dd.typeIs
section
variable {X:Cx} {o i e value:Expr} {pos pos' tpos:Pos} {td ty tv:TE}
end
section
variable {X:Cx} {pos:Pos}
end
structure M2 (X:Cx) (o:Expr) (m:Str) (apos:Pos) (e f:Expr) (cpos:Pos):Prop where
  base:attributeBase o m X.env (eval o X.env) = eval o X.env
  few:((backTo cpos (starEach [e,f] X.env)).all (fun x=>!x.1) && (backToKw cpos (keywordEach [] X.env)).all (fun x=>x.1.isSome)
    && decide (([e,f]:List Expr).length + ([]:List Keyword).length + (if ([]:List Keyword).isEmpty then 0 else 1) < 30)) = true
  line:(apos.endLine == cpos.line) = true
  trees:backTo cpos (starEach [e,f] X.env) = [(false,eval e X.env),(false,eval f X.env)]
section
variable {X:Cx} {pins:List (Addr × Obj)} {σ:St} {H:Hp} {s:Shared} {a:Addr} {y d:V} {u r:Value} {o:Option V} {A:Around} {E:Value → Shared → Prop}
end
section
variable {X:Cx} {o e f:Expr} {apos cpos:Pos} {td ty tx:TE}
end
end L2
namespace Tr
open PySem
set_option genSizeOf true in
set_option genSizeOfSpec true in
inductive D where
  | non | bl (b:Bool) | int (i:Int) | str (x:Str) | tup (ds:List D) | lst (ds:List D) | dct (kvs:List (Sum Int Str × D)) | tdc (kvs:List (List (Sum Int Str) × D))
  deriving Inhabited
inductive Res (α:Type) where
  | ok (a:α) | err (c:Str) (d:D) | no
  deriving Inhabited
namespace Res
@[reducible] noncomputable def bind {α β:Type} (x:Res α) (f:α → Res β):Res β:=match x with | .ok a=>f a | .err c d=>.err c d | .no=>.no
noncomputable instance:Monad Res where
  pure:=.ok
  bind:=bind
@[simp] theorem ok_bind {α β:Type} (a:α) (f:α → Res β):(Res.ok a >>= f) = f a:=id rfl
theorem bind_ok {α β:Type} {x:Res α} {f:α → Res β} {b:β} (h:(x >>= f) = .ok b):∃ a,x = .ok a ∧ f a = .ok b:=by
  cases x with
  | ok a=>exact ⟨a,rfl,h⟩
  | err c d=>cases h
  | no=>cases h
end Res
noncomputable def when {α:Type} (c:Bool) (r:Res α):Res α:=if c then r else .no
theorem when_ok {α:Type} {c:Bool} {r:Res α} {a:α} (h:when c r = .ok a):c = true ∧ r = .ok a:=by
  unfold when at h
  split at h
  · exact ⟨by assumption,h⟩
  · cases h
theorem when_of {α:Type} {c:Bool} (h:c = true) (r:Res α):when c r = r:=by subst h;rfl
noncomputable def b2z (b:Bool):Int:=if b then 1 else 0
mutual
noncomputable def D.eqb:D → D → Bool
  | .non,.non=>true
  | .bl a,.bl b=>a == b
  | .bl a,.int j=>b2z a == j
  | .int i,.bl b=>i == b2z b
  | .int i,.int j=>i == j
  | .str x,.str y=>x == y
  | .tup a,.tup b=>D.eqs a b
  | .lst a,.lst b=>D.eqs a b
  | _,_=>false
noncomputable def D.eqs:List D → List D → Bool
  | [],[]=>true
  | a :: r,b :: q=>D.eqb a b && D.eqs r q
  | _,_=>false
end
mutual
noncomputable def D.pl:Nat → D → Bool
  | _,.dct _=>false
  | _,.tdc _=>false
  | n,.tup a=>D.pls n a
  | n,.lst a=>D.pls n a
  | _,_=>true
noncomputable def D.pls:Nat → List D → Bool
  | _,[]=>true
  | 0,_ :: _=>false
  | n + 1,a :: r=>D.pl n a && D.pls (n + 1) r
end
mutual
noncomputable def D.flat:D → Bool
  | .dct _=>false
  | .tdc _=>false
  | .lst _=>false
  | .tup a=>D.flats a
  | _=>true
noncomputable def D.flats:List D → Bool
  | []=>true
  | a :: r=>D.flat a && D.flats r
end
mutual
theorem D.eqb_refl:∀ (n:Nat) (d:D),D.pl n d = true → D.eqb d d = true
  | _,.non,_=>rfl
  | _,.bl a,_=>by simp [D.eqb]
  | _,.int i,_=>by simp [D.eqb]
  | _,.str x,_=>by simp [D.eqb]
  | n,.tup a,h=>by rw [D.eqb];exact D.eqs_refl n a (by rw [D.pl] at h;exact h)
  | n,.lst a,h=>by rw [D.eqb];exact D.eqs_refl n a (by rw [D.pl] at h;exact h)
  | _,.dct a,h=>by rw [D.pl] at h;cases h
  | _,.tdc a,h=>by rw [D.pl] at h;cases h
theorem D.eqs_refl:∀ (n:Nat) (a:List D),D.pls n a = true → D.eqs a a = true
  | _,[],_=>by rw [D.eqs]
  | 0,a :: r,h=>by rw [D.pls] at h;cases h
  | n + 1,a :: r,h=>by
    rw [D.pls,Bool.and_eq_true] at h
    rw [D.eqs,D.eqb_refl n a h.1,D.eqs_refl (n + 1) r h.2];rfl
end
noncomputable def big:Nat:=16777216
noncomputable def sIx (n d:Nat):Option Int → Nat
  | none=>d
  | some v=>if v < 0 then (v + (n:Int)).toNat else min v.toNat n
noncomputable def cut {α:Type} (xs:List α) (lo hi:Option Int):List α:=(xs.drop (sIx xs.length 0 lo)).take (sIx xs.length xs.length hi - sIx xs.length 0 lo)
noncomputable def ixN (n:Nat) (i:Int):Option Nat:=if 0 ≤ i then (if i < n then some i.toNat else none) else if -(n:Int) ≤ i then some (i + n).toNat else none
noncomputable def atI {α:Type} (xs:List α) (i:Int):Option α:=(ixN xs.length i).bind fun j=>xs[j]?
noncomputable def small64 (i:Int):Bool:=decide (-(2 ^ 64) < i) && decide (i < 2 ^ 64)
noncomputable def D.bin:Operator → D → D → Res D
  | .Add,.int i,.int j=>.ok (.int (i + j))
  | .Add,.str x,.str y=>when (decide (x.length + y.length ≤ big)) (.ok (.str (x ++ y)))
  | .Add,.lst a,.lst b=>when (decide (a.length + b.length ≤ big)) (.ok (.lst (a ++ b)))
  | .Add,.tup a,.tup b=>when (decide (a.length + b.length ≤ big)) (.ok (.tup (a ++ b)))
  | .Sub,.int i,.int j=>.ok (.int (i - j))
  | .Mult,.int i,.int j=>when (small64 i || small64 j) (.ok (.int (i * j)))
  | .Mult,.tup a,.int j=>when (decide (a.length = 1) && decide (0 ≤ j) && decide (j ≤ 1000)) (.ok (.tup (List.replicate j.toNat a).flatten))
  | .FloorDiv,.int i,.int j=>when (decide (0 < j) && decide (j < 1073741824)) (.ok (.int (i / j)))
  | .Mod,.int i,.int j=>when (decide (0 < j)) (.ok (.int (i % j)))
  | .Pow,.int i,.int j=>when (decide (0 ≤ j) && decide (j ≤ 1000000) && decide (i.natAbs < 2 ^ 64)) (.ok (.int (i ^ j.toNat)))
  | _,_,_=>.no
noncomputable def chr1 (c:Nat):Str:=⟨#[c]⟩
noncomputable def strCut (x:Str) (lo hi:Option Int):Str:=⟨(cut x.cps.toList lo hi).toArray⟩
noncomputable def splitC (c:Nat):List Nat → List (List Nat)
  | []=>[[]]
  | x :: r=>if x = c then [] :: splitC c r else match splitC c r with
    | h :: t=>(x :: h) :: t
    | []=>[[x]]
noncomputable def splitS (x:Str) (c:Nat):List Str:=(splitC c x.cps.toList).map fun l=>⟨l.toArray⟩
noncomputable def joinC (g:List Nat):List (List Nat) → List Nat
  | []=>[]
  | [a]=>a
  | a :: b :: r=>a ++ g ++ joinC g (b :: r)
noncomputable def joinS (g:Str) (xs:List Str):Str:=⟨(joinC g.cps.toList (xs.map fun x=>x.cps.toList)).toArray⟩
noncomputable def digitsN (cs:List Nat):Nat:=cs.foldl (fun acc c=>acc * 10 + (c - 48)) 0
noncomputable def isDigits (cs:List Nat):Bool:=!cs.isEmpty && cs.all fun c=>decide (48 ≤ c) && decide (c ≤ 57)
noncomputable def strsOf:List D → Res (List Str)
  | []=>.ok []
  | .str x :: r=>do let q ← strsOf r;.ok (x :: q)
  | _ :: _=>.no
noncomputable def blsOf:List D → Res (List Bool)
  | []=>.ok []
  | .bl x :: r=>do let q ← blsOf r;.ok (x :: q)
  | _ :: _=>.no
noncomputable def oneIn (x y:Str):Res Bool:=match x.cps.toList with
  | [c]=>.ok (decide (c ∈ y.cps.toList))
  | _=>.no
noncomputable def keyOf:D → Option (Sum Int Str)
  | .int i=>some (.inl i)
  | .str x=>some (.inr x)
  | _=>none
noncomputable def valK (kvs:List (Sum Int Str × D)) (k:Sum Int Str):Option D:=(kvs.find? fun kv=>decide (kv.1 = k)).map (·.2)
noncomputable def putKD (kvs:List (Sum Int Str × D)) (k:Sum Int Str) (v:D):List (Sum Int Str × D) :=
  if (kvs.any fun kv=>decide (kv.1 = k)) = true then kvs.map (fun kv=>if kv.1 = k then (kv.1,v) else kv) else kvs ++ [(k,v)]
noncomputable def keysT:List D → Option (List (Sum Int Str))
  | []=>some []
  | d :: r=>(keyOf d).bind fun k=>(keysT r).map fun q=>k :: q
noncomputable def valT (kvs:List (List (Sum Int Str) × D)) (k:List (Sum Int Str)):Option D:=(kvs.find? fun kv=>decide (kv.1 = k)).map (·.2)
noncomputable def putTD (kvs:List (List (Sum Int Str) × D)) (k:List (Sum Int Str)) (v:D):List (List (Sum Int Str) × D) :=
  if (kvs.any fun kv=>decide (kv.1 = k)) = true then kvs.map (fun kv=>if kv.1 = k then (kv.1,v) else kv) else kvs ++ [(k,v)]
noncomputable def Res.of {α:Type}:Option α → Res α
  | some a=>.ok a
  | none=>.no
noncomputable def D.isNon:D → Bool
  | .non=>true
  | _=>false
noncomputable def D.eqOk (a b:D):Bool:=D.pl 30 a && D.pl 30 b
noncomputable def D.mem (x:D):List D → Bool
  | []=>false
  | y :: r=>D.eqb y x || D.mem x r
noncomputable def D.inn (x:D):D → Res Bool
  | .lst ds=>when (D.pls 30 ds && D.pl 29 x) (.ok (D.mem x ds))
  | .tup ds=>when (D.pls 30 ds && D.pl 29 x) (.ok (D.mem x ds))
  | .dct kvs=>do let k ← Res.of (keyOf x);.ok (valK kvs k).isSome
  | .str y=>match x with
    | .str z=>oneIn z y
    | _=>.no
  | _=>.no
noncomputable def D.cmp:CmpOp → D → D → Res D
  | .Eq,a,b=>when (D.eqOk a b) (.ok (.bl (D.eqb a b)))
  | .NotEq,a,b=>when (D.eqOk a b) (.ok (.bl (!D.eqb a b)))
  | .Lt,.int i,.int j=>.ok (.bl (decide (i < j)))
  | .LtE,.int i,.int j=>.ok (.bl (decide (i ≤ j)))
  | .Gt,.int i,.int j=>.ok (.bl (decide (j < i)))
  | .GtE,.int i,.int j=>.ok (.bl (decide (j ≤ i)))
  | .Is,a,.non=>.ok (.bl a.isNon)
  | .IsNot,a,.non=>.ok (.bl (!a.isNon))
  | .Is,.bl a,.bl b=>.ok (.bl (a == b))
  | .IsNot,.bl a,.bl b=>.ok (.bl (a != b))
  | .In,a,b=>do let k ← D.inn a b;.ok (.bl k)
  | .NotIn,a,b=>do let k ← D.inn a b;.ok (.bl (!k))
  | _,_,_=>.no
noncomputable def D.truth:D → Res Bool
  | .non=>.ok false
  | .bl b=>.ok b
  | .int i=>.ok (i != 0)
  | .str x=>when (decide (x.length ≤ big)) (.ok ((x.length:Int) != 0))
  | .tup a=>.ok (!a.isEmpty)
  | .lst a=>.ok (!a.isEmpty)
  | .dct a=>.ok (!a.isEmpty)
  | .tdc _=>.no
noncomputable def D.ix:D → D → Res D
  | .lst a,.int i=>Res.of (atI a i)
  | .tup a,.int i=>Res.of (atI a i)
  | .str x,.int i=>when (decide (x.length ≤ big)) (Res.of ((atI x.cps.toList i).map fun c=>.str ⟨#[c]⟩))
  | .dct kvs,y=>do let k ← Res.of (keyOf y);Res.of (valK kvs k)
  | _,_=>.no
noncomputable def D.part:D → Res (Option Int)
  | .non=>.ok none
  | .int i=>.ok (some i)
  | _=>.no
noncomputable def D.sl:D → Option Int → Option Int → Res D
  | .lst a,lo,hi=>.ok (.lst (cut a lo hi))
  | .tup a,lo,hi=>.ok (.tup (cut a lo hi))
  | .str x,lo,hi=>when (decide (x.length ≤ big)) (.ok (.str (strCut x lo hi)))
  | _,_,_=>.no
noncomputable def D.items:D → Res (List D)
  | .lst a=>.ok a
  | .tup a=>.ok a
  | .str x=>.ok (x.cps.toList.map fun c=>.str (chr1 c))
  | _=>.no
noncomputable def intsOf:List D → Res (List Int)
  | []=>.ok []
  | .int i :: r=>do let q ← intsOf r;.ok (i :: q)
  | _ :: _=>.no
noncomputable def rangeD (lo:Int):Nat → List D
  | 0=>[]
  | n + 1=>.int lo :: rangeD (lo + 1) n
noncomputable def enumD (k:Int):List D → List D
  | []=>[]
  | d :: r=>.tup [.int k,d] :: enumD (k + 1) r
noncomputable def zipD:List D → List D → List D
  | a :: r,b :: q=>.tup [a,b] :: zipD r q
  | _,_=>[]
noncomputable def small62 (i:Int):Bool:=decide (-(2 ^ 62) ≤ i) && decide (i < 2 ^ 62)
inductive Ty where
  | int | bool | str | tuple | list
  deriving DecidableEq,Inhabited
noncomputable def D.isDct:D → Bool
  | .dct _=>true
  | .tdc _=>true
  | _=>false
noncomputable def D.isTy:D → Ty → Bool
  | .int _,.int=>true
  | .bl _,.int=>true
  | .bl _,.bool=>true
  | .str _,.str=>true
  | .tup _,.tuple=>true
  | .lst _,.list=>true
  | _,_=>false
inductive Bt where
  | len | sum | tuple | list | int | str | bool | abs | min | max | all | any
  deriving DecidableEq,Inhabited
noncomputable def D.len:D → Res D
  | .lst a=>.ok (.int a.length)
  | .tup a=>.ok (.int a.length)
  | .str x=>when (decide (x.length ≤ big)) (.ok (.int x.length))
  | .dct a=>.ok (.int a.length)
  | _=>.no
noncomputable def D.sum:D → Res D
  | .lst a=>do let ns ← intsOf a;.ok (.int ns.sum)
  | _=>.no
noncomputable def D.tuple:D → Res D
  | .lst a=>.ok (.tup a)
  | .tup a=>.ok (.tup a)
  | _=>.no
noncomputable def D.list:D → Res D
  | .lst a=>.ok (.lst a)
  | .tup a=>.ok (.lst a)
  | _=>.no
noncomputable def D.toInt:D → Res D
  | .int i=>.ok (.int i)
  | .bl b=>.ok (.int (b2z b))
  | .str x=>when (isDigits x.cps.toList && decide (x.length ≤ 640)) (.ok (.int (digitsN x.cps.toList)))
  | _=>.no
noncomputable def D.toStr:D → Res D
  | .int i=>when (decide (i.natAbs.log2 < 1920)) (.ok (.str (Str.ofString (toString i))))
  | _=>.no
noncomputable def D.toBool:D → Res D
  | .int i=>.ok (.bl (i != 0))
  | .bl b=>.ok (.bl b)
  | _=>.no
noncomputable def D.abs:D → Res D
  | .int i=>.ok (.int (if i < 0 then -i else i))
  | _=>.no
noncomputable def D.all:D → Res D
  | .lst a=>do let q ← blsOf a;.ok (.bl (q.all id))
  | _=>.no
noncomputable def D.any:D → Res D
  | .lst a=>do let q ← blsOf a;.ok (.bl (q.any id))
  | _=>.no
noncomputable def maxI:Int → List Int → Int
  | m,[]=>m
  | m,n :: r=>maxI (if n > m then n else m) r
noncomputable def minI:Int → List Int → Int
  | m,[]=>m
  | m,n :: r=>minI (if n < m then n else m) r
noncomputable def D.maxL:D → Res D
  | .lst a=>do
    match ← intsOf a with
    | n :: ns=>.ok (.int (maxI n ns))
    | []=>.no
  | .tup a=>do
    match ← intsOf a with
    | n :: ns=>.ok (.int (maxI n ns))
    | []=>.no
  | _=>.no
noncomputable def D.minL:D → Res D
  | .lst a=>do
    match ← intsOf a with
    | n :: ns=>.ok (.int (minI n ns))
    | []=>.no
  | .tup a=>do
    match ← intsOf a with
    | n :: ns=>.ok (.int (minI n ns))
    | []=>.no
  | _=>.no
noncomputable def D.maxD:D → D → Res D
  | .lst a,.int d=>do
    match ← intsOf a with
    | n :: ns=>.ok (.int (maxI n ns))
    | []=>.ok (.int d)
  | _,_=>.no
noncomputable def D.min2:D → D → Res D
  | .int i,.int j=>.ok (.int (if j < i then j else i))
  | _,_=>.no
noncomputable def D.max2:D → D → Res D
  | .int i,.int j=>.ok (.int (if j > i then j else i))
  | _,_=>.no
noncomputable def Bt.one:Bt → D → Res D
  | .len=>D.len
  | .sum=>D.sum
  | .tuple=>D.tuple
  | .list=>D.list
  | .int=>D.toInt
  | .str=>D.toStr
  | .bool=>D.toBool
  | .abs=>D.abs
  | .all=>D.all
  | .any=>D.any
  | .min=>D.minL
  | .max=>D.maxL
noncomputable def Bt.two:Bt → D → D → Res D
  | .min=>D.min2
  | .max=>D.max2
  | _=>fun _ _=>.no
noncomputable def Bt.run (b:Bt):List D → Res D
  | [d]=>b.one d
  | [d,d']=>b.two d d'
  | _=>.no
noncomputable def D.aug:Operator → D → D → Res D
  | .Add,.int i,.int j=>.ok (.int (i + j))
  | .Sub,.int i,.int j=>.ok (.int (i - j))
  | _,_,_=>.no
noncomputable def zipR:D → D → Res (List D)
  | .lst a,.lst b=>.ok (zipD a b)
  | _,_=>.no
noncomputable def lrngR:D → Res D
  | .int n=>when (small62 n && decide (n ≤ (big:Nat))) (.ok (.lst (rangeD 0 n.toNat)))
  | _=>.no
noncomputable def sset8 (ns:List Int):List D:=((List.range 8).filter fun i:Nat=>ns.contains (i:Int)).map fun i:Nat=>D.int (i:Int)
noncomputable def ssetR:D → Res D
  | .lst a=>do let ns ← intsOf a;when (ns.all fun n=>decide (0 ≤ n) && decide (n < 8)) (.ok (.lst (sset8 ns)))
  | _=>.no
inductive Mt where
  | split | join | index
  deriving DecidableEq,Inhabited
noncomputable def Mt.run:Mt → D → D → Res D
  | .split,.str x,.str y=>match y.cps.toList with
    | [c]=>when (decide (x.length < big) && decide (c < 256)) (.ok (.lst ((splitS x c).map D.str)))
    | _=>.no
  | .join,.str g,.lst ds=>do
    let xs ← strsOf ds
    when (decide (g.length ≤ 64) && decide ((xs.map (·.length)).sum + xs.length * 64 ≤ big)) (.ok (.str (joinS g xs)))
  | .index,.lst ds,.int i=>do let ns ← intsOf ds;when (ns.contains i) (.ok (.int (ns.idxOf i:Nat)))
  | _,_,_=>.no
noncomputable def tabAt (fs:List Nat):D → Res Nat
  | .int i=>Res.of (atI fs i)
  | _=>.no
noncomputable def idxS (ss:List Str):D → Res D
  | .str z=>when (ss.contains z) (.ok (.int (ss.idxOf z:Nat)))
  | _=>.no
noncomputable def keysD:List D → Res (List (Sum Int Str))
  | []=>.ok []
  | d :: r=>do let k ← Res.of (keyOf d);let q ← keysD r;.ok (k :: q)
noncomputable def D.keys:D → Res (List (Sum Int Str))
  | .lst ds=>keysD ds
  | .tup ds=>keysD ds
  | .str x=>.ok (x.cps.toList.map fun c=>.inr ⟨#[c]⟩)
  | _=>.no
noncomputable def metD (ks:List (Sum Int Str)):List (Sum Int Str):=ks.foldl (fun acc k=>if acc.any (fun x=>decide (x = k)) then acc else acc ++ [k]) []
noncomputable def pairOf:D → Option (Nat × Nat)
  | .tup [.int a,.int b]=>if decide (0 ≤ a) && decide (a < 9) && decide (0 ≤ b) && decide (b < 8) then some (a.toNat,b.toNat) else none
  | _=>none
noncomputable def prsOf:List D → Option (List (Nat × Nat))
  | []=>some []
  | d :: r=>(pairOf d).bind fun p=>(prsOf r).bind fun q=>some (p :: q)
noncomputable def nodupP:List (Nat × Nat) → Bool
  | []=>true
  | p :: r=>(!r.contains p) && nodupP r
noncomputable def D.setN (x:D):Res D:=match x.keys with
  | .ok ks=>when (decide (ks.length + 1 < 4096)) (.ok (.int (metD ks).length))
  | _=>match x with
    | .lst ds=>match prsOf ds with
      | some ps=>when (nodupP ps && decide (ps.length ≤ 72)) (.ok (.int ps.length))
      | none=>.no
    | _=>.no
set_option genInjectivity false in
inductive G where
  | one (i:Nat) | many (is:List Nat)
  deriving Inhabited
set_option genInjectivity false in
inductive E where
  | var (i:Nat) | rd (i:Nat) | con (d:D) | glob (g:Nat)
  | bin (o:Operator) (a b:E) | cmp (o:CmpOp) (a b:E) | chain (o p:CmpOp) (a b c:E)
  | and (a b:E) | or (a b:E) | not (a:E) | neg (a:E) | ife (c a b:E)
  | ix (a b:E) | sl (a lo hi:E) | omit
  | tup (a:E) | lst (a:E) | anil | acons (a r:E)
  | call (f:Nat) (a:E) | callB (f:Nat) (a:E) | bt (b:Bt) (a:E) | isi (a:E) (t:Ty)
  | comp (own:Nat) (caps:List Nat) (g:G) (elt src cond:E)
  | seq (a:E) | rng (a:E) | rng2 (a b:E) | enum (a:E)
  | dnew | mth (m:Mt) (a b:E)
  | callT (fs:List Nat) (k a:E) | gidx (ss:List Str) (a:E) | lset (a:E)
  | lrng (a:E) | zip (a b:E) | maxd (a b:E) | sset (a:E) | dnewT | getT (i:Nat) (a b:E) | look (i:Nat) (a:E)
  deriving Inhabited
set_option genInjectivity false in
inductive S where
  | nil | cons (a r:S)
  | pass | ret (e:E) | retO (i:Nat) | retN
  | asg (g:G) (e:E) | asgO (i:Nat) (e:E) | sealed (i:Nat)
  | ite (c:E) (a b:S) | forS (g:G) (src:E) (b:S) | whl (n:Nat) (c:E) (b:S)
  | app (i:Nat) (e:E) | rev (i:Nat) | brk | cnt
  | dput (i:Nat) (k v:E) | ext (i:Nat) (e:E)
  | never | asgP (g:G) (i:Nat) (k:E) | appP (j i:Nat) (k:E)
  | aug (i:Nat) (o:Operator) (e:E) | lput (i:Nat) (k e:E) | dputT (i:Nat) (k v:E)
  | exp (e:E) | ins (i:Nat) (k e:E) | rais (c:Str) (a:E)
  | asgT (i:Nat) (e:E) | appT (i:Nat) (e:E) | retT (a b:E)
  deriving Inhabited
inductive Sl where
  | no | v (d:D) | o (d:D) | t (ds:List D)
  deriving Inhabited
noncomputable abbrev Nv:=List Sl
noncomputable def Nv.at (e:Nv) (i:Nat):Sl:=(e[i]?).getD .no
noncomputable def Sl.val:Sl → Res D
  | .v d=>.ok d
  | _=>.no
noncomputable def Sl.any:Sl → Res D
  | .v d=>.ok d
  | .o d=>.ok d
  | _=>.no
noncomputable def Sl.own:Sl → Res (List D)
  | .o (.lst a)=>.ok a
  | _=>.no
noncomputable def Sl.ownD:Sl → Res (List (Sum Int Str × D))
  | .o (.dct a)=>.ok a
  | _=>.no
noncomputable def Sl.ownT:Sl → Res (List (List (Sum Int Str) × D))
  | .o (.tdc a)=>.ok a
  | _=>.no
noncomputable def Sl.ownP:Sl → Res (List D)
  | .t ds=>.ok ds
  | _=>.no
noncomputable def Sl.ownA:Sl → Res D
  | .o d=>.ok d
  | _=>.no
noncomputable def puts:List Nat → List D → Nv → Res Nv
  | [],[],e=>.ok e
  | i :: r,d :: q,e=>puts r q (e.set i (.v d))
  | _,_,_=>.no
noncomputable def G.put:G → D → Nv → Res Nv
  | .one i,d,e=>.ok (e.set i (.v d))
  | .many is,.tup ds,e=>puts is ds e
  | _,_,_=>.no
noncomputable def compEnv (own:Nat) (caps:List Nat) (e:Nv):Nv:=List.replicate own Sl.no ++ caps.map fun i=>e.at i
set_option genInjectivity false in
structure Tab where
  glob:Nat → D
  fresh:Nat → Bool
section
variable (T:Tab) (cf:Nat → List D → Res D)
noncomputable def tupL:D → Bool
  | .tup (.lst _ :: _)=>true
  | _=>false
noncomputable def D.flatL:D → Bool
  | .lst ds=>D.flats ds
  | _=>false
noncomputable def freshE:E → Bool
  | .lst _=>true
  | .sl _ _ _=>true
  | .bin .Add _ _=>true
  | .comp _ _ _ _ _ _=>true
  | .bt .list _=>true
  | .dnew=>true
  | .dnewT=>true
  | .lrng _=>true
  | .sset _=>true
  | .mth .split _ _=>true
  | .call f _=>T.fresh f
  | .look _ x=>freshE x
  | _=>false
noncomputable def compL (f:D → Res (Option D)):List D → Res (List D)
  | []=>.ok []
  | d :: r=>do
    let x ← f d
    let q ← compL f r
    match x with
    | some y=>.ok (y :: q)
    | none=>.ok q
mutual
noncomputable def evE:E → Nv → Res D
  | .var i,e=>(e.at i).val
  | .rd i,e=>(e.at i).any
  | .con d,_=>.ok d
  | .glob g,_=>.ok (T.glob g)
  | .bin o a b,e=>do let x ← evE a e;let y ← evE b e;D.bin o x y
  | .cmp o a b,e=>do let x ← evE a e;let y ← evE b e;D.cmp o x y
  | .chain o p a b c,e=>do
    let x ← evE a e
    let y ← evE b e
    match ← D.cmp o x y with
    | .bl true=>do let z ← evE c e;D.cmp p y z
    | .bl false=>.ok (.bl false)
    | _=>.no
  | .and a b,e=>do let x ← evE a e;let k ← x.truth;if k then evE b e else .ok x
  | .or a b,e=>do let x ← evE a e;let k ← x.truth;if k then .ok x else evE b e
  | .not a,e=>do let x ← evE a e;let k ← x.truth;.ok (.bl (!k))
  | .neg a,e=>do
    match ← evE a e with
    | .int i=>.ok (.int (-i))
    | _=>.no
  | .ife c a b,e=>do let x ← evE c e;let k ← x.truth;if k then evE a e else evE b e
  | .ix a b,e=>do let x ← evE a e;let y ← evE b e;D.ix x y
  | .sl a lo hi,e=>do let x ← evE a e;let l ← evE lo e;let l ← l.part;let h ← evE hi e;let h ← h.part;D.sl x l h
  | .omit,_=>.ok .non
  | .tup a,e=>do let xs ← evA a e;.ok (.tup xs)
  | .lst a,e=>do let xs ← evA a e;.ok (.lst xs)
  | .call f a,e=>do let xs ← evA a e;cf f xs
  | .callB f a,e=>do let xs ← evA a e;let d ← cf f xs;when d.flat (.ok d)
  | .bt b a,e=>do let xs ← evA a e;b.run xs
  | .isi a t,e=>do let x ← evE a e;when (!x.isDct) (.ok (.bl (x.isTy t)))
  | .dnew,_=>.ok (.dct [])
  | .mth m a b,e=>do let x ← evE a e;let y ← evE b e;m.run x y
  | .callT fs k a,e=>do let x ← evE k e;let f ← tabAt fs x;let xs ← evA a e;cf f xs
  | .gidx ss a,e=>do let x ← evE a e;idxS ss x
  | .lset a,e=>do let x ← evE a e;x.setN
  | .lrng a,e=>do let x ← evE a e;lrngR x
  | .sset a,e=>do let x ← evE a e;ssetR x
  | .dnewT,_=>.ok (.tdc [])
  | .getT i a b,e=>do let kvs ← (e.at i).ownT;let ys ← evA a e;let z ← evE b e;let k ← Res.of (keysT ys);.ok ((valT kvs k).getD z)
  | .maxd a b,e=>do let x ← evE a e;let y ← evE b e;D.maxD x y
  | .look i a,e=>do let ds ← (e.at i).ownP;let d ← evE a (e.set i (.v (.tup ds)));when (d.flat || (freshE T a && d.flatL)) (.ok d)
  | .comp own caps g elt src cond,e=>do
    let ds ← evI src e
    let ys ← compL (fun d=>do
      let e1 ← g.put d (compEnv own caps e)
      let c ← evE cond e1
      let k ← c.truth
      if k then do let y ← evE elt e1;.ok (some y) else .ok none) ds
    when (decide (ds.length ≤ big)) (.ok (.lst ys))
  | _,_=>.no
noncomputable def evA:E → Nv → Res (List D)
  | .anil,_=>.ok []
  | .acons a r,e=>do let x ← evE a e;let q ← evA r e;when (decide (q.length < 1000)) (.ok (x :: q))
  | _,_=>.no
noncomputable def evI:E → Nv → Res (List D)
  | .seq a,e=>do let x ← evE a e;x.items
  | .rng a,e=>do
    match ← evE a e with
    | .int n=>when (small62 n) (.ok (rangeD 0 n.toNat))
    | _=>.no
  | .rng2 a b,e=>do
    match ← evE a e with
    | .int n=>do
      match ← evE b e with
      | .int m=>when (small62 n && small62 m) (.ok (rangeD n (m - n).toNat))
      | _=>.no
    | _=>.no
  | .enum a,e=>do
    match ← evE a e with
    | .lst ds=>.ok (enumD 0 ds)
    | .tup ds=>.ok (enumD 0 ds)
    | _=>.no
  | .zip a b,e=>do let x ← evE a e;let y ← evE b e;zipR x y
  | _,_=>.no
end
noncomputable def popIx (n:Nat):D → Res Nat
  | .int v=>when (small62 v) (Res.of (ixN n v))
  | _=>.no
noncomputable def popAt (n:Nat):E → D → Res Nat
  | .omit,_=>if n = 0 then .no else .ok (n - 1)
  | _,d=>popIx n d
noncomputable def insIx (n:Nat):D → Res Nat
  | .int v=>when (decide (0 ≤ v) && decide (v ≤ (n:Int)) && decide (n < big)) (.ok v.toNat)
  | _=>.no
inductive Out where
  | nx (e:Nv) | rt (d:D) (fresh:Bool) | bk (e:Nv) | ct (e:Nv)
  deriving Inhabited
noncomputable def forL (f:D → Nv → Res Out):List D → Nv → Res Out
  | [],e=>.ok (.nx e)
  | d :: r,e=>do
    match ← f d e with
    | .nx e1=>forL f r e1
    | .ct e1=>forL f r e1
    | .bk e1=>.ok (.nx e1)
    | .rt x k=>.ok (.rt x k)
noncomputable def whileL (c:Nv → Res Bool) (f:Nv → Res Out):Nat → Nv → Res Out
  | 0,_=>.no
  | n + 1,e=>do
    if ← c e then
      match ← f e with
      | .nx e1=>whileL c f n e1
      | .ct e1=>whileL c f n e1
      | .bk e1=>.ok (.nx e1)
      | .rt x k=>.ok (.rt x k)
    else .ok (.nx e)
noncomputable def exS:S → Nv → Res Out
  | .nil,e=>.ok (.nx e)
  | .cons a r,e=>do
    match ← exS a e with
    | .nx e1=>exS r e1
    | o=>.ok o
  | .pass,e=>.ok (.nx e)
  | .ret x,e=>do let d ← evE T cf x e;.ok (.rt d (freshE T x && !tupL d))
  | .retO i,e=>do let a ← (e.at i).ownA;.ok (.rt a true)
  | .retN,_=>.ok (.rt .non false)
  | .asg g x,e=>do let d ← evE T cf x e;let e1 ← g.put d e;.ok (.nx e1)
  | .asgO i x,e=>do
    match ← evE T cf x e with
    | .lst a=>when (freshE T x) (.ok (.nx (e.set i (.o (.lst a)))))
    | .dct a=>when (freshE T x) (.ok (.nx (e.set i (.o (.dct a)))))
    | .tdc a=>when (freshE T x) (.ok (.nx (e.set i (.o (.tdc a)))))
    | _=>.no
  | .sealed i,e=>do let a ← (e.at i).ownA;.ok (.nx (e.set i (.v a)))
  | .ite c a b,e=>do let x ← evE T cf c e;let k ← x.truth;if k then exS a e else exS b e
  | .forS g src b,e=>do
    let ds ← evI T cf src e
    forL (fun d e0=>do let e1 ← g.put d e0;exS b e1) ds e
  | .whl n c b,e=>whileL (fun e0=>do let x ← evE T cf c e0;x.truth) (fun e0=>exS b e0) n e
  | .app i x,e=>do
    let d ← evE T cf x e
    let a ← (e.at i).own
    when (decide (a.length < big)) (.ok (.nx (e.set i (.o (.lst (a ++ [d]))))))
  | .rev i,e=>do
    let a ← (e.at i).own
    .ok (.nx (e.set i (.o (.lst a.reverse))))
  | .dput i k x,e=>do
    let d ← evE T cf x e
    let a ← (e.at i).ownD
    let y ← evE T cf k e
    let key ← Res.of (keyOf y)
    when (decide (a.length < big)) (.ok (.nx (e.set i (.o (.dct (putKD a key d))))))
  | .dputT i k x,e=>do
    let d ← evE T cf x e
    let a ← (e.at i).ownT
    let ys ← evA T cf k e
    let key ← Res.of (keysT ys)
    when (decide (a.length < big)) (.ok (.nx (e.set i (.o (.tdc (putTD a key d))))))
  | .ext i x,e=>do
    match ← evE T cf x e with
    | .lst b=>do
      let a ← (e.at i).own
      when (freshE T x && decide (a.length + b.length ≤ big)) (.ok (.nx (e.set i (.o (.lst (a ++ b))))))
    | _=>.no
  | .never,_=>.no
  | .asgP g i k,e=>do
    let a ← (e.at i).own
    let d ← evE T cf k e
    let j ← popAt a.length k d
    let y ← Res.of a[j]?
    let e1 ← g.put y (e.set i (.o (.lst (a.eraseIdx j))))
    .ok (.nx e1)
  | .appP i' i k,e=>do
    let b ← (e.at i').own
    let a ← (e.at i).own
    let d ← evE T cf k e
    let j ← popAt a.length k d
    let y ← Res.of a[j]?
    when (decide (i ≠ i') && decide (b.length < big)) (.ok (.nx ((e.set i (.o (.lst (a.eraseIdx j)))).set i' (.o (.lst (b ++ [y]))))))
  | .aug i o x,e=>do
    let d ← (e.at i).val
    let y ← evE T cf x e
    let z ← D.aug o d y
    .ok (.nx (e.set i (.v z)))
  | .lput i k x,e=>do
    let d ← evE T cf x e
    let a ← (e.at i).own
    let y ← evE T cf k e
    let j ← popIx a.length y
    .ok (.nx (e.set i (.o (.lst (a.set j d)))))
  | .exp x,e=>do let _ ← evE T cf x e;.ok (.nx e)
  | .ins i k x,e=>do
    let y ← evE T cf k e
    let d ← evE T cf x e
    let a ← (e.at i).own
    let j ← insIx a.length y
    .ok (.nx (e.set i (.o (.lst (a.take j ++ d :: a.drop j)))))
  | .rais _ _,_=>.no
  | .asgT i x,e=>do
    match ← evE T cf x e with
    | .tup (.lst a :: r)=>when (freshE T x) (.ok (.nx (e.set i (.t (.lst a :: r)))))
    | _=>.no
  | .appT i x,e=>do
    let d ← evE T cf x e
    match ← (e.at i).ownP with
    | .lst a :: _=>when (decide (a.length < big)) (.ok (.nx (e.set i .no)))
    | _=>.no
  | .retT x y,e=>do
    match ← evE T cf x e with
    | .lst a=>do
      let d ← evE T cf y e
      when (freshE T x) (.ok (.rt (.tup [.lst a,d]) true))
    | _=>.no
  | .brk,e=>.ok (.bk e)
  | .cnt,e=>.ok (.ct e)
noncomputable def exX:S → Nv → Option (Str × D)
  | .cons a r,e=>match exX a e with
    | some z=>some z
    | none=>match exS T cf a e with
      | .ok (.nx e1)=>exX r e1
      | _=>none
  | .ite c a b,e=>match evE T cf c e with
    | .ok x=>match x.truth with
      | .ok true=>exX a e
      | .ok false=>exX b e
      | _=>none
    | _=>none
  | .exp (.call f a),e=>match evA T cf a e with
    | .ok ds=>match cf f ds with
      | .err c d=>some (c,d)
      | _=>none
    | _=>none
  | .rais c a,e=>match evA T cf a e with
    | .ok [.str _]=>some (c,.non)
    | _=>none
  | _,_=>none
end
noncomputable def calmS:S → Bool
  | .nil=>true
  | .cons a r=>calmS a && calmS r
  | .ite _ a b=>calmS a && calmS b
  | .exp _=>true
  | _=>false
structure Told where
  b:S
  c:Str
  yes:D
  thr:D
  deriving Inhabited
set_option genInjectivity false in
structure Df where
  names:Nat
  pars:Nat
  body:S
  told:Option Told:=none
  deriving Inhabited
noncomputable def callF (T:Tab) (defs:List Df):Nat → Nat → List D → Res D
  | 0,_,_=>.no
  | n + 1,f,ds =>
    match defs[f]? with
    | none=>.no
    | some d =>
      when (ds.length == d.pars) (match d.told with
        | none=>match exX T (callF T defs n) d.body (ds.map Sl.v ++ List.replicate (d.names - d.pars) Sl.no) with
          | some z=>.err z.1 z.2
          | none=>match exS T (callF T defs n) d.body (ds.map Sl.v ++ List.replicate (d.names - d.pars) Sl.no) with
            | .ok (.rt x k)=>when (k || !T.fresh f) (.ok x)
            | .ok (.nx _)=>when (!T.fresh f) (.ok .non)
            | _=>.no
        | some t=>match exX T (callF T defs n) t.b (ds.map Sl.v ++ [.v .non,.no]) with
          | some z=>when (z.1 == t.c && !T.fresh f) (.ok t.yes)
          | none=>match exS T (callF T defs n) t.b (ds.map Sl.v ++ [.v .non,.no]) with
            | .ok (.nx _)=>when (!T.fresh f) (.ok t.thr)
            | _=>.no)
end Tr
namespace Tr
open PySem
section
variable {T:Tab} {cf:Nat → List D → Res D} {e:Nv}
theorem xE_var {i:Nat}:evE T cf (.var i) e = ((e.at i).val):=rfl
theorem xE_rd {i:Nat}:evE T cf (.rd i) e = ((e.at i).any):=rfl
theorem xE_con {d:D}:evE T cf (.con d) e = (.ok d):=rfl
theorem xE_cmp {o:CmpOp} {a:E} {b:E}:evE T cf (.cmp o a b) e = (do let x ← evE T cf a e;let y ← evE T cf b e;D.cmp o x y):=rfl
theorem xE_chain {o:CmpOp} {p:CmpOp} {a:E} {b:E} {c:E}:evE T cf (.chain o p a b c) e = (do
    let x ← evE T cf a e
    let y ← evE T cf b e
    match ← D.cmp o x y with
    | .bl true=>do let z ← evE T cf c e;D.cmp p y z
    | .bl false=>.ok (.bl false)
    | _=>.no):=rfl
theorem xE_and {a:E} {b:E}:evE T cf (.and a b) e = (do let x ← evE T cf a e;let k ← x.truth;if k then evE T cf b e else .ok x):=rfl
theorem xE_or {a:E} {b:E}:evE T cf (.or a b) e = (do let x ← evE T cf a e;let k ← x.truth;if k then .ok x else evE T cf b e):=rfl
theorem xE_not {a:E}:evE T cf (.not a) e = (do let x ← evE T cf a e;let k ← x.truth;.ok (.bl (!k))):=rfl
theorem xE_neg {a:E}:evE T cf (.neg a) e = (do
    match ← evE T cf a e with
    | .int i=>.ok (.int (-i))
    | _=>.no):=rfl
theorem xE_ife {c:E} {a:E} {b:E}:evE T cf (.ife c a b) e = (do let x ← evE T cf c e;let k ← x.truth;if k then evE T cf a e else evE T cf b e):=rfl
theorem xE_sl {a:E} {lo:E} {hi:E}:evE T cf (.sl a lo hi) e = (do let x ← evE T cf a e;let l ← evE T cf lo e;let l ← l.part;let h ← evE T cf hi e;let h ← h.part;D.sl x l h):=rfl
theorem xE_omit  : evE T cf (.«omit») e = (.ok .non):=rfl
theorem xE_tup {a:E}:evE T cf (.tup a) e = (do let xs ← evA T cf a e;.ok (.tup xs)):=rfl
theorem xE_lst {a:E}:evE T cf (.lst a) e = (do let xs ← evA T cf a e;.ok (.lst xs)):=rfl
theorem xE_call {f:Nat} {a:E}:evE T cf (.call f a) e = (do let xs ← evA T cf a e;cf f xs):=rfl
theorem xE_bt {b:Bt} {a:E}:evE T cf (.bt b a) e = (do let xs ← evA T cf a e;b.run xs):=rfl
theorem xE_isi {a:E} {t:Ty}:evE T cf (.isi a t) e = (do let x ← evE T cf a e;when (!x.isDct) (.ok (.bl (x.isTy t)))):=rfl
theorem xE_mth {m:Mt} {a:E} {b:E}:evE T cf (.mth m a b) e = (do let x ← evE T cf a e;let y ← evE T cf b e;m.run x y):=rfl
theorem xE_maxd {a:E} {b:E}:evE T cf (.maxd a b) e = (do let x ← evE T cf a e;let y ← evE T cf b e;D.maxD x y):=rfl
theorem xE_lrng {a:E}:evE T cf (.lrng a) e = (do let x ← evE T cf a e;lrngR x):=rfl
theorem xE_sset {a:E}:evE T cf (.sset a) e = (do let x ← evE T cf a e;ssetR x):=rfl
theorem xE_comp {own:Nat} {caps:List Nat} {g:G} {elt:E} {src:E} {cond:E}:evE T cf (.comp own caps g elt src cond) e = (do
    let ds ← evI T cf src e
    let ys ← compL (fun d=>do
      let e1 ← g.put d (compEnv own caps e)
      let c ← evE T cf cond e1
      let k ← c.truth
      if k then do let y ← evE T cf elt e1;.ok (some y) else .ok none) ds
    when (decide (ds.length ≤ big)) (.ok (.lst ys))):=rfl
theorem xA_anil  : evA T cf (.anil) e = (.ok []):=rfl
theorem xA_acons {a:E} {r:E}:evA T cf (.acons a r) e = (do let x ← evE T cf a e;let q ← evA T cf r e;when (decide (q.length < 1000)) (.ok (x :: q))):=rfl
theorem xI_seq {a:E}:evI T cf (.seq a) e = (do let x ← evE T cf a e;x.items):=rfl
theorem xI_rng {a:E}:evI T cf (.rng a) e = (do
    match ← evE T cf a e with
    | .int n=>when (small62 n) (.ok (rangeD 0 n.toNat))
    | _=>.no):=rfl
theorem xI_rng2 {a:E} {b:E}:evI T cf (.rng2 a b) e = (do
    match ← evE T cf a e with
    | .int n=>do
      match ← evE T cf b e with
      | .int m=>when (small62 n && small62 m) (.ok (rangeD n (m - n).toNat))
      | _=>.no
    | _=>.no):=rfl
theorem xI_enum {a:E}:evI T cf (.enum a) e = (do
    match ← evE T cf a e with
    | .lst ds=>.ok (enumD 0 ds)
    | .tup ds=>.ok (enumD 0 ds)
    | _=>.no):=rfl
theorem xS_nil  : exS T cf (.nil) e = (.ok (.nx e)):=rfl
theorem xS_cons {a:S} {r:S}:exS T cf (.cons a r) e = (do
    match ← exS T cf a e with
    | .nx e1=>exS T cf r e1
    | o=>.ok o):=rfl
theorem xS_pass  : exS T cf (.pass) e = (.ok (.nx e)):=rfl
theorem xS_ret {x:E}:exS T cf (.ret x) e = (do let d ← evE T cf x e;.ok (.rt d (freshE T x && !tupL d))):=rfl
theorem xS_retO {i:Nat}:exS T cf (.retO i) e = (do let a ← (e.at i).ownA;.ok (.rt a true)):=rfl
theorem xS_retN  : exS T cf (.retN) e = (.ok (.rt .non false)):=rfl
theorem xS_asg {g:G} {x:E}:exS T cf (.asg g x) e = (do let d ← evE T cf x e;let e1 ← g.put d e;.ok (.nx e1)):=rfl
theorem xS_asgO {i:Nat} {x:E}:exS T cf (.asgO i x) e = (do
    match ← evE T cf x e with
    | .lst a=>when (freshE T x) (.ok (.nx (e.set i (.o (.lst a)))))
    | .dct a=>when (freshE T x) (.ok (.nx (e.set i (.o (.dct a)))))
    | .tdc a=>when (freshE T x) (.ok (.nx (e.set i (.o (.tdc a)))))
    | _=>.no):=rfl
theorem xS_sealed {i:Nat}:exS T cf (.«sealed» i) e = (do let a ← (e.at i).ownA;.ok (.nx (e.set i (.v a)))):=rfl
theorem xS_ite {c:E} {a:S} {b:S}:exS T cf (.ite c a b) e = (do let x ← evE T cf c e;let k ← x.truth;if k then exS T cf a e else exS T cf b e):=rfl
theorem xS_forS {g:G} {src:E} {b:S}:exS T cf (.forS g src b) e = (do
    let ds ← evI T cf src e
    forL (fun d e0=>do let e1 ← g.put d e0;exS T cf b e1) ds e):=rfl
theorem xS_whl {n:Nat} {c:E} {b:S}:exS T cf (.whl n c b) e = (whileL (fun e0=>do let x ← evE T cf c e0;x.truth) (fun e0=>exS T cf b e0) n e):=rfl
theorem xS_app {i:Nat} {x:E}:exS T cf (.app i x) e = (do
    let d ← evE T cf x e
    let a ← (e.at i).own
    when (decide (a.length < big)) (.ok (.nx (e.set i (.o (.lst (a ++ [d]))))))):=rfl
theorem xS_rev {i:Nat}:exS T cf (.rev i) e = (do
    let a ← (e.at i).own
    .ok (.nx (e.set i (.o (.lst a.reverse))))):=rfl
theorem xS_dput {i:Nat} {k:E} {x:E}:exS T cf (.dput i k x) e = (do
    let d ← evE T cf x e
    let a ← (e.at i).ownD
    let y ← evE T cf k e
    let key ← Res.of (keyOf y)
    when (decide (a.length < big)) (.ok (.nx (e.set i (.o (.dct (putKD a key d))))))):=rfl
theorem xS_dputT {i:Nat} {k:E} {x:E}:exS T cf (.dputT i k x) e = (do
    let d ← evE T cf x e
    let a ← (e.at i).ownT
    let ys ← evA T cf k e
    let key ← Res.of (keysT ys)
    when (decide (a.length < big)) (.ok (.nx (e.set i (.o (.tdc (putTD a key d))))))):=rfl
theorem xS_ext {i:Nat} {x:E}:exS T cf (.ext i x) e = (do
    match ← evE T cf x e with
    | .lst b=>do
      let a ← (e.at i).own
      when (freshE T x && decide (a.length + b.length ≤ big)) (.ok (.nx (e.set i (.o (.lst (a ++ b))))))
    | _=>.no):=rfl
theorem xS_never  : exS T cf (.never) e = (.no):=rfl
theorem xS_asgP {g:G} {i:Nat} {k:E}:exS T cf (.asgP g i k) e = (do
    let a ← (e.at i).own
    let d ← evE T cf k e
    let j ← popAt a.length k d
    let y ← Res.of a[j]?
    let e1 ← g.put y (e.set i (.o (.lst (a.eraseIdx j))))
    .ok (.nx e1)):=rfl
theorem xS_appP {i':Nat} {i:Nat} {k:E}:exS T cf (.appP i' i k) e = (do
    let b ← (e.at i').own
    let a ← (e.at i).own
    let d ← evE T cf k e
    let j ← popAt a.length k d
    let y ← Res.of a[j]?
    when (decide (i ≠ i') && decide (b.length < big)) (.ok (.nx ((e.set i (.o (.lst (a.eraseIdx j)))).set i' (.o (.lst (b ++ [y]))))))):=rfl
theorem xS_aug {i:Nat} {o:Operator} {x:E}:exS T cf (.aug i o x) e = (do
    let d ← (e.at i).val
    let y ← evE T cf x e
    let z ← D.aug o d y
    .ok (.nx (e.set i (.v z)))):=rfl
theorem xS_lput {i:Nat} {k:E} {x:E}:exS T cf (.lput i k x) e = (do
    let d ← evE T cf x e
    let a ← (e.at i).own
    let y ← evE T cf k e
    let j ← popIx a.length y
    .ok (.nx (e.set i (.o (.lst (a.set j d)))))):=rfl
theorem xS_exp {x:E}:exS T cf (.exp x) e = (do let _ ← evE T cf x e;.ok (.nx e)):=rfl
theorem xS_ins {i:Nat} {k:E} {x:E}:exS T cf (.ins i k x) e = (do
    let y ← evE T cf k e
    let d ← evE T cf x e
    let a ← (e.at i).own
    let j ← insIx a.length y
    .ok (.nx (e.set i (.o (.lst (a.take j ++ d :: a.drop j)))))):=rfl
theorem xS_asgT {i:Nat} {x:E}:exS T cf (.asgT i x) e = (do
    match ← evE T cf x e with
    | .tup (.lst a :: r)=>when (freshE T x) (.ok (.nx (e.set i (.t (.lst a :: r)))))
    | _=>.no):=rfl
theorem xS_appT {i:Nat} {x:E}:exS T cf (.appT i x) e = (do
    let d ← evE T cf x e
    match ← (e.at i).ownP with
    | .lst a :: _=>when (decide (a.length < big)) (.ok (.nx (e.set i .no)))
    | _=>.no):=rfl
theorem xS_retT {x y:E}:exS T cf (.retT x y) e = (do
    match ← evE T cf x e with
    | .lst a=>do
      let d ← evE T cf y e
      when (freshE T x) (.ok (.rt (.tup [.lst a,d]) true))
    | _=>.no):=rfl
theorem xS_rais {c:Str} {a:E}:exS T cf (.rais c a) e = (.no):=rfl
theorem xS_brk  : exS T cf (.brk) e = (.ok (.bk e)):=rfl
theorem xS_cnt  : exS T cf (.cnt) e = (.ok (.ct e)):=rfl
end
section
variable {T:Tab} {cf:Nat → List D → Res D} {e:Nv}
theorem xX_cons {a r:S}:exX T cf (.cons a r) e = (match exX T cf a e with
    | some z=>some z
    | none=>match exS T cf a e with
      | .ok (.nx e1)=>exX T cf r e1
      | _=>none):=rfl
theorem xX_ite {c:E} {a b:S}:exX T cf (.ite c a b) e = (match evE T cf c e with
    | .ok x=>match x.truth with
      | .ok true=>exX T cf a e
      | .ok false=>exX T cf b e
      | _=>none
    | _=>none):=rfl
theorem xX_call {f:Nat} {a:E}:exX T cf (.exp (.call f a)) e = (match evA T cf a e with
    | .ok ds=>match cf f ds with
      | .err c d=>some (c,d)
      | _=>none
    | _=>none):=rfl
theorem xX_rais {c:Str} {a:E}:exX T cf (.rais c a) e = (match evA T cf a e with
    | .ok [.str _]=>some (c,.non)
    | _=>none):=rfl
end
section
variable {T:Tab} {cf:Nat → List D → Res D}
theorem exX_not:∀ {x:S} {e:Nv} {z:Str × D},exX T cf x e = some z → ∀ o,exS T cf x e ≠ .ok o
  | .cons a r,e,z,h,o,k=>by
    rw [xX_cons] at h
    rw [xS_cons] at k
    cases ha:exX T cf a e with
    | some z' =>
      have:=exX_not ha
      cases hs:exS T cf a e with
      | ok o'=>exact this o' hs
      | err c d=>rw [hs] at k;cases k
      | no=>rw [hs] at k;cases k
    | none =>
      rw [ha] at h
      cases hs:exS T cf a e with
      | ok o' =>
        rw [hs] at h k
        cases o' with
        | nx e1=>exact exX_not h o k
        | _=>cases h
      | err c d=>rw [hs] at h;cases h
      | no=>rw [hs] at h;cases h
  | .ite c a b,e,z,h,o,k=>by
    rw [xX_ite] at h
    rw [xS_ite] at k
    cases hc:evE T cf c e with
    | ok x =>
      rw [hc] at h k
      cases ht:x.truth with
      | ok q =>
        have k:(do let q ← x.truth;if q = true then exS T cf a e else exS T cf b e) = .ok o:=k
        simp only [ht] at h
        rw [ht] at k
        cases q with
        | true=>exact exX_not h o k
        | false=>exact exX_not h o k
      | err _ _=>simp only [ht] at h;cases h
      | no=>simp only [ht] at h;cases h
    | err _ _=>rw [hc] at h;cases h
    | no=>rw [hc] at h;cases h
  | .exp x,e,z,h,o,k=>by
    cases x with
    | call f a =>
      rw [xX_call] at h
      rw [xS_exp,xE_call] at k
      cases ha:evA T cf a e with
      | ok ds =>
        rw [ha] at h k
        have k:(do let _ ← cf f ds;Res.ok (Out.nx e)) = .ok o:=k
        cases hf:cf f ds with
        | err c d=>rw [hf] at k;cases k
        | ok _=>simp only [hf] at h;cases h
        | no=>simp only [hf] at h;cases h
      | err _ _=>rw [ha] at h;cases h
      | no=>rw [ha] at h;cases h
    | _=>cases h
  | .rais c a,e,z,h,o,k=>by cases k
  | .nil,_,_,h,_,_ | .pass,_,_,h,_,_ | .ret _,_,_,h,_,_ | .retO _,_,_,h,_,_ | .retN,_,_,h,_,_ | .asg _ _,_,_,h,_,_ | .asgO _ _,_,_,h,_,_ | .«sealed» _,_,_,h,_,_ | .forS _ _ _,_,_,h,_,_ | .whl _ _ _,_,_,h,_,_ | .app _ _,_,_,h,_,_ | .rev _,_,_,h,_,_ | .brk,_,_,h,_,_ | .cnt,_,_,h,_,_ | .dput _ _ _,_,_,h,_,_ | .ext _ _,_,_,h,_,_ | .never,_,_,h,_,_ | .asgP _ _ _,_,_,h,_,_ | .appP _ _ _,_,_,h,_,_ | .aug _ _ _,_,_,h,_,_ | .lput _ _ _,_,_,h,_,_ | .dputT _ _ _,_,_,h,_,_ | .ins _ _ _,_,_,h,_,_ | .asgT _ _,_,_,h,_,_ | .appT _ _,_,_,h,_,_ | .retT _ _,_,_,h,_,_=>by cases h
end
end Tr
namespace Tr
open PySem PySem.Spec PyProof.Rows L2 Builtin.Str
theorem str_ext {x y:Str} (h:x.cps.toList = y.cps.toList):x = y:=by
  cases x;cases y
  simp only [Str.mk.injEq]
  exact Array.toList_inj.mp h
theorem filterMap_range {α:Type} (xs:List α) (a b:Nat) (hb:b ≤ xs.length):((List.range (b - a)).map fun k=>a + k).filterMap (xs[·]?) = (xs.drop a).take (b - a):=by
  generalize hn:b - a = n
  induction n generalizing a with
  | zero=>simp
  | succ n ih =>
    have ha:a < xs.length:=by (first | lia | omega)
    rw [List.range_succ_eq_map,List.map_cons,List.filterMap_cons,List.map_map,List.drop_eq_getElem_cons ha,List.take_succ_cons]
    simp only [Nat.add_zero,List.getElem?_eq_getElem ha]
    congr 1
    rw [← ih (a + 1) (by (first | lia | omega))]
    congr 1
    apply List.map_congr_left
    intro k _
    simp only [Function.comp]
    (first | lia | omega)
theorem sliceRange_nat {a b:Int} {p q:Nat} (ha:a = p) (hb:b = q):sliceRange a b 1 = (List.range (q - p)).map fun k=>p + k:=by
  subst ha hb
  unfold sliceRange
  simp only [show (1:Int) > 0 by decide,if_true]
  have hc:(if (p:Int) < (q:Int) then ((q:Int) - (p:Int) + 1 - 1) / 1 else 0).toNat = q - p:=by
    rw [Int.ediv_one]
    split <;> (first | lia | omega)
  rw [hc]
  apply List.map_congr_left
  intro k _
  (first | lia | omega)
theorem slice_indices (n:Nat) (lo hi:Option Int):strSliceIndices lo hi 1 n = (List.range (sIx n n hi - sIx n 0 lo)).map fun k=>sIx n 0 lo + k:=by
  unfold strSliceIndices
  refine sliceRange_nat ?_ ?_
  · cases lo with
    | none=>rfl
    | some v =>
      simp only [show (1:Int) > 0 by decide,if_true,sIx]
      split <;> (first | lia | omega)
  · cases hi with
    | none=>rfl
    | some v =>
      simp only [show (1:Int) > 0 by decide,if_true,sIx]
      split <;> (first | lia | omega)
theorem sIx_le' (n d:Nat) (hd:d ≤ n) (o:Option Int):sIx n d o ≤ n:=by
  cases o with
  | none=>exact hd
  | some v =>
    simp only [sIx]
    split <;> (first | lia | omega)
theorem slice_cut (x:Str) (lo hi:Option Int):Txt.slice x lo hi = strCut x lo hi:=by
  have hl:x.cps.toList.length = x.length:=by simp [Str.length]
  unfold Txt.slice
  rw [slice_indices]
  have e:(List.filterMap (x.cps[·]?) ((List.range (sIx x.length x.length hi - sIx x.length 0 lo)).map fun k=>sIx x.length 0 lo + k)) = cut x.cps.toList lo hi:=by
    have:=filterMap_range x.cps.toList (sIx x.length 0 lo) (sIx x.length x.length hi) (by rw [hl];exact sIx_le' _ _ (Nat.le_refl _) _)
    unfold cut
    rw [hl,← this]
    congr 1
    funext k
    simp
  split
  · rename_i c
    simp only [beq_self_eq_true,Bool.true_and,List.length_map,List.length_range,beq_iff_eq] at c
    refine str_ext ?_
    show _ = (cut x.cps.toList lo hi).toArray.toList
    have h1:=sIx_le' x.length x.length (Nat.le_refl _) hi
    unfold cut
    by_cases hz:x.length = 0
    · have:x.cps.toList = []:=List.eq_nil_of_length_eq_zero (by (first | lia | omega))
      rw [this];simp
    · have h0:sIx x.length 0 lo = 0:=by (first | lia | omega)
      have h2:sIx x.length x.length hi = x.length:=by (first | lia | omega)
      rw [hl,h0,h2,List.drop_zero,Nat.sub_zero,← hl,List.take_of_length_le (Nat.le_refl _)]
  · rw [e];rfl
theorem oneIn_ok {x y:Str} {b:Bool} (h:oneIn x y = .ok b):(!(occurrences y x 0 y.length 1).isEmpty) = b:=by
  unfold oneIn at h
  split at h
  · rename_i c hc
    cases h
    have ex:x = ⟨#[c]⟩:=str_ext (by rw [hc])
    rw [ex]
    exact StrLaws.found_one y c
  · cases h
noncomputable def placesC (c:Nat) (k:Nat):List Nat → List Nat
  | []=>[]
  | x :: r=>if x = c then k :: placesC c (k + 1) r else placesC c (k + 1) r
theorem occ_places (x:Str) (c:Nat):occurrences x ⟨#[c]⟩ 0 x.length (x.length + 1) = placesC c 0 x.cps.toList:=by
  rw [StrLaws.occ_eq]
  have hl:x.cps.toList.length = x.length:=by simp [Str.length]
  have key:∀ (r k:Nat) (found:Array Nat) (free:Nat),k + r = x.length → found.size ≤ k → free ≤ k →
      (forIn (List.range' k (r + 1)) (found,free) (StrLaws.occBody x ⟨#[c]⟩ x.length (x.length + 1)):Id (Array Nat × Nat)).run.fst.toList = found.toList ++ placesC c k (x.cps.toList.drop k):=by
    intro r
    induction r with
    | zero =>
      intro k found free hk hf hfr
      rw [show List.range' k (0 + 1) = [k] from rfl,List.forIn_cons,List.drop_eq_nil_of_le (by (first | lia | omega))]
      have hb:StrLaws.occBody x ⟨#[c]⟩ x.length (x.length + 1) k (found,free) = pure (ForInStep.yield (found,free)):=by
        unfold StrLaws.occBody
        rw [if_neg]
        rintro ⟨⟨_,h⟩,_⟩
        simp [Str.length] at h
        have:x.cps.size = x.length:=rfl
        (first | lia | omega)
      rw [hb]
      simp [placesC]
    | succ r ih =>
      intro k found free hk hf hfr
      have hk':k < x.cps.toList.length:=by (first | lia | omega)
      rw [List.range'_succ,List.forIn_cons,List.drop_eq_getElem_cons hk',placesC]
      by_cases hc:x.cps.toList[k] = c
      · have hs:subAt x ⟨#[c]⟩ k = true:=by
          have:=(StrLaws.subAt_one x c k).mpr (by rw [List.getElem?_eq_getElem hk',hc])
          exact this.2
        have hb:StrLaws.occBody x ⟨#[c]⟩ x.length (x.length + 1) k (found,free) = pure (ForInStep.yield (found.push k,k + 1)):=by
          unfold StrLaws.occBody
          rw [if_pos ⟨⟨⟨by show found.size < x.length + 1;(first | lia | omega),hfr⟩,by show k + 1 ≤ x.length;(first | lia | omega)⟩,hs⟩]
          rfl
        rw [hb,if_pos hc]
        have:=ih (k + 1) (found.push k) (k + 1) (by (first | lia | omega)) (by rw [Array.size_push];(first | lia | omega)) (Nat.le_refl _)
        refine Eq.trans this ?_
        simp
      · have hs:¬ subAt x ⟨#[c]⟩ k = true:=fun h=>by
          have:=(StrLaws.subAt_one x c k).mp ⟨by show k + 1 ≤ x.length;(first | lia | omega),h⟩
          rw [List.getElem?_eq_getElem hk'] at this
          exact hc (Option.some.inj this)
        have hb:StrLaws.occBody x ⟨#[c]⟩ x.length (x.length + 1) k (found,free) = pure (ForInStep.yield (found,free)):=by
          unfold StrLaws.occBody
          rw [if_neg fun h=>hs h.2]
        rw [hb,if_neg hc]
        exact ih (k + 1) found free (by (first | lia | omega)) (by (first | lia | omega)) (by (first | lia | omega))
  have:=key x.length 0 #[] 0 (by (first | lia | omega)) (Nat.le_refl _) (Nat.le_refl _)
  simpa using this
theorem splitC_ne (c:Nat):∀ cs,splitC c cs ≠ []
  | []=>by simp [splitC]
  | x :: r=>by
    rw [splitC]
    split
    · simp
    · split <;> simp
theorem parts_split (x:Str) (c:Nat):partsBetween x (placesC c 0 x.cps.toList) 1 = splitS x c:=by
  have hl:x.cps.toList.length = x.length:=by simp [Str.length]
  have key:∀ (cs:List Nat) (a k:Nat),a ≤ k → k + cs.length = x.length → x.cps.toList.drop k = cs →
      ((a :: (placesC c k cs).map (· + 1)).zip (placesC c k cs ++ [x.length])).map (fun p=>(x.cps.toList.drop p.1).take (p.2 - p.1)) =
        (match splitC c cs with | h :: t=>((x.cps.toList.drop a).take (k - a) ++ h) :: t | []=>[]):=by
    intro cs
    induction cs with
    | nil =>
      intro a k ha hk hd
      simp only [placesC,splitC,List.map_nil,List.nil_append,List.zip_cons_cons,List.zip_nil_right,List.map_cons,List.append_nil]
      rw [show x.length = k by simpa using hk.symm]
    | cons d r ih =>
      intro a k ha hk hd
      have hk':k < x.cps.toList.length:=by simp at hk;(first | lia | omega)
      rw [List.drop_eq_getElem_cons hk'] at hd
      injection hd with hd1 hd2
      rw [placesC,splitC]
      by_cases hc:d = c
      · rw [if_pos hc,if_pos hc]
        have:=ih (k + 1) (k + 1) (Nat.le_refl _) (by simp at hk;(first | lia | omega)) hd2
        simp only [List.map_cons,List.cons_append,List.zip_cons_cons,List.append_nil]
        rw [this]
        simp only [Nat.sub_self,List.take_zero,List.nil_append]
        cases hsp:splitC c r with
        | nil=>exact absurd hsp (splitC_ne c r)
        | cons h t=>rfl
      · rw [if_neg hc,if_neg hc]
        have:=ih a (k + 1) (by (first | lia | omega)) (by simp at hk;(first | lia | omega)) hd2
        rw [this]
        cases hsp:splitC c r with
        | nil=>exact absurd hsp (splitC_ne c r)
        | cons h t =>
          simp only
          congr 1
          rw [show k + 1 - a = (k - a) + 1 by (first | lia | omega),List.take_add_one,List.getElem?_drop,show a + (k - a) = k by (first | lia | omega),List.getElem?_eq_getElem hk',hd1]
          simp
  have h0:=key x.cps.toList 0 0 (Nat.le_refl _) (by (first | lia | omega)) (by simp)
  unfold partsBetween splitS
  have e:∀ p:Nat × Nat,strSub x p.1 p.2 = ⟨((x.cps.toList.drop p.1).take (p.2 - p.1)).toArray⟩:=fun p=>str_ext (by
    show (x.cps.extract p.1 p.2).toList = _
    rw [Array.toList_extract,List.extract_eq_take_drop])
  have h1:splitC c x.cps.toList = (((0 :: (placesC c 0 x.cps.toList).map (· + 1)).zip (placesC c 0 x.cps.toList ++ [x.length])).map (fun p=>(x.cps.toList.drop p.1).take (p.2 - p.1))):=by
    rw [h0]
    cases splitC c x.cps.toList <;> simp
  rw [h1,List.map_map]
  apply List.map_congr_left
  rintro ⟨i,j⟩ _
  exact e (i,j)
theorem splitC_length (c:Nat):∀ cs,(splitC c cs).length ≤ cs.length + 1
  | []=>by simp [splitC]
  | x :: r=>by
    have:=splitC_length c r
    rw [splitC]
    split
    · simp;(first | lia | omega)
    · split
      · rename_i h t e
        rw [e] at this
        simp at this ⊢
        (first | lia | omega)
      · simp
theorem splitC_none (c:Nat):∀ cs,placesC c k cs = [] → splitC c cs = [cs]
  | [],_=>rfl
  | x :: r,h=>by
    rw [placesC] at h
    split at h
    · cases h
    · rename_i hc
      rw [splitC,if_neg hc,splitC_none c r h]
end Tr
namespace Tr
open PySem PySem.Spec PyProof.Rows L2 Builtin.Str
section
variable {X:Cx}
theorem isPart_str {v:Value} {o:Option Int} (h:IsPart v o):∃ p:Option (Int × Tok),v = partValue p ∧ p.map (·.1) = o:=by
  cases h with
  | none=>exact ⟨none,rfl,rfl⟩
  | int i t=>exact ⟨some (i,t),rfl,rfl⟩
theorem sl_str:SlR X (fun x lo hi H Q=>∃ z,x = .str z ∧ z.length ≤ sizeLine ∧ Q (.str (strCut z lo hi)) H):=by
  intro pins s σ H x v vl vu lo hi sl Q I rx hs pl pu h
  obtain ⟨z,rfl,hz,q⟩:=h
  obtain ⟨t,rfl⟩:=rx
  obtain ⟨p,rfl,rfl⟩:=isPart_str pl
  obtain ⟨p',rfl,rfl⟩:=isPart_str pu
  refine ⟨"str", _,PySem.F.slot_str_getitem.lookup,typeIs_str _ _ _,wpAny_getItem_str_slice (l:=p) (u:=p') (st:=none) hs rfl ?_⟩
  refine post_val_or_str ⟨Nat.le_trans (Txt.slice_le z _ _) hz,fun t' k=>?_⟩
  refine ⟨.str _,H,I.tok k,⟨t',?_⟩,q⟩
  rw [← slice_cut]
  rfl
theorem strs_vals:∀ {xs:List Str} {us:List Value},Vals (xs.map V.str) us → StrsAre us xs
  | [],_,h=>by cases h;exact .nil
  | x :: r,_,h=>by
    rw [List.map_cons] at h
    cases h with
    | cons r1 r2 =>
      obtain ⟨t,rfl⟩:=r1
      exact .cons x t (strs_vals r2)
theorem vals_from:∀ (t:Nat) (xs:List Str),Vals (xs.map V.str) (strsFrom t xs)
  | _,[]=>.nil
  | t,x :: r=>.cons ⟨t,rfl⟩ (vals_from (t + 1) r)
theorem mt_split:MtR X "str.split" (fun x vs H Q=>∃ z c,x = .str z ∧ vs = [.str ⟨#[c]⟩] ∧ z.length < sizeLine ∧ c < 256 ∧ ∀ p,H p = none → Q (.ref p) (upd H p (.lst ((splitS z c).map V.str)))):=by
  intro pins s σ H x vs v us Q I rx rv h
  obtain ⟨z,c,rfl,rfl,hz,hc,q⟩:=h
  obtain ⟨t,rfl⟩:=rx
  obtain ⟨u,rfl,ru⟩:=vals1 rv
  obtain ⟨t2,rfl⟩:=ru
  have hsp:=splitC_length c z.cps.toList
  have hl:z.cps.toList.length = z.length:=by simp [Str.length]
  have fin:∀ (its:List Value) (tk:Nat),Vals ((splitS z c).map V.str) its → EP X pins σ Q (.ref s.heap.objs.size) { s with heap:=s.heap.push { cls:=.type "list", data:=.seq its.toArray },toks:=tk }:=fun its tk r =>
    ⟨.ref _,_,I.lnew (t':=tk) r (by rw [List.length_map,splitS,List.length_map];(first | lia | omega)),rfl,q _ I.fresh⟩
  have one:splitS z c = [z] → EP X pins σ Q (.ref s.heap.objs.size) { s with heap:=s.heap.push { cls:=.type "list", data:=.seq #[.str z t] } }:=fun e=>by
    have:=fin [.str z t] s.toks (by rw [e];exact .cons ⟨t,rfl⟩ .nil)
    simpa using this
  have occ:=occ_places z c
  by_cases h1:(decide (z.length < (⟨#[c]⟩ : Str).length) || decide (Builtin.Str.strKind z < Builtin.Str.strKind ⟨#[c]⟩)) = true
  · refine call_meets PySem.F.slot_str_split (typeIs_str _ _ _) PySem.F.entry_str_split (PySem.F.args_str_split_2 _ _) (meets_str_split_cannot_occur z ⟨#[c]⟩ t t2 h1) ?_
    refine one ?_
    have hk:Builtin.Str.strKind ⟨#[c]⟩ = 1:=by
      unfold Builtin.Str.strKind
      rw [if_pos]
      simpa using hc
    have hk2:1 ≤ Builtin.Str.strKind z:=by
      unfold Builtin.Str.strKind
      split
      · exact Nat.le_refl _
      · split <;> (first | lia | omega)
    have h0:z.length < 1:=by
      rw [hk,Bool.or_eq_true,decide_eq_true_eq,decide_eq_true_eq] at h1
      rcases h1 with h1 | h1
      · exact h1
      · (first | lia | omega)
    have hn:z.cps.toList = []:=List.eq_nil_of_length_eq_zero (by (first | lia | omega))
    unfold splitS
    rw [hn,splitC,List.map_cons,List.map_nil]
    exact congrArg (fun y=>[y]) (str_ext (by rw [hn]))
  · have h1':(decide (z.length < (⟨#[c]⟩ : Str).length) || decide (Builtin.Str.strKind z < Builtin.Str.strKind ⟨#[c]⟩)) = false:=by simpa using h1
    by_cases hf:(occurrences z ⟨#[c]⟩ 0 z.length (z.length + 1)).isEmpty = true
    · refine call_meets PySem.F.slot_str_split (typeIs_str _ _ _) PySem.F.entry_str_split (PySem.F.args_str_split_2 _ _) (meets_str_split_not_found z ⟨#[c]⟩ t t2 h1' rfl hf) ?_
      refine one ?_
      rw [occ,List.isEmpty_iff] at hf
      unfold splitS
      rw [splitC_none c _ hf]
      rfl
    · have hf':(occurrences z ⟨#[c]⟩ 0 z.length (z.length + 1)).isEmpty = false:=by simpa using hf
      refine call_meets PySem.F.slot_str_split (typeIs_str _ _ _) PySem.F.entry_str_split (PySem.F.args_str_split_2 _ _) (meets_str_split_sep z ⟨#[c]⟩ t t2 h1' rfl hf' (by (first | lia | omega)) ?_) ?_
      · rw [occ]
        show (partsBetween z (placesC c 0 z.cps.toList) 1).length ≤ sizeLine
        rw [parts_split,splitS,List.length_map];(first | lia | omega)
      · have e:partsBetween z (occurrences z ⟨#[c]⟩ 0 z.length (z.length + 1)) (⟨#[c]⟩ : Str).length = splitS z c:=by rw [occ];exact parts_split z c
        show EP X pins σ Q _ _
        rw [e]
        exact fin _ _ (vals_from _ _)
theorem joinC_fold (g:List Nat):∀ (xs:List (List Nat)) (acc:List Nat),xs.foldl (fun acc p=>acc ++ g ++ p) acc = acc ++ (match xs with | []=>[] | x :: r=>g ++ joinC g (x :: r))
  | [],acc=>by simp
  | [x],acc=>by simp [joinC,List.append_assoc]
  | x :: y :: r,acc=>by
    rw [List.foldl_cons,joinC_fold g (y :: r)]
    simp [joinC,List.append_assoc]
theorem glued_join (g:Str) (xs:List Str):Builtin.Str.glued g xs = joinS g xs:=by
  refine str_ext ?_
  unfold Builtin.Str.glued joinS
  have fold:∀ (ys:List Str) (acc:Array Nat),(ys.foldl (fun acc p=>acc ++ g.cps ++ p.cps) acc).toList = (ys.map fun x=>x.cps.toList).foldl (fun acc p=>acc ++ g.cps.toList ++ p) acc.toList:=by
    intro ys
    induction ys with
    | nil=>intro acc;rfl
    | cons y r ih=>intro acc;rw [List.foldl_cons,ih,List.map_cons,List.foldl_cons];simp
  show (List.foldl (fun acc p=>acc ++ g.cps ++ p.cps) (xs.headD Str.empty).cps (xs.drop 1)).toList = (joinC g.cps.toList (xs.map fun x=>x.cps.toList)).toArray.toList
  rw [fold,joinC_fold]
  cases xs with
  | nil=>rfl
  | cons x r =>
    cases r with
    | nil=>simp [joinC]
    | cons y r=>simp [joinC]
theorem mt_join:MtR X "str.join" (fun x vs H Q=>∃ g a xs,x = .str g ∧ vs = [.ref a] ∧ SqL X.K H a (xs.map V.str) ∧ g.length ≤ 64 ∧ (xs.map (·.length)).sum + xs.length * 64 ≤ 16777216 ∧ Q (.str (joinS g xs)) H):=by
  intro pins s σ H x vs v us Q I rx rv h
  obtain ⟨g,a,xs,rfl,rfl,hq,hg,hz,q⟩:=h
  obtain ⟨t,rfl⟩:=rx
  obtain ⟨u,rfl,ru⟩:=vals1 rv
  cases ru
  obtain ⟨its,r,pl,hz'⟩:=I.list hq
  refine join_listC pl.isList (ys:=xs) (by simpa using strs_vals r) hg hz fun t' k=>?_
  refine ⟨.str _,H,I.tok k,⟨t',?_⟩,q⟩
  rw [← glued_join]
  rfl
theorem bools_walk {pins:List (Addr × Obj)} {s:Shared} {σ:L2.St} {H:Hp} {a:Addr} {bs:List Bool} {its:List Value} (I:Inv X pins σ H s) (r':Vals (bs.map V.bl) its) (pl:PlainL s.heap a its.toArray) :
    (s.heap.push { cls:=.type "list_iterator", data:=.fields #[.ref a,.int 0 0] }).IsList a its.toArray ∧ TruthOf X.prog X.w X.A.in1 (fun i v=>its.toArray[i]? = some v) (fun i=>(bs[i]?).getD true):=by
  refine ⟨pl.isList.at fun o e=>Heap.get?_push_of_some _ e,?_⟩
  intro i v s' Q' E' hv hQ'
  have hv':its[i]? = some v:=by simpa using hv
  obtain ⟨hi,_⟩:=List.getElem?_eq_some_iff.mp hv'
  have hib:i < bs.length:=by have:=r'.length;rw [List.length_map] at this;(first | lia | omega)
  obtain ⟨w,hw,rw'⟩:=r'.get (i:=i) (by rw [List.getElem?_map,List.getElem?_eq_getElem hib];rfl)
  rw [hv'] at hw
  cases hw
  have:v = .bool bs[i]:=rw'
  subst this
  have e:(bs[i]?).getD true = bs[i]:=by rw [List.getElem?_eq_getElem hib];rfl
  dsimp only at hQ'
  rw [e] at hQ'
  exact wpAny_truthy_bool hQ'
theorem range_all (bs:List Bool):(List.range bs.length).all (fun i=>(bs[i]?).getD true) = bs.all id:=by
  induction bs with
  | nil=>rfl
  | cons b r ih =>
    rw [List.length_cons,List.range_succ_eq_map,List.all_cons,List.all_map,List.all_cons,← ih]
    rfl
theorem call_all:CallR X (.builtin "all") (fun xs H Q=>∃ (a:Addr) (bs:List Bool),xs = [.ref a] ∧ SqL X.K H a (bs.map V.bl) ∧ X.calm = true ∧ Q (.bl (bs.all id)) H):=by
  intro pins s σ H xs us Q I r h
  obtain ⟨a,bs,rfl,hq,hc,q⟩:=h
  obtain ⟨u,rfl,rx⟩:=vals1 r
  cases rx
  obtain ⟨its,r',pl,hz⟩:=I.list hq
  refine call_all_walk (wpAny_pyIter_list pl.isList ?_)
  have hlt:a < s.heap.objs.size:=by obtain ⟨o,e,_⟩:=pl.isList;exact Heap.lt_size e
  obtain ⟨w1,w2⟩:=bools_walk I r' pl
  refine ⟨s.heap.objs.size,[s.heap.objs.size,a],[s.heap.objs.size],its.toArray.size,(fun i v=>its.toArray[i]? = some v),(fun i h=>h.IsListIter s.heap.objs.size a i ∧ h.IsList a its.toArray),fun i=>(bs[i]?).getD true,rfl,Walks.list (A:=X.A.in1) (I.ok.hd hc) s.heap.objs.size a (Nat.ne_of_lt hlt) its.toArray,⟨⟨_,Heap.get?_push_size _ rfl,rfl,rfl⟩,w1⟩,w2,fun h' tk hk=>?_⟩
  refine ⟨.bl (bs.all id),H,I.kept (h':=h') (t':=tk) fun b o e=>hk b o (by simp;exact fun z=>absurd (z ▸ Heap.lt_size e) (Nat.lt_irrefl _)) (Heap.get?_push_of_some _ e),?_,q⟩
  have hl:=r'.length
  rw [List.length_map] at hl
  show Value.bool _ = Value.bool _
  rw [List.size_toArray,← hl,range_all]
noncomputable def Its (x:Str):It:=⟨fun i _=>i < x.cps.size,fun i H v H'=>H' = H ∧ ∃ c,x.cps[i]? = some c ∧ v = .str ⟨#[c]⟩,fun i _=>x.cps.size ≤ i⟩
theorem turn_str {P:Program} {w:World} {K:PySem.W.Frag} {tg:Expr} (ty:String) (it:Addr) (x:Str) (t:Tok)
    (hty:["enumerate", "zip", "dict_itemiterator", "dict_reverseitemiterator", "odict_iterator", "itertools.zip_longest", "itertools.pairwise"].contains ty = false)
    (W:∀ A:Around,A.handled = none → Walks P w A it [it] [it] x.cps.size (SignAt x) (fun i h=>h.IsStrIter it ty x t i))
    (en:∀ (A:Around) (s:Shared) (i:Nat) (Q:Option Value → Shared → Prop) (E:Value → Shared → Prop),A.handled = none → s.heap.IsStrIter it ty x t i → x.cps[i]? = none → (∀ h',Heap.ExtBut it s.heap h' → Q none { s with heap:=h' }) → wpAny (model P w) A (pyNext (.ref it)) Q E s)
    (sf:∀ (A:Around) (s:Shared) (i:Nat) (Q:Value → Shared → Prop) (E:Value → Shared → Prop),s.heap.IsStrIter it ty x t i → Q (.ref it) s → wpAny (model P w) A (pyIter (.ref it)) Q E s) :
    Turn P w K tg (Its x) [it] it (fun i h=>h.IsStrIter it ty x t i) where
  mem:=by simp
  obj:=fun i h st b hb=>by
    have e:b = it:=by simpa using hb
    subst e
    obtain ⟨o,e,c,d⟩:=st
    exact ⟨o,e,fun v z=>by rw [d] at z;cases z⟩
  keep:=fun i h h' st k=>let ⟨o,e,c⟩:=st;⟨o,k it (by simp) o e,c⟩
  item:=by
    intro X hP hw hK hc i pins s σ H E I hf st hg
    subst hP hw hK
    obtain ⟨f0,f1,f2,f3,f4,f5⟩:=hf it (by simp)
    refine (W X.A (I.ok.hd hc)).item i s _ _ hg st fun v h' tk hv st' kk=>?_
    obtain ⟨c,u,hx,rfl⟩:=hv
    have I1:Inv X pins σ H { s with heap:=h',toks:=tk }:=I.turned (fun b o hb e=>kk b o (by simpa using hb) e) f0 f1 f3 f4 f5
    obtain ⟨o,e,cc,d⟩:=id st'
    exact ⟨_,rfl,go_of (s:={ s with heap:=h',toks:=tk }) e cc d hty ⟨.str ⟨#[c]⟩,H,I1,⟨u,rfl⟩,⟨rfl,c,hx,rfl⟩,st',fun b hb=>(hf b hb).1⟩⟩
  done:=by
    intro X hP hw hK hc i pins s σ H E I hf st hg
    subst hP hw hK
    obtain ⟨f0,f1,f2,f3,f4,f5⟩:=hf it (by simp)
    have hn:x.cps[i]? = none:=by
      have:x.cps.size ≤ i:=hg
      simpa using this
    exact en X.A s i _ _ (I.ok.hd hc) st hn fun h' eb=>⟨rfl,I.turned (t':=s.toks) (fun b o hb e=>eb b o hb e) f0 f1 f3 f4 f5⟩
  self:=fun A i s Q E st h=>sf A s i Q E st h
theorem pi_str {pins:List (Addr × Obj)} {s:Shared} {σ:L2.St} {H:Hp} {tg:Expr} {R:It → Hp → Prop} {x:Str} {t:Tok} (I:Inv X pins σ H s) (h:R (Its x) H) :
    wpAny (model X.prog X.w) X.A (pyIter (.str x t)) (PIE X pins σ tg R) X.xe s:=by
  have fp:∀ b ∈ [s.heap.objs.size],FpOk X pins H b:=fun b hb=>by
    rcases List.mem_cons.mp hb with rfl | hb
    · exact I.fpOk (Nat.le_refl _) (I.hok.fresh (Nat.le_refl _))
    · cases hb
  cases ha:x.cps.all (· < 128)
  · refine wpAny_pyIter_wide ha ?_
    exact ⟨s.heap.objs.size,[s.heap.objs.size],_,Its x,H,rfl,I.kept (t':=s.toks) fun b u e=>Heap.get?_push_of_some _ e,turn_str "str_iterator" _ x t (by decide) (fun A hA=>Walks.strWide hA _ x t) (fun A s i Q E hA st hx k=>wpAny_pyNext_wide_end hA st hx k) (fun A s i Q E st k=>wpAny_pyIter_striter_wide st k),⟨_,Heap.get?_push_size _ rfl,rfl,rfl⟩,fp,h⟩
  · refine wpAny_pyIter_ascii ha ?_
    exact ⟨s.heap.objs.size,[s.heap.objs.size],_,Its x,H,rfl,I.kept (t':=s.toks) fun b u e=>Heap.get?_push_of_some _ e,turn_str "str_ascii_iterator" _ x t (by decide) (fun A hA=>Walks.strAscii hA _ x t) (fun A s i Q E hA st hx k=>wpAny_pyNext_ascii_end hA st hx k) (fun A s i Q E st k=>wpAny_pyIter_striter_ascii st k),⟨_,Heap.get?_push_size _ rfl,rfl,rfl⟩,fp,h⟩
end
end Tr
namespace Tr
open PySem PySem.Spec PyProof.Rows L2
section
variable {prog:Program} {w:World} {A:Around} {E:Value → Shared → Prop} {s:Shared}
theorem nextOf_tup {it t:Addr} {i:Nat} {items:Array Value} {x:Value} {Q:Value → Shared → Prop} (hit:s.heap.IsTupleIter it t i) (ht:s.heap.IsTuple t items) (hx:items[i]? = some x)
    (hQ:∀ h',h'.IsTupleIter it t (i + 1) → Heap.SameBut it s.heap h' → Q x { s with heap:=h' }):wpAny (model prog w) A (Builtin.SmallTypes.nextOf (.ref it)) Q E s:=by
  obtain ⟨o,ho,hc,hd⟩:=id hit
  obtain ⟨ol,hol,_,nl,hdl⟩:=ht
  unfold Builtin.SmallTypes.nextOf
  refine wpAny_bind (wpAny_callSpecial?_slot (name:=Str.ofString "__next__") hit.typeIs F.slot_tuple_iterator_next
    (wpAny_call_entry F.slot_tuple_iterator_next hit.typeIs F.entry_tuple_iterator_next ?_ (F.args_tuple_iterator_next_1 _)))
  show wpAny _ _ (field (.ref it) 0 >>= _) _ _ s
  refine wpAny_bind (wpAny_field ho hd (x:=.ref t) rfl ?_)
  show wpAny _ _ (if (Value.ref t == Value.none) = true then _ else _) _ _ s
  rw [if_neg (show ¬ ((Value.ref t == Value.none) = true) from Bool.false_ne_true)]
  show wpAny _ _ (field (.ref it) 1 >>= _) _ _ s
  refine wpAny_bind (wpAny_field ho hd (x:=.int i 0) rfl ?_)
  show wpAny _ _ (seqItems? (.ref t) >>= _) _ _ s
  refine wpAny_bind (wpAny_seqItems hol hdl ?_)
  simp only [Int.toNat_natCast,hx]
  refine wpAny_bind (wpAny_setField ho hd (by simp) (wpAny_pure ⟨x,rfl,wpAny_pure (hQ _ ?_ (Heap.SameBut.update ..))⟩))
  exact ⟨_,Heap.get?_update_self _ ho (Obj.isFreed_of_fields (Obj.data_mapFields hd _)),(Obj.cls_mapFields ..).trans hc,by
    rw [Obj.data_mapFields hd];simp [rawInt]⟩
theorem nextOf_tup_end {it t:Addr} {i:Nat} {items:Array Value} {Q:Value → Shared → Prop} (hh:A.handled = none) (hit:s.heap.IsTupleIter it t i) (ht:s.heap.IsTuple t items) (hx:items[i]? = none)
    (hE:∀ h' e,Heap.ExtBut it s.heap h' → (∃ o,h'.get? e = some o ∧ o.cls = .type "StopIteration") → E (.ref e) { s with heap:=h' }):wpAny (model prog w) A (Builtin.SmallTypes.nextOf (.ref it)) Q E s:=by
  obtain ⟨o,ho,hc,hd⟩:=id hit
  obtain ⟨ol,hol,_,nl,hdl⟩:=ht
  unfold Builtin.SmallTypes.nextOf
  refine wpAny_bind (wpAny_callSpecial?_slot (name:=Str.ofString "__next__") hit.typeIs F.slot_tuple_iterator_next
    (wpAny_call_entry F.slot_tuple_iterator_next hit.typeIs F.entry_tuple_iterator_next ?_ (F.args_tuple_iterator_next_1 _)))
  show wpAny _ _ (field (.ref it) 0 >>= _) _ _ s
  refine wpAny_bind (wpAny_field ho hd (x:=.ref t) rfl ?_)
  show wpAny _ _ (if (Value.ref t == Value.none) = true then _ else _) _ _ s
  rw [if_neg (show ¬ ((Value.ref t == Value.none) = true) from Bool.false_ne_true)]
  show wpAny _ _ (field (.ref it) 1 >>= _) _ _ s
  refine wpAny_bind (wpAny_field ho hd (x:=.int i 0) rfl ?_)
  show wpAny _ _ (seqItems? (.ref t) >>= _) _ _ s
  refine wpAny_bind (wpAny_seqItems hol hdl ?_)
  simp only [Int.toNat_natCast,hx]
  refine wpAny_bind (wpAny_rule (wpAny_bind (wpAny_setField ho hd (by simp) ?_)))
  show wpAny _ _ (newExc (.type "StopIteration") [] >>= _) _ _ _
  refine wpAny_bind ?_
  simp only [newExc,newTuple]
  refine wpAny_bind (wpAny_newObj_type ?_ (by size_fits))
  refine wpAny_bind (m:=firstArgMember _ _) (wpAny_of_eq (a:=Value.none) (by first | rfl | (simp only [firstArgMember];rfl)) ?_)
  refine wpAny_newObj_type ?_ (by size_fits)
  simp only [raiseNew]
  refine wpAny_bind (wpAny_handled ?_)
  first | rw [show A.in1.handled = none from hh] | rw [hh]
  refine wpAny_bind (wpAny_pure (wpAny_throw ?_))
  exact hE _ _ (((Heap.SameBut.update ..).extBut.push _).push _) ⟨_,Heap.get?_push_size _ rfl,rfl⟩
end
theorem tup_at {h h':Heap} {a:Addr} {items:Array Value} (x:h.IsTuple a items) (e:∀ o,h.get? a = some o → h'.get? a = some o):h'.IsTuple a items:=let ⟨o,ho,r⟩:=x;⟨o,e _ ho,r⟩
theorem draws_tup {prog:Program} {w:World} {A:Around} (hh:A.handled = none) (it t:Addr) (hne:t ≠ it) (items:Array Value) :
    Draws prog w A it [it,t] items.size (fun i v=>items[i]? = some v) (fun i h=>h.IsTupleIter it t i ∧ h.IsTuple t items) where
  live:=fun _ _ st=>let ⟨o,ho,_⟩:=st.1;⟨o,ho⟩
  frame:=fun _ _ _ st hk=>⟨st.1.at fun o e=>hk it (by simp) o e,tup_at st.2 fun o e=>hk t (by simp) o e⟩
  item:=fun i s Q E hi st hQ=>nextOf_tup st.1 st.2 (x:=items[i]) (by simp [hi]) fun h' hit' hs'=>hQ _ h' s.toks (by simp [hi]) ⟨hit',st.2.extBut hs'.extBut hne⟩ hs'
  done:=fun s Q E st hE=>nextOf_tup_end hh st.1 st.2 (by simp) hE
theorem meets_enum_tup (l:Addr) (items:Array Value) (n:Nat) (dct:Option Addr) (sl:Array (Option Value)) :
    Meets (Builtin.«enumerate.__new__» ⟨[.type "enumerate", .ref l],[]⟩) (fun _ R s=>s.heap.get? l = some { cls:=.type "tuple", dict:=dct,data:=.seq items n,slots:=sl } ∧
      R (.ok (.ret (.ref (s.heap.push { cls:=.type "tuple_iterator", data:=.fields #[.ref l,.int 0 0] }).objs.size)))
        { s with heap:=(s.heap.push { cls:=.type "tuple_iterator", data:=.fields #[.ref l,.int 0 0] }).push { cls:=.type "enumerate", data:=.fields #[.none,.bool false,.ref s.heap.objs.size,rawInt 0,.none,.none] } }) :=
  .of_wp fun prog w A R s h=>by
    obtain ⟨hp,g,d,tk,os⟩:=s;obtain ⟨hl,h⟩:=h
    have hsub:=sub_enumerate
    have hL:Heap.IsTuple (Shared.heap ⟨hp,g,d,tk,os⟩) l items:=⟨_,hl,rfl,n,rfl⟩
    wp_walk using AutoSeq1.wpAny_loadPart' hl
    refine wpAny_stack_any fun st=>wpAny_pure ?_
    split
    · rename_i c _ _ _ _ _
      cases (c == Value.type "enumerate")
      · wp_walk using AutoSeq1.wpAny_loadPart' hl,wpAny_pyIter_tuple hL
        exact ⟨_,rfl,h⟩
      · wp_walk using AutoSeq1.wpAny_loadPart' hl,wpAny_pyIter_tuple hL
        exact ⟨_,rfl,h⟩
    · wp_walk using AutoSeq1.wpAny_loadPart' hl,wpAny_pyIter_tuple hL
      exact ⟨_,rfl,h⟩
theorem call_enum_tup {prog:Program} {w:World} {A:Around} {E:Value → Shared → Prop} {s:Shared} {l:Addr} {items:Array Value} {Q:Value → Shared → Prop} (hL:s.heap.IsTuple l items)
    (h:∀ h',IsEnum h' (s.heap.objs.size + 1) s.heap.objs.size 0 .none → h'.IsTupleIter s.heap.objs.size l 0 → h'.objs.size = s.heap.objs.size + 2 →
      (∀ b o,s.heap.get? b = some o → h'.get? b = some o) → Q (.ref (s.heap.objs.size + 1)) { s with heap:=h' }) :
    wpAny (model prog w) A (call (.type "enumerate") [.ref l]) Q E s:=by
  obtain ⟨⟨c,dct,dt,sl⟩,hl,hc,n,hd⟩:=hL
  replace hc:c = .type "tuple" := hc
  replace hd:dt = .seq items n:=hd
  subst hc hd
  refine callType_new F.called_enumerate (by decide) (F.typeCall_enumerate_1 _) (F.newCall_enumerate_1 _) (fun obj=>F.args_object_init_2 obj _) F.entry_enumerate_new
    (meets_enum_tup l items n dct sl) ⟨hl,?_⟩
  have hz:(s.heap.push { cls:=.type "tuple_iterator", data:=.fields #[.ref l,.int 0 0] }).objs.size = s.heap.objs.size + 1:=Heap.size_push ..
  show _ ∧ _
  rw [hz]
  have he:IsEnum ((s.heap.push { cls:=.type "tuple_iterator", data:=.fields #[.ref l,.int 0 0] }).push
      { cls:=.type "enumerate", data:=.fields #[.none,.bool false,.ref s.heap.objs.size,rawInt 0,.none,.none] }) (s.heap.objs.size + 1) s.heap.objs.size 0 .none:=by
    have:=Heap.get?_push_size (s.heap.push { cls:=.type "tuple_iterator", data:=.fields #[.ref l,.int 0 0] })
      (o:={ cls:=.type "enumerate", data:=.fields #[.none,.bool false,.ref s.heap.objs.size,rawInt 0,.none,.none] }) rfl
    rw [hz] at this;exact this
  refine ⟨⟨_,he,rfl⟩,h _ he ⟨_,Heap.get?_push_of_some _ (Heap.get?_push_size _ rfl),rfl,rfl⟩ (by rw [Heap.size_push,hz]) fun b o x=>Heap.get?_push_of_some _ (Heap.get?_push_of_some _ x)⟩
end Tr
namespace Tr
open PySem PySem.Spec PyProof.Rows L2 PySem.SeqAt
end Tr
namespace Tr
open PySem PySem.Spec PyProof.Rows L2 PySem.SeqAt
noncomputable def ModS (K:PySem.W.Frag) (a:Addr) (ss:List Str):Prop:=∃ (o:Obj) (its:Array Value) (n:Nat),K.lookup a = some o ∧ o.cls = .type "tuple" ∧ o.dict = none ∧ o.data = .seq its n ∧ Vals (ss.map V.str) its.toList
end Tr
namespace Tr
open PySem PySem.Spec PyProof.Rows L2
noncomputable def met (val:Nat → Key):Nat → List Key
  | 0=>[]
  | i + 1=>if (met val i).any (fun x=>decide (x = val i)) then met val i else met val i ++ [val i]
section
variable {prog:Program} {w:World} {A:Around} {R:Result → Shared → Prop} {I:Addr} {fp wr:List Addr} {G:Array GenState → Array GenState → Prop} {n:Nat} {P:Nat → Value → Prop} {St:Nat → Shared → Prop}
end
section
variable {prog:Program} {w:World} {A:Around} {E:Value → Shared → Prop} {s:Shared}
end
end Tr
namespace Tr
open PySem PySem.Spec PyProof.Rows L2
section
variable {prog:Program} {w:World} {A:Around} {E:Value → Shared → Prop} {s:Shared}
end
end Tr
namespace Tr
open PySem PySem.Spec PyProof.Rows L2
end Tr
namespace Tr
open PySem PySem.Spec PyProof.Rows L2
theorem call_rangeX {X:Cx}:CallR X (.type "range") (fun vs H Q=>∃ n:Int,vs = [.int n] ∧ ∀ p,H p = none → Q (.ref p) (upd H p (.rng 0 n))):=by
  intro pins s σ H vs us Q I rv h
  obtain ⟨n,rfl,q⟩:=h
  obtain ⟨u,rfl,ru⟩:=rv.one
  obtain ⟨t,rfl⟩:=ru
  refine call_range_1 ⟨.ref s.heap.objs.size,_,I.laid (t':=s.toks + 1 + 1) (fun b o e=>Heap.get?_push_of_some _ e) (Nat.le_refl _) ?_,rfl,q _ (I.hok.fresh (Nat.le_refl _))⟩
  exact ⟨_,_,_,Heap.get?_push_size _ rfl⟩
theorem vals_range {a:Int}:∀ {n:Nat} {its:List Value},its.length = n → (∀ (j:Nat) v,its[j]? = some v → ∃ t,v = .int (a + (j:Nat) * 1) t) → Vals ((List.range n).map fun i:Nat=>V.int (a + (i:Nat))) its:=by
  intro n
  induction n generalizing a with
  | zero =>
    intro its hl h
    rw [List.length_eq_zero_iff.mp hl]
    exact .nil
  | succ n ih =>
    intro its hl h
    cases its with
    | nil=>cases hl
    | cons v its =>
      rw [List.range_succ_eq_map,List.map_cons,List.map_map]
      obtain ⟨t,rfl⟩:=h 0 v rfl
      have r:=ih (a:=a + 1) (its:=its) (by simpa using hl) (fun j v hv=>by
        obtain ⟨t,e⟩:=h (j + 1) v (by simpa using hv)
        refine ⟨t,?_⟩
        rw [e]
        congr 1
        push_cast
        (first | lia | omega))
      refine .cons ⟨t,by simp⟩ ?_
      have e:(List.range n).map ((fun i:Nat=>V.int (a + (i:Nat))) ∘ Nat.succ) = (List.range n).map fun i:Nat=>V.int (a + 1 + (i:Nat)):=by
        apply List.map_congr_left
        intro i _
        simp only [Function.comp]
        congr 1
        push_cast
        (first | lia | omega)
      rw [e]
      exact r
theorem call_listX {X:Cx} (hc:X.calm = true):CallR X (.type "list") (fun vs H Q=>∃ p n,vs = [.ref p] ∧ H p = some (.rng 0 n) ∧ -(2 ^ 62) ≤ n ∧ n < 2 ^ 62 ∧ n ≤ (sizeLine:Nat) ∧ ∀ l,H l = none → Q (.ref l) (upd H l (.lst ((List.range n.toNat).map fun i:Nat=>V.int (0 + (i:Nat)))))):=by
  intro pins s σ H vs us Q I rv h
  obtain ⟨p,n,rfl,hH,h1,h2,h3,q⟩:=h
  obtain ⟨u,rfl,ru⟩:=rv.one
  cases ru
  obtain ⟨t,u,v,hr⟩:=I.hok p _ hH
  have hz:n.toNat ≤ sizeLine:=by (first | lia | omega)
  have hz2:n.toNat ≤ 2 ^ 24:=by
    have e:sizeLine = 2 ^ 24:=by decide
    rw [← e];exact hz
  refine call_list_range (n:=n.toNat) (I.ok.hd hc) hr (small_one (by (first | lia | omega)) (by (first | lia | omega)) h1 h2) (by rw [rangeSize_one];split <;> (first | lia | omega)) hz2 fun h' tk acc' c' hk hS hacc=>?_
  refine ⟨.ref s.heap.objs.size,_,I.laid (t':=tk) hk (Nat.le_refl _) ?_,rfl,q _ (I.hok.fresh (Nat.le_refl _))⟩
  refine ⟨by simpa using hz,acc'.toList,c',vals_range (by simpa using hacc.1) (fun j v hv=>?_),by simpa using hS⟩
  exact hacc.2 j v (by simpa using hv)
end Tr
namespace Tr
open PySem PySem.Spec PyProof.Rows L2
theorem vals_ints:∀ {ns:List Int} {its:List Value},Vals (ns.map V.int) its → ∃ xs:List (Int × Tok),its = xs.map (fun p=>Value.int p.1 p.2) ∧ xs.map (·.1) = ns
  | [],_,h=>by cases h;exact ⟨[],rfl,rfl⟩
  | n :: ns,_,h=>by
    cases h with
    | cons r rr =>
      obtain ⟨t,rfl⟩:=r
      obtain ⟨xs,rfl,e⟩:=vals_ints rr
      exact ⟨(n,t) :: xs,rfl,by rw [List.map_cons,e]⟩
noncomputable def maxTo (f:Nat → Int):Nat → Int
  | 0=>f 0
  | k + 1=>if f (k + 1) > maxTo f k then f (k + 1) else maxTo f k
noncomputable def minTo (f:Nat → Int):Nat → Int
  | 0=>f 0
  | k + 1=>if f (k + 1) < minTo f k then f (k + 1) else minTo f k
theorem best_max (f:Nat → Int):∀ k,f (argBest (fun i j=>decide (f i > f j)) k) = maxTo f k
  | 0=>rfl
  | k + 1=>by
    rw [argBest,maxTo,← best_max f k]
    by_cases c:f (k + 1) > f (argBest (fun i j=>decide (f i > f j)) k)
    · rw [if_pos (decide_eq_true c),if_pos c]
    · rw [if_neg (by simpa using c),if_neg c]
theorem best_min (f:Nat → Int):∀ k,f (argBest (fun i j=>decide (f i < f j)) k) = minTo f k
  | 0=>rfl
  | k + 1=>by
    rw [argBest,minTo,← best_min f k]
    by_cases c:f (k + 1) < f (argBest (fun i j=>decide (f i < f j)) k)
    · rw [if_pos (decide_eq_true c),if_pos c]
    · rw [if_neg (by simpa using c),if_neg c]
theorem maxTo_eq (g:Nat → Int):∀ (ns:List Int) (m:Int) (k:Nat),maxTo g k = m → (∀ i,i < ns.length → g (k + 1 + i) = ns.getD i 0) → maxTo g (k + ns.length) = maxI m ns
  | [],m,k,h,_=>by rw [maxI];exact h
  | n :: ns,m,k,h,e=>by
    have h0:=e 0 (by simp)
    have h1:maxTo g (k + 1) = if n > m then n else m:=by
      rw [maxTo,h]
      have:g (k + 1) = n:=h0
      rw [this]
    have ih:=maxTo_eq g ns (if n > m then n else m) (k + 1) h1 (fun i hi=>by
      have:=e (i + 1) (by simp;(first | lia | omega))
      rw [show k + 1 + 1 + i = k + 1 + (i + 1) by (first | lia | omega),this]
      rfl)
    rw [maxI,← ih,List.length_cons,show k + 1 + ns.length = k + (ns.length + 1) by (first | lia | omega)]
theorem minTo_eq (g:Nat → Int):∀ (ns:List Int) (m:Int) (k:Nat),minTo g k = m → (∀ i,i < ns.length → g (k + 1 + i) = ns.getD i 0) → minTo g (k + ns.length) = minI m ns
  | [],m,k,h,_=>by rw [minI];exact h
  | n :: ns,m,k,h,e=>by
    have h0:=e 0 (by simp)
    have h1:minTo g (k + 1) = if n < m then n else m:=by
      rw [minTo,h]
      have:g (k + 1) = n:=h0
      rw [this]
    have ih:=minTo_eq g ns (if n < m then n else m) (k + 1) h1 (fun i hi=>by
      have:=e (i + 1) (by simp;(first | lia | omega))
      rw [show k + 1 + 1 + i = k + 1 + (i + 1) by (first | lia | omega),this]
      rfl)
    rw [minI,← ih,List.length_cons,show k + 1 + ns.length = k + (ns.length + 1) by (first | lia | omega)]
theorem numAt_get (xs:List (Int × Tok)) (i:Nat):numAt xs.toArray i = (xs.map (·.1)).getD i 0:=by
  unfold numAt
  rw [List.getD_eq_getElem?_getD,List.getElem?_map]
  simp
theorem maxTo_num {xs:List (Int × Tok)} {n:Int} {ns:List Int} (e:xs.map (·.1) = n :: ns):maxTo (numAt xs.toArray) (xs.length - 1) = maxI n ns:=by
  have hl:xs.length = ns.length + 1:=by
    have:=congrArg List.length e
    simpa using this
  have:=maxTo_eq (numAt xs.toArray) ns n 0 (by rw [maxTo,numAt_get,e];rfl) (fun i _=>by rw [numAt_get,e,show 0 + 1 + i = i + 1 by (first | lia | omega)];rfl)
  rw [← this,hl]
  congr 1
  (first | lia | omega)
theorem minTo_num {xs:List (Int × Tok)} {n:Int} {ns:List Int} (e:xs.map (·.1) = n :: ns):minTo (numAt xs.toArray) (xs.length - 1) = minI n ns:=by
  have hl:xs.length = ns.length + 1:=by
    have:=congrArg List.length e
    simpa using this
  have:=minTo_eq (numAt xs.toArray) ns n 0 (by rw [minTo,numAt_get,e];rfl) (fun i _=>by rw [numAt_get,e,show 0 + 1 + i = i + 1 by (first | lia | omega)];rfl)
  rw [← this,hl]
  congr 1
  (first | lia | omega)
theorem call_maxL {X:Cx} (hc:X.calm = true):CallR X (.builtin "max") (fun vs H Q=>∃ a n ns,vs = [.ref a] ∧ SqL X.K H a ((n :: ns).map V.int) ∧ Q (.int (maxI n ns)) H):=by
  intro pins s σ H vs us Q I rv h
  obtain ⟨a,n,ns,rfl,hq,q⟩:=h
  obtain ⟨u,rfl,ru⟩:=rv.one
  cases ru
  obtain ⟨its,r,pl,hz⟩:=I.list hq
  obtain ⟨xs,rfl,e⟩:=vals_ints r
  have hl:s.heap.IsList a (intItems xs.toArray):=by
    have:=pl.isList
    rwa [show (xs.map fun p=>Value.int p.1 p.2).toArray = intItems xs.toArray by simp [intItems]] at this
  refine max_intList (I.ok.hd hc) hl (by have:=congrArg List.length e;simp at this ⊢;(first | lia | omega)) fun v h' tk hv hk=>?_
  obtain ⟨t,rfl⟩:=intItems_at hv
  rw [best_max (numAt xs.toArray),List.size_toArray,maxTo_num e]
  exact ⟨.int (maxI n ns),H,I.kept (t':=tk) hk,⟨t,rfl⟩,q⟩
theorem call_minL {X:Cx} (hc:X.calm = true):CallR X (.builtin "min") (fun vs H Q=>∃ a n ns,vs = [.ref a] ∧ SqL X.K H a ((n :: ns).map V.int) ∧ Q (.int (minI n ns)) H):=by
  intro pins s σ H vs us Q I rv h
  obtain ⟨a,n,ns,rfl,hq,q⟩:=h
  obtain ⟨u,rfl,ru⟩:=rv.one
  cases ru
  obtain ⟨its,r,pl,hz⟩:=I.list hq
  obtain ⟨xs,rfl,e⟩:=vals_ints r
  have hl:s.heap.IsList a (intItems xs.toArray):=by
    have:=pl.isList
    rwa [show (xs.map fun p=>Value.int p.1 p.2).toArray = intItems xs.toArray by simp [intItems]] at this
  refine min_intList (I.ok.hd hc) hl (by have:=congrArg List.length e;simp at this ⊢;(first | lia | omega)) fun v h' tk hv hk=>?_
  obtain ⟨t,rfl⟩:=intItems_at hv
  rw [best_min (numAt xs.toArray),List.size_toArray,minTo_num e]
  exact ⟨.int (minI n ns),H,I.kept (t':=tk) hk,⟨t,rfl⟩,q⟩
end Tr
namespace Tr
open PySem PySem.Spec PyProof.Rows L2
section
variable {prog:Program} {w:World} {A:Around} {R:Result → Shared → Prop} {it:Addr} {fp wr:List Addr} {n:Nat} {P:Nat → Value → Prop} {St:Nat → Heap → Prop}
theorem max_go (W:Walks prog w A.in1 it fp wr n P St) (bt:Nat → Nat → Bool) (hb:CmpOf prog w A.in1 .Gt P bt) (B:Addr) (nB:B ∉ fp) (kw:List (Str × Value)):∀ (m j:Nat) (s:Shared) (v0:Value) (c:Nat),n - (j + 1) = m → j + 1 ≤ n → St (j + 1) s.heap → P (argBest bt j) v0 →
    s.heap.get? B = some { cls:=.type "list", dict:=none,data:=.seq #[v0,v0] c,slots:=#[] } →
    (∀ v h1 tk,P (argBest bt (n - 1)) v → (∀ b o,b ∉ wr → b ≠ B → s.heap.get? b = some o → h1.get? b = some o) → R (.ok (.ret v)) { s with heap:=h1,toks:=tk }) →
    codeAny (model prog w) A (.builtin "max.loop" ⟨[.ref it,.none,.ref B],kw⟩) R s:=by
  have nw:B ∉ wr:=fun z=>nB (W.sub _ z)
  have nm:(toString "max" ++ toString ".loop" : String) = "max.loop" := by decide
  intro m
  induction m with
  | zero =>
    intro j s v0 c e1 e2 st p0 hB fin
    have en:j + 1 = n:=by (first | lia | omega)
    apply codeAny_builtin F.entry_max_loop
    rw [Around.under_plainId F.plain_max_loop]
    show wpAny _ A.in1 (seqItems? (.ref B) >>= _) _ _ s
    refine wpAny_bind (wpAny_seqItems hB rfl ?_)
    show wpAny _ A.in1 (tryCatch (pyNext (.ref it)) _ >>= _) _ _ s
    refine wpAny_bind (wpAny_tryCatch (W.done s _ _ (en ▸ st) fun h1 tk kept=>?_))
    have hB1:=kept B _ nw hB
    show wpAny _ A.in1 (updateSeq B (fun _=>#[]) >>= _) _ _ _
    exact wpAny_bind (wpAny_updateSeq hB1 rfl (wpAny_bind (wpAny_letGo (wpAny_pure (fin v0 _ tk (by rw [← en];exact p0) fun b o b1 b2 e=>(Heap.get?_update_other _ _ (Ne.symm b2)).trans (kept b o b1 e))))))
  | succ m ih =>
    intro j s v0 c e1 e2 st p0 hB fin
    have lt:j + 1 < n:=by (first | lia | omega)
    apply codeAny_builtin F.entry_max_loop
    rw [Around.under_plainId F.plain_max_loop]
    show wpAny _ A.in1 (seqItems? (.ref B) >>= _) _ _ s
    refine wpAny_bind (wpAny_seqItems hB rfl ?_)
    show wpAny _ A.in1 (tryCatch (pyNext (.ref it)) _ >>= _) _ _ s
    refine wpAny_bind (wpAny_tryCatch (W.item (j + 1) s _ _ lt st fun v h1 tk p1 st1 kept=>?_))
    have hB1:=kept B _ nw hB
    show wpAny _ A.in1 (tryCatch (holding [v,v] (richCompare .Gt v v0 >>= _)) _ >>= _) _ _ _
    refine wpAny_bind (wpAny_tryCatch (wpAny_holding (wpAny_bind (hb (j + 1) (argBest bt j) v v0 _ _ _ p1 p0 ?_))))
    refine wpAny_bind (wpAny_holding (wpAny_truthy_bool (wpAny_bind (wpAny_letGo (wpAny_pure ?_)))))
    cases q:bt (j + 1) (argBest bt j) with
    | true =>
      simp only [if_true]
      refine wpAny_bind (wpAny_updateSeq hB1 rfl (wpAny_bind (wpAny_letGo ?_)))
      rw [nm]
      refine wpAny_pure ⟨plainId_quiet F.plain_max_loop _,ih (j + 1) _ v _ (by (first | lia | omega)) lt (W.frame _ _ _ st1 fun b f o e=>?_) (by rw [argBest,q];exact p1) (Heap.get?_update_self _ hB1 rfl) fun v1 h2 tk2 p2 k2=>?_⟩
      · exact (Heap.get?_update_other _ _ (fun z:B = b=>nB (by rw [z];exact f))).trans e
      · exact fin v1 h2 tk2 p2 fun b o b1 b2 e=>k2 b o b1 b2 ((Heap.get?_update_other _ _ (Ne.symm b2)).trans (kept b o b1 e))
    | false =>
      simp only [Bool.false_eq_true,if_false]
      refine wpAny_bind (wpAny_letGo ?_)
      rw [nm]
      exact wpAny_pure ⟨plainId_quiet F.plain_max_loop _,ih (j + 1) _ v0 c (by (first | lia | omega)) lt st1 (by rw [argBest,q];exact p0) hB1 fun v1 h2 tk2 p2 k2=>fin v1 h2 tk2 p2 fun b o b1 b2 e=>k2 b o b1 b2 (kept b o b1 e)⟩
theorem max_start (W:Walks prog w A.in1 it fp wr n P St) (bt:Nat → Nat → Bool) (hb:CmpOf prog w A.in1 .Gt P bt) (B:Addr) (nB:B ∉ fp) (kn:Str) (d:Value) {s:Shared} {c:Nat} (st:St 0 s.heap)
    (hB:s.heap.get? B = some { cls:=.type "list", dict:=none,data:=.seq #[] c,slots:=#[] })
    (fin:∀ v h1 tk,((0 < n ∧ P (argBest bt (n - 1)) v) ∨ (n = 0 ∧ v = d)) → (∀ b o,b ∉ wr → b ≠ B → s.heap.get? b = some o → h1.get? b = some o) → R (.ok (.ret v)) { s with heap:=h1,toks:=tk }) :
    codeAny (model prog w) A (.builtin "max.loop" ⟨[.ref it,.none,.ref B],[(kn,d)]⟩) R s:=by
  have nw:B ∉ wr:=fun z=>nB (W.sub _ z)
  have nm:(toString "max" ++ toString ".loop" : String) = "max.loop" := by decide
  apply codeAny_builtin F.entry_max_loop
  rw [Around.under_plainId F.plain_max_loop]
  show wpAny _ A.in1 (seqItems? (.ref B) >>= _) _ _ s
  refine wpAny_bind (wpAny_seqItems hB rfl ?_)
  show wpAny _ A.in1 (tryCatch (pyNext (.ref it)) _ >>= _) _ _ s
  rcases Nat.eq_zero_or_pos n with z | z
  · refine wpAny_bind (wpAny_tryCatch (W.done s _ _ (by rw [z];exact st) fun h1 tk kept=>?_))
    show wpAny _ A.in1 (rule _ >>= fun _=>ret d) _ _ _
    exact wpAny_bind (wpAny_rule (wpAny_pure (fin d h1 tk (.inr ⟨z,rfl⟩) fun b o b1 _ e=>kept b o b1 e)))
  · refine wpAny_bind (wpAny_tryCatch (W.item 0 s _ _ z st fun v h1 tk p1 st1 kept=>?_))
    have hB1:=kept B _ nw hB
    show wpAny _ A.in1 (updateSeq B (fun _=>#[v,v]) >>= _) _ _ _
    refine wpAny_bind (wpAny_updateSeq hB1 rfl ?_)
    rw [nm]
    refine wpAny_pure ⟨plainId_quiet F.plain_max_loop _,max_go W bt hb B nB [(kn,d)] _ 0 _ v _ rfl z (W.frame _ _ _ st1 fun b f o e=>?_) p1 (Heap.get?_update_self _ hB1 rfl) fun v1 h2 tk2 p2 k2=>?_⟩
    · exact (Heap.get?_update_other _ _ (fun y:B = b=>nB (by rw [y];exact f))).trans e
    · exact fin v1 h2 tk2 (.inl ⟨z,p2⟩) fun b o b1 b2 e=>k2 b o b1 b2 ((Heap.get?_update_other _ _ (Ne.symm b2)).trans (kept b o b1 e))
end
theorem args_maxd (a d:Value):argsOk "max" ⟨[a],[(Str.ofString "default", d)]⟩:=by unfold argsOk;kernel_rfl
theorem maxd_call {prog:Program} {w:World} {A:Around} {E:Value → Shared → Prop} {s:Shared} {l:Addr} {xs:List (Int × Tok)} {d:Value} {Q:Value → Shared → Prop} (hh:A.handled = none) (hl:s.heap.IsList l (intItems xs.toArray))
    (h:∀ v h1 tk,((0 < xs.length ∧ ∃ t,v = .int (maxTo (numAt xs.toArray) (xs.length - 1)) t) ∨ (xs.length = 0 ∧ v = d)) → (∀ b o,s.heap.get? b = some o → h1.get? b = some o) → Q v { s with heap:=h1,toks:=tk }) :
    wpAny (model prog w) A (call (.builtin "max") [.ref l] [(Str.ofString "default", d)]) Q E s:=by
  have nm:(toString "max" ++ toString ".loop" : String) = "max.loop" := by decide
  have hlt:l < s.heap.objs.size:=by obtain ⟨_,e,_⟩:=hl;exact Heap.lt_size e
  apply wpAny_call
  apply codeAny_call_builtin F.plain_max F.entry_max
  have ha:=args_maxd (.ref l) d
  simp only [checkBuiltinCall,F.kind_max]
  have go:wpAny (model prog w) A.in1 (Builtin.«max» ⟨[.ref l],[(Str.ofString "default", d)]⟩) (fun fin s'=>match fin with
      | .done f=>(match (Except.ok f:Result) with | .ok (.ret v)=>Q v s' | .ok _=>False | .error e=>E e s')
      | .again c'=>c'.quiet = true ∧ codeAny (model prog w) A c' (fun r s'=>match r with | .ok (.ret v)=>Q v s' | .ok _=>False | .error e=>E e s') s') E s:=by
    show wpAny _ A.in1 (Builtin.Builtins.bindParams "max" ["key", "default"] 0 ⟨[],[(Str.ofString "default", d)]⟩ >>= _) _ _ s
    refine wpAny_bind (wpAny_of_eq (show Builtin.Builtins.bindParams "max" ["key", "default"] 0 ⟨[],[(Str.ofString "default", d)]⟩ = pure [none,some d] by rfl) ?_)
    refine wpAny_bind (wpAny_pure (wpAny_bind (wpAny_pyIter_list hl (wpAny_bind (wpAny_newObj_type ?_)))))
    rw [nm]
    generalize hg1:s.heap.push { cls:=.type "list_iterator", data:=.fields #[.ref l,.int 0 0] } = g1
    have z1:g1.objs.size = s.heap.objs.size + 1:=by rw [← hg1];exact Heap.size_push ..
    have old1:∀ b o,s.heap.get? b = some o → g1.get? b = some o:=fun b o e=>by rw [← hg1];exact Heap.get?_push_of_some _ e
    have it1:g1.get? s.heap.objs.size = some { cls:=.type "list_iterator", data:=.fields #[.ref l,.int 0 0] }:=by rw [← hg1];exact Heap.get?_push_size _ rfl
    have W:=Walks.list (prog:=prog) (w:=w) (A:=A.in1) hh s.heap.objs.size l (Nat.ne_of_lt hlt) (intItems xs.toArray)
    have sz:(intItems xs.toArray).size = xs.length:=by simp [intItems]
    refine wpAny_pure ⟨plainId_quiet F.plain_max_loop _,max_start W (fun i j=>decide (numAt xs.toArray i > numAt xs.toArray j)) (CmpOf.ints_gt (numAt xs.toArray) (fun _ _=>intItems_at)) g1.objs.size ?_ (Str.ofString "default") d ?_ (Heap.get?_push_size _ rfl) fun v h1 tk hv kept=>?_⟩
    · simp only [List.mem_cons,List.not_mem_nil,or_false,not_or]
      exact ⟨by rw [z1];exact Nat.ne_of_gt (Nat.lt_succ_self _),by rw [z1];exact Nat.ne_of_gt (Nat.lt_succ_of_lt hlt)⟩
    · exact ⟨⟨_,Heap.get?_push_of_some _ it1,rfl,rfl⟩,(hl.at fun o e=>Heap.get?_push_of_some _ (old1 _ o e))⟩
    · refine h v h1 tk ?_ fun b o e=>?_
      · rw [sz] at hv
        rcases hv with ⟨q1,q2⟩ | q
        · obtain ⟨t,rfl⟩:=intItems_at q2
          exact .inl ⟨q1,t,by rw [best_max (numAt xs.toArray)]⟩
        · exact .inr q
      · have lb:=Heap.lt_size e
        exact kept b o (by simp only [List.mem_cons,List.not_mem_nil,or_false];exact Nat.ne_of_lt lb) (by rw [z1];exact Nat.ne_of_lt (Nat.lt_succ_of_lt lb)) (Heap.get?_push_of_some _ (old1 b o e))
  cases hsig:Manifest.signature? "max" with
  | none=>exact wpAny_pure go
  | some sig =>
    simp only [argsOk,hsig] at ha
    have h2:Bind.checkArgs "max" sig ⟨[.ref l],[(Str.ofString "default", d)]⟩ = pure ():=ha
    simp only [h2]
    exact wpAny_pure go
theorem maxd_val {X:Cx} (hc:X.calm = true) {pins:List (Addr × Obj)} {s:Shared} {σ:L2.St} {H:Hp} {a:Addr} {ns:List Int} {d:Int} {t:Tok} {Q:VK} (I:Inv X pins σ H s) (hq:SqL X.K H a (ns.map V.int)) (q:Q (.int (match ns with | []=>d | n :: r=>maxI n r)) H) :
    wpAny (model X.prog X.w) X.A (call (.builtin "max") [.ref a] [(Str.ofString "default", .int d t)]) (EP X pins σ Q) X.xe s:=by
  obtain ⟨its,r,pl,hz⟩:=I.list hq
  obtain ⟨xs,rfl,e⟩:=vals_ints r
  have hl:s.heap.IsList a (intItems xs.toArray):=by
    have:=pl.isList
    rwa [show (xs.map fun p=>Value.int p.1 p.2).toArray = intItems xs.toArray by simp [intItems]] at this
  refine maxd_call (I.ok.hd hc) hl fun v h1 tk hv kept=>?_
  have ln:xs.length = ns.length:=by rw [← e,List.length_map]
  refine ⟨_,H,I.kept (t':=tk) kept,?_,q⟩
  cases ns with
  | nil =>
    rcases hv with ⟨z,_⟩ | ⟨_,rfl⟩
    · rw [ln] at z;exact absurd z (Nat.lt_irrefl _)
    · exact ⟨t,rfl⟩
  | cons n ns =>
    rcases hv with ⟨_,t',rfl⟩ | ⟨z,_⟩
    · exact ⟨t',by rw [maxTo_num e]⟩
    · rw [ln] at z;cases z
end Tr
namespace Tr
open PySem PySem.Spec PyProof.Rows L2
noncomputable def bitsL (m:Nat):List Nat:=(List.range 8).filter fun i=>m.testBit i
noncomputable def tabOf (led:Bool) (ns:List Nat):SetTable:={ mask:=if ns.length < 5 then 7 else 31,place:=ns.toArray,dummies:=#[],finger:=0,led:=led,moves:=if ns.length < 5 then 0 else 1,plain:=true }
noncomputable def lo8 (ns:List Nat) (n:Nat):List Nat:=ns.filter fun i=>decide (i < n)
noncomputable def hi8 (ns:List Nat) (n:Nat):List Nat:=ns.filter fun i=>decide (n < i)
noncomputable def chk8 (led:Bool) (m n:Nat):Bool :=
  let ns:=bitsL m
  let t:=tabOf led ns
  let ms:=bitsL (m ||| 2 ^ n)
  let p:=(lo8 ns n).length
  let t1:=(t.put n).1
  decide (t.freeSlot (n:Int) = some (n,false)) && decide ((t.put n).2 = p) && decide (lo8 ns n ++ hi8 ns n = ns) && decide (ms = lo8 ns n ++ n :: hi8 ns n) && t1.fits (ns.length + 1) && t1.plain
    && (if t1.tooFull then decide (t1.relaid (ms.toArray.map fun i : Nat => (i : Int)) (SetTable.grown (ns.length + 1)) = some (tabOf led ms, Array.range (ns.length + 1))) && coversAll (Array.range (ns.length + 1)) (ns.length + 1) && (tabOf led ms).fits (ns.length + 1)
       else decide (t1 = tabOf led ms))
theorem chk8_all:((List.range 256).all fun m=>(List.range 8).all fun n=>[true,false].all fun led=>m.testBit n || chk8 led m n) = true:=by decide +kernel
theorem bits8_all:((List.range 256).all fun m=>decide ((bitsL m).length ≤ 8) && (tabOf true (bitsL m)).fits (bitsL m).length && (tabOf false (bitsL m)).fits (bitsL m).length && (List.range 8).all (fun n=>(bitsL m).contains n == m.testBit n) && (List.range ((bitsL m).length + 1)).all (fun i=>SetTable.below (bitsL m).toArray (if i = 0 then 0 else (bitsL m).getD (i - 1) 0 + 1) == i)) = true:=by decide +kernel
end Tr
namespace Tr
open PySem PySem.Spec PyProof.Rows L2
noncomputable def EL (ns:List Nat) (l:List (Int × Value)):Prop:=l.map (·.1) = ns.map (fun i:Nat=>(i:Int)) ∧ ∀ e ∈ l,∃ tk,e.2 = .int e.1 tk
noncomputable def SetB (led:Bool) (h:Heap) (a:Addr) (m:Nat):Prop :=
  ∃ o es ep,h.get? a = some o ∧ o.ExactSet ∧ o.data = .set es ep (tabOf led (bitsL m)) ∧ EL (bitsL m) es.toList ∧ m < 256
theorem chk8_of {led:Bool} {m n:Nat} (hm:m < 256) (hn:n < 8) (h:m.testBit n = false):chk8 led m n = true:=by
  have:=List.all_eq_true.mp (List.all_eq_true.mp (List.all_eq_true.mp chk8_all m (List.mem_range.mpr hm)) n (List.mem_range.mpr hn)) led (by cases led <;> simp)
  rw [h] at this
  simpa using this
theorem bits8_of {m:Nat} (hm:m < 256):(bitsL m).length ≤ 8 ∧ (∀ led,(tabOf led (bitsL m)).fits (bitsL m).length = true) ∧ (∀ n,n < 8 → (bitsL m).contains n = m.testBit n) ∧ ∀ i,i ≤ (bitsL m).length → SetTable.below (bitsL m).toArray (if i = 0 then 0 else (bitsL m).getD (i - 1) 0 + 1) = i:=by
  have h:=List.all_eq_true.mp bits8_all m (List.mem_range.mpr hm)
  simp only [Bool.and_eq_true,decide_eq_true_eq] at h
  obtain ⟨⟨⟨⟨h1,h2⟩,h3⟩,h4⟩,h5⟩:=h
  refine ⟨h1,fun led=>by cases led <;> assumption,fun n hn=>?_,fun i hi=>?_⟩
  · have:=List.all_eq_true.mp h4 n (List.mem_range.mpr hn)
    simpa using this
  · have:=List.all_eq_true.mp h5 i (List.mem_range.mpr (by (first | lia | omega)))
    simpa using this
theorem hash8 {P:Program} {w:World} {n:Nat} (hn:n < 8):(intKind P w).hash (n:Int) = (n:Int):=by
  have:n = 0 ∨ n = 1 ∨ n = 2 ∨ n = 3 ∨ n = 4 ∨ n = 5 ∨ n = 6 ∨ n = 7:=by (first | lia | omega)
  rcases this with rfl | rfl | rfl | rfl | rfl | rfl | rfl | rfl <;> rfl
theorem EL.size {ns:List Nat} {es:Array (Int × Value)} (h:EL ns es.toList):es.size = ns.length:=by
  have:=congrArg List.length h.1
  simpa using this
theorem EL.elems {P:Program} {w:World} {m:Nat} {es:List (Int × Value)} (h:EL (bitsL m) es):ElemsOf (intKind P w) es:=by
  intro e he
  obtain ⟨tk,e2⟩:=h.2 e he
  have h1:e.1 ∈ es.map (·.1):=List.mem_map_of_mem he
  rw [h.1,List.mem_map] at h1
  obtain ⟨n,hn,e1⟩:=h1
  have hn8:n < 8:=by
    unfold bitsL at hn
    exact List.mem_range.mp (List.mem_filter.mp hn).1
  refine ⟨⟨e.1,?_,?_⟩,by rw [e2];rfl⟩
  · rw [e2];exact intKind_is _ _ _ _
  · rw [← e1,hash8 hn8]
section
variable {prog:Program} {w:World} {A:Around} {E:Value → Shared → Prop} {s:Shared}
theorem insertAt_toList {α:Type} (xs:Array α) (p:Nat) (x:α) (hp:p ≤ xs.size):(SetTable.insertAt xs p x).toList = xs.toList.take p ++ x :: xs.toList.drop p:=by
  unfold SetTable.insertAt
  simp [Array.toList_extract,List.take_of_length_le]
theorem filterMap_range_self {α:Type} (es:Array α):(Array.range es.size).filterMap (fun i=>es[i]?) = es:=by
  apply Array.toList_inj.mp
  rw [Array.toList_filterMap,Array.toList_range]
  exact filterMap_getElem?_range es
theorem put_get {h:Heap} {a:Addr} {o:Obj} {es:Array (Int × Value)} {ep:Nat} {t:SetTable} (ho:h.get? a = some o) (hd:o.data = .set es ep t) (es':Array (Int × Value)) (t':SetTable) :
    (h.update a (Obj.putSet es' t')).get? a = some { o with data:=.set es' (ep + 1) t' }:=by
  have:=Heap.get?_update_self (Obj.putSet es' t') ho (by rw [putSet_of es' t' hd];rfl)
  rw [putSet_of es' t' hd] at this;exact this
set_option maxHeartbeats 1600000 in
theorem addB {led:Bool} {a:Addr} {m n:Nat} {tk:Tok} {Q:Bool → Shared → Prop} (hS:SetB led s.heap a m) (hn:n < 8)
    (h:∀ h' b,Heap.SameBut a s.heap h' → SetB led h' a (m ||| 2 ^ n) → Q b { s with heap:=h' }) :
    wpAny (model prog w) A (setAddHashed a (.int (n:Int) tk) ((intKind prog w).hash (n:Int))) Q E s:=by
  obtain ⟨o,es,ep,ho,hex,hd,hel,hm⟩:=hS
  obtain ⟨b1,b2,b3,b4⟩:=bits8_of hm
  have hsz:=hel.size
  have hE:ElemsOf (intKind prog w) es.toList:=hel.elems
  have hf:(tabOf led (bitsL m)).fits es.size = true:=by rw [hsz];exact b2 led
  have hsc:(Value.int (n:Int) tk).scannable = true:=rfl
  have hkey:(intKind prog w).is (n:Int) (.int (n:Int) tk) = true:=intKind_is _ _ _ _
  unfold setAddHashed setAddHashedIn
  refine wpAny_holding (wpAny_bind (wpAny_setState_of ho hd hf ?_))
  dsimp only
  rw [byScan_of hsc (by rw [hsz];unfold scanBound;(first | lia | omega)) hE]
  simp only [↓reduceIte]
  unfold setAddByScan
  refine wpAny_bind ?_
  refine wpAny_bind (wpAny_rule ?_)
  refine wpAny_bind (wpAny_setScan_of hkey ho hd hf hE ?_)
  cases hr:List.findIdx? (fun e=>(intKind prog w).is (n:Int) e.2) es.toList with
  | some j =>
    dsimp only
    obtain ⟨hj,hpj,_⟩:=List.findIdx?_eq_some_iff_getElem.mp hr
    have hmem:n ∈ bitsL m:=by
      have he:es.toList[j] ∈ es.toList:=List.getElem_mem hj
      obtain ⟨tk',e2⟩:=hel.2 _ he
      rw [e2] at hpj
      have e3:=(intKind prog w).inj _ _ _ hpj (intKind_is _ _ _ _)
      have h1:es.toList[j].1 ∈ es.toList.map (·.1):=List.mem_map_of_mem he
      rw [hel.1,List.mem_map] at h1
      obtain ⟨k,hk,ek⟩:=h1
      rw [← ek] at e3
      have:k = n:=by (first | lia | omega)
      rw [← this];exact hk
    have htb:m.testBit n = true:=by rw [← b3 n hn];exact List.contains_iff_mem.mpr hmem
    have hmm:m ||| 2 ^ n = m:=by
      apply Nat.eq_of_testBit_eq
      intro i
      rw [Nat.testBit_or,Nat.testBit_two_pow]
      by_cases e:n = i
      · subst e;simp [htb]
      · simp [e]
    refine wpAny_pure (wpAny_pure ?_)
    have e:s = { s with heap:=s.heap }:=by cases s;rfl
    rw [e]
    exact h s.heap _ (Heap.SameBut.refl a s.heap) (by rw [hmm];exact ⟨o,es,ep,ho,hex,hd,hel,hm⟩)
  | none =>
    dsimp only
    have htb:m.testBit n = false:=by
      cases hk:m.testBit n with
      | false=>rfl
      | true =>
        rw [← b3 n hn] at hk
        have hmem:=List.contains_iff_mem.mp hk
        have h1:(n:Int) ∈ es.toList.map (·.1):=by rw [hel.1];exact List.mem_map_of_mem hmem
        obtain ⟨e,he,e1⟩:=List.mem_map.mp h1
        have:=List.findIdx?_eq_none_iff.mp hr e he
        obtain ⟨tk',e2⟩:=hel.2 _ he
        rw [e2,e1,intKind_is] at this
        cases this
    have hc:=chk8_of (led:=led) hm hn htb
    unfold chk8 at hc
    simp only [Bool.and_eq_true,decide_eq_true_eq] at hc
    obtain ⟨⟨⟨⟨⟨⟨c1,c2⟩,c3⟩,c4⟩,c5⟩,c6⟩,c7⟩:=hc
    have hm':m ||| 2 ^ n < 256:=by
      have:2 ^ n < 2 ^ 8:=Nat.pow_lt_pow_right (by decide) hn
      exact Nat.or_lt_two_pow (n:=8) hm this
    have hh:(intKind prog w).hash (n:Int) = (n:Int):=hash8 hn
    have hp:(lo8 (bitsL m) n).length ≤ es.size:=by rw [hsz];exact List.length_filter_le _ _
    have hL:layNew (tabOf led (bitsL m)) es ((intKind prog w).hash (n:Int)) (.int (n:Int) tk) = (SetTable.insertAt es (lo8 (bitsL m) n).length ((n:Int),.int (n:Int) tk),((tabOf led (bitsL m)).put n).1,false,false):=by
      unfold layNew
      rw [hh,c1]
      dsimp only
      rw [show (tabOf led (bitsL m)).put n = (((tabOf led (bitsL m)).put n).1,((tabOf led (bitsL m)).put n).2) from rfl]
      dsimp only
      rw [c2]
      have hz:(SetTable.insertAt es (lo8 (bitsL m) n).length ((n:Int),Value.int (n:Int) tk)).size = (bitsL m).length + 1:=by
        rw [← Array.length_toList,insertAt_toList _ _ _ hp]
        simp
        (first | lia | omega)
      rw [hz,SetTable.orStandIn,if_pos c5,c5]
      rfl
    rw [hL]
    dsimp only
    have hel1:EL (bitsL (m ||| 2 ^ n)) (SetTable.insertAt es (lo8 (bitsL m) n).length ((n:Int),.int (n:Int) tk)).toList:=by
      rw [insertAt_toList _ _ _ hp,c4]
      refine ⟨?_,fun e he=>?_⟩
      · have e1:es.toList.map (·.1) = (lo8 (bitsL m) n).map (fun i:Nat=>(i:Int)) ++ (hi8 (bitsL m) n).map (fun i:Nat=>(i:Int)):=by
          rw [hel.1,← List.map_append,c3]
        rw [List.map_append,List.map_cons,List.map_take,List.map_drop,e1]
        have e2:(lo8 (bitsL m) n).length = ((lo8 (bitsL m) n).map (fun i:Nat=>(i:Int))).length:=by simp
        rw [e2,List.take_left,List.drop_left]
        simp
      · rcases List.mem_append.mp he with h1 | h1
        · exact hel.2 e (List.mem_of_mem_take h1)
        · rcases List.mem_cons.mp h1 with h1 | h1
          · subst h1;exact ⟨tk,rfl⟩
          · exact hel.2 e (List.mem_of_mem_drop h1)
    have hz1:=hel1.size
    have hln:(bitsL (m ||| 2 ^ n)).length = (bitsL m).length + 1:=by
      rw [c4,List.length_append,List.length_cons]
      have:=congrArg List.length c3
      rw [List.length_append] at this
      (first | lia | omega)
    generalize hI:SetTable.insertAt es (lo8 (bitsL m) n).length ((n:Int),Value.int (n:Int) tk) = es1 at *
    refine wpAny_bind (wpAny_pure ?_)
    simp only [c6,↓reduceIte]
    refine wpAny_bind ?_
    rw [hashByValue_scannable 8 hsc]
    refine wpAny_pure ?_
    simp only [plainKind,↓reduceIte]
    refine wpAny_bind (wpAny_storeSet_of ho hd ?_ (by rw [hz1,hln];rw [sizeLine_eq];(first | lia | omega)))
    have hg1:=put_get ho hd es1 ((tabOf led (bitsL m)).put n).1
    have hsb1:=Heap.SameBut.update s.heap a (Obj.putSet es1 ((tabOf led (bitsL m)).put n).1)
    cases htf:((tabOf led (bitsL m)).put n).1.tooFull with
    | true =>
      rw [htf] at c7
      simp only [↓reduceIte,Bool.and_eq_true,decide_eq_true_eq] at c7
      obtain ⟨⟨d1,d2⟩,d3⟩:=c7
      have hmap:es1.map (·.1) = ((bitsL (m ||| 2 ^ n)).toArray.map fun i:Nat=>(i:Int)):=by
        apply Array.toList_inj.mp
        rw [Array.toList_map,Array.toList_map,hel1.1]
      have hR:relayAll ((tabOf led (bitsL m)).put n).1 es1 (SetTable.grown es1.size) = (es1,tabOf led (bitsL (m ||| 2 ^ n)),false):=by
        unfold relayAll
        rw [hmap,hz1,hln,d1]
        dsimp only
        have e4:(Array.range ((bitsL m).length + 1)).filterMap (fun i=>es1[i]?) = es1:=by
          rw [← hln,← hz1];exact filterMap_range_self es1
        rw [e4,hz1,hln,d2,d3]
        rfl
      simp only [Bool.not_false,Bool.true_and,↓reduceIte]
      rw [hR]
      dsimp only
      refine wpAny_bind (wpAny_pure ?_)
      refine wpAny_bind (wpAny_storeSet_of hg1 rfl ?_ (by rw [hz1,hln];rw [sizeLine_eq];(first | lia | omega)))
      have hg2:=put_get hg1 rfl es1 (tabOf led (bitsL (m ||| 2 ^ n)))
      refine wpAny_pure (wpAny_pure ?_)
      exact h _ _ (hsb1.trans (Heap.SameBut.update _ a _)) ⟨_,es1,_,hg2,hex,rfl,hel1,hm'⟩
    | false =>
      rw [htf] at c7
      simp only [Bool.false_eq_true,↓reduceIte,decide_eq_true_eq] at c7
      simp only [Bool.and_false,Bool.false_eq_true,↓reduceIte]
      rw [c7] at hg1 hsb1 ⊢
      refine wpAny_pure (wpAny_pure ?_)
      exact h _ _ hsb1 ⟨_,es1,_,hg1,hex,rfl,hel1,hm'⟩
end
end Tr
namespace Tr
open PySem PySem.Spec PyProof.Rows L2
noncomputable def mk8 (val:Nat → Nat):Nat → Nat
  | 0=>0
  | i + 1=>mk8 val i ||| 2 ^ val i
noncomputable def byTx (w:World):Bool:=w.params.followText "set-order"
section
variable {prog:Program} {w:World} {A:Around} {R:Result → Shared → Prop} {I:Addr} {fp wr:List Addr} {G:Array GenState → Array GenState → Prop} {n:Nat} {P:Nat → Value → Prop} {St:Nat → Shared → Prop}
theorem set_loop8 (W:WalksS prog w A.in1 I fp wr G n P St) (S:Addr) (hSf:S ∉ fp) (val:Nat → Nat) (hval:∀ i v,P i v → (∃ tk,v = .int (val i:Int) tk) ∧ val i < 8) :
    ∀ (k i:Nat) (s:Shared),n - i = k → i ≤ n → St i s →
      SetB (!byTx w) s.heap S (mk8 val i) →
      (∀ s',Moved (S :: wr) G s s' → SetB (!byTx w) s'.heap S (mk8 val n) → R (.ok (.ret .none)) s') →
      codeAny (model prog w) A (.builtin "set.update.loop" ⟨[.ref S,.ref I],[]⟩) R s:=by
  have hSw:S ∉ wr:=fun h=>hSf (W.sub _ h)
  have hsub:∀ b ∈ wr,b ∈ S :: wr:=fun b hb=>List.mem_cons_of_mem _ hb
  intro k
  induction k with
  | zero =>
    intro i s hk hi hst hS hR
    have hin:i = n:=by (first | lia | omega)
    subst hin
    refine codeAny_builtin PyProof.Rows.F.entry_set_update_loop ?_
    rw [Around.under_plainId PyProof.Rows.F.plain_set_update_loop _]
    show wpAny _ A.in1 (pyNext (.ref I) >>= _) _ _ s
    refine wpAny_bind (W.done s _ _ hst fun s' hm=>?_)
    show wpAny _ A.in1 (ret Value.none) _ _ s'
    exact wpAny_pure (hR s' (hm.mono hsub) (by
      obtain ⟨o,es,ep,ho,rest⟩:=hS
      exact ⟨o,es,ep,hm.heap S _ hSw ho,rest⟩))
  | succ k ih =>
    intro i s hk hi hst hS hR
    have hlt:i < n:=by (first | lia | omega)
    refine codeAny_builtin PyProof.Rows.F.entry_set_update_loop ?_
    rw [Around.under_plainId PyProof.Rows.F.plain_set_update_loop _]
    show wpAny _ A.in1 (pyNext (.ref I) >>= _) _ _ s
    refine wpAny_bind (W.item i s _ _ hlt hst fun v s' hP hst' hm=>?_)
    obtain ⟨⟨tkv,rfl⟩,hv8⟩:=hval i v hP
    have hv:(intKind prog w).is (val i:Int) (.int (val i:Int) tkv) = true:=intKind_is _ _ _ _
    have hS':SetB (!byTx w) s'.heap S (mk8 val i):=by
      obtain ⟨o,es,ep,ho,rest⟩:=hS
      exact ⟨o,es,ep,hm.heap S _ hSw ho,rest⟩
    show wpAny _ A.in1 (holding [Value.int (val i:Int) tkv] (setAdd S (Value.int (val i:Int) tkv)) >>= _) _ _ s'
    refine wpAny_bind (wpAny_holding ?_)
    unfold setAdd
    refine wpAny_holding ?_
    refine wpAny_bind ((intKind prog w).pyHash (k:=(val i:Int)) hv ?_)
    refine addB (s:={ s' with toks:=s'.toks + 1 }) hS' hv8 fun h' bb hsb hSi=>?_
    refine wpAny_pure ⟨plainId_quiet PyProof.Rows.F.plain_set_update_loop _,ih (i + 1) _ (by (first | lia | omega)) hlt (W.frame _ s' _ _ hst' (Nat.le_succ _) fun b hb o e=>?_) hSi fun s'' hm'' hS''=>?_⟩
    · rw [hsb.2 b (fun h:b = S=>hSf (by rw [← h];exact hb))];exact e
    · refine hR s'' (Moved.trans W.gtrans ((hm.mono hsub).then_heap (Nat.le_succ _) fun b o hb e=>?_) hm'') hS''
      rw [hsb.2 b (fun h:b = S=>hb (by rw [h];exact List.mem_cons_self))];exact e
theorem code_set_new8 {E:Value → Shared → Prop} {s:Shared} (a:Value) {Q₁:Value → Shared → Prop}
    (h:Q₁ (.ref s.heap.objs.size) { s with heap:=s.heap.push { cls:=.type "set", dict:=none,data:=.set #[] 0 (.fresh 0 0 (!byTx w)) } }) :
    codeAny (model prog w) A (.call (.builtin "set.__new__") ⟨[.type "set", a],[]⟩) (wants Q₁ E) s:=by
  refine codeAny_of_tree ?_
  show wpAny _ A.in1 (do checkBuiltinCall "set.__new__" ⟨[.type "set", a],[]⟩;again (.builtin "set.__new__" ⟨[.type "set", a],[]⟩)) _ _ s
  refine wpAny_bind (wpAny_of_eq (F.newCall_set_1 a) (wpAny_pure ⟨plainId_quiet F.plain_set_new _,codeAny_builtin F.entry_set_new ?_⟩))
  rw [Around.under_plainId F.plain_set_new _]
  unfold Builtin.«set.__new__» Builtin.Frozenset.newClass
  have hsub:=sub_set_self
  obtain ⟨hp,g,d,tk,os⟩:=s
  dsimp only
  wp_walk
  refine wpAny_askSetting (wpAny_pure ?_)
  dsimp only
  simp only [newObj]
  refine wpAny_bind (wpAny_alloc (wpAny_pure ?_))
  exact wpAny_pure h
end
section
variable {prog:Program} {w:World} {A:Around} {E:Value → Shared → Prop} {s:Shared}
set_option maxHeartbeats 3200000 in
theorem call_set_lst8 {l:Addr} {items:Array Value} {val:Nat → Nat} {Q:Value → Shared → Prop} (hh:A.handled = none) (hl:s.heap.IsList l items) (hval:∀ i v,items[i]? = some v → (∃ tk,v = .int (val i:Int) tk) ∧ val i < 8)
    (h:∀ (h':Heap) (tk:Nat),SetB (!byTx w) h' s.heap.objs.size (mk8 val items.size) →
      (∀ b o,b < s.heap.objs.size → s.heap.get? b = some o → h'.get? b = some o) → Q (.ref s.heap.objs.size) { s with heap:=h',toks:=tk }) :
    wpAny (model prog w) A (call (.type "set") [.ref l]) Q E s:=by
  obtain ⟨c,tl,hmro⟩:=F.called_set.mro
  have hmade:=F.called_set.made
  have hsub:=F.called_set.sub
  refine wpAny_call (codeAny_of_tree ?_)
  show wpAny _ _ (callAny (.type "set") _) _ _ _
  refine wpAny_pure ⟨Code.quiet_builtin _ (by decide +kernel),codeAny_builtin F.entry_type_call ?_⟩
  rw [Around.under_plain (weight_type_call_type "set" [.ref l] []) rfl]
  have h1:=F.called_set.notType
  have h2:=F.called_set.canCreate
  have hct:=F.typeCall_set_1 (.ref l)
  repeat (any_goals (first | assumption | wp_step))
  refine codeAny_mono (code_set_new8 (.ref l) (E:=E) (Q₁:=fun obj s₁=>obj = .ref s.heap.objs.size ∧ s₁ = { s with heap:=s.heap.push { cls:=.type "set", dict:=none,data:=.set #[] 0 (.fresh 0 0 (!byTx w)) } }) ⟨rfl,rfl⟩) fun r s₁ hr=>?_
  cases r with
  | error e=>exact hr
  | ok fl =>
    cases fl with
    | ret obj =>
      obtain ⟨rfl,rfl⟩:=hr
      have hS:(s.heap.push { cls:=.type "set", dict:=none,data:=.set #[] 0 (.fresh 0 0 (!byTx w)) }).get? s.heap.objs.size = some { cls:=.type "set", dict:=none,data:=.set #[] 0 (.fresh 0 0 (!byTx w)) }:=Heap.get?_push_size _ rfl
      have hT:Shared.TypeIs { s with heap:=s.heap.push { cls:=.type "set", dict:=none,data:=.set #[] 0 (.fresh 0 0 (!byTx w)) } } (.ref s.heap.objs.size) "set" := ⟨_,hS,rfl⟩
      have hli:=F.called_set.init.lookup
      have hbi:=F.called_set.init.bind (.ref s.heap.objs.size)
      repeat (any_goals (first | assumption | wp_step))
      refine codeAny_mono (codeAny_call_builtin (R:=wants (fun r s₂=>r = .none ∧ ∃ h' tk,s₂ = { s with heap:=h',toks:=tk } ∧
          SetB (!byTx w) h' s.heap.objs.size (mk8 val items.size) ∧
          (∀ b o,b < s.heap.objs.size → s.heap.get? b = some o → h'.get? b = some o)) E) F.called_set.init.plain F.entry_set_init (check_set_init_1 hT ?_)) fun r₂ s₂ hr₂=>?_
      · generalize hpu:s.heap.push { cls:=.type "set", dict:=none,data:=.set #[] 0 (.fresh 0 0 (!byTx w)) } = hp1 at *
        have hz:hp1.objs.size = s.heap.objs.size + 1:=by rw [← hpu];exact Heap.size_push ..
        have hold:∀ b o,s.heap.get? b = some o → hp1.get? b = some o:=fun b o e=>by rw [← hpu];exact Heap.get?_push_of_some _ e
        obtain ⟨ol,hol,hcl,nl,hdl⟩:=hl
        obtain ⟨ocls,odict,odata,oslots⟩:=ol
        simp only at hcl hdl
        subst hcl;subst hdl
        have hol':hp1.get? l = some { cls:=.type "list", dict:=odict,data:=.seq items nl,slots:=oslots }:=hold _ _ hol
        have hsls:=F.sub_list_set
        have hslf:=F.sub_list_frozenset
        have hne:(Value.type "list" == Value.type "dict") = false:=by decide
        have hl1:hp1.IsList l items:=⟨_,hol',rfl,nl,rfl⟩
        have hlS:l < s.heap.objs.size:=Heap.lt_size hol
        have hneI:l ≠ hp1.objs.size:=by rw [hz];exact Nat.ne_of_lt (Nat.lt_succ_of_lt hlS)
        unfold Builtin.«set.__init__» noKeywords Builtin.Frozenset.updateFrom
        generalize hPI:pyIter = PI
        wp_walk
        subst hPI
        refine wpAny_pyIter_list hl1 ?_
        refine wpAny_bind (wpAny_runValue ?_)
        have hh3:A.in1.in1.in1.handled = none:=by simp [hh]
        refine set_loop8 ((Walks.list hh3 _ l hneI items).toS) s.heap.objs.size (by rw [hz];simp only [List.mem_cons,List.mem_singleton,List.not_mem_nil,or_false,not_or];exact ⟨Nat.ne_of_lt (Nat.lt_succ_self _),Nat.ne_of_gt hlS⟩) val hval (items.size - 0) 0 _ (by (first | lia | omega)) (Nat.zero_le _) ⟨⟨_,Heap.get?_push_size _ rfl,rfl,rfl⟩,(hl1.push _)⟩ ?hS0 ?hR
        case hS0 =>
          have hget:(hp1.push { cls:=.type "list_iterator", data:=.fields #[.ref l,.int 0 0] }).get? s.heap.objs.size
              = some { cls:=.type "set", dict:=none,data:=.set #[] 0 (.fresh 0 0 (!byTx w)) }:=Heap.get?_push_of_some _ hS
          show SetB (!byTx w) _ _ 0
          exact ⟨_,#[],0,hget,⟨rfl,rfl,rfl⟩,rfl,⟨rfl,fun e he=>by simp at he⟩,by decide⟩
        case hR =>
          intro s' hm hS'
          obtain ⟨h',g',d',tk',os'⟩:=s'
          have eg:g' = s.gens:=hm.gens
          have ed:d' = s.drawn:=hm.drawn
          have eo:os' = s.os:=hm.os
          subst eg;subst ed;subst eo
          show wpAny _ _ _ _ _ _
          refine wpAny_pure ?_
          show wpAny _ _ (ret Value.none) _ _ _
          refine wpAny_pure ⟨rfl,h',tk',rfl,hS',fun b o hb e=>?_⟩
          have hb1:b ≠ s.heap.objs.size:=Nat.ne_of_lt hb
          have hb2:b ≠ hp1.objs.size:=by rw [hz];exact Nat.ne_of_lt (Nat.lt_succ_of_lt hb)
          exact hm.heap b o (by simp only [List.mem_cons,List.mem_singleton,List.not_mem_nil,or_false,not_or];exact ⟨hb1,hb2⟩) (Heap.get?_push_of_some _ (hold _ _ e))
      · cases r₂ with
        | error e=>exact hr₂
        | ok fl₂ =>
          cases fl₂ with
          | ret r =>
            obtain ⟨rfl,h',tk,rfl,hS',hk'⟩:=hr₂
            repeat (any_goals (first | assumption | wp_step))
            exact h _ _ hS' hk'
          | _=>exact hr₂.elim
    | _=>exact hr.elim
end
end Tr
namespace Tr
open PySem PySem.Spec PyProof.Rows L2
theorem entry_set_iter8:entryFor table "set.__iter__" = some Builtin.«frozenset.__iter__» :=
  entryFor_alias (id' := "frozenset.__iter__") (by kernel_rfl) rfl (by decide +kernel) (by kernel_rfl)
theorem slot_set_iterator_next:Slot "set_iterator" "__next__" "set_iterator.__next__" :=
  .of (owner := "set_iterator") (n := "__next__") (by rw [typeLookup_type,builtinLookup_eq_fast];kernel_rfl) (by decide +kernel) (by decide +kernel) (by decide +kernel)
    (by first | exact .inl (by decide +kernel) | exact .inr (by decide +kernel)) (by rw [isSubtype_type];kernel_rfl)
theorem entry_set_iterator_next:entryFor table "set_iterator.__next__" = some Builtin.«set_iterator.__next__»:=entryFor_of_tree (by kernel_rfl)
theorem args_set_iterator_next (a:Value):argsOk "set_iterator.__next__" ⟨[a],[]⟩:=by unfold argsOk;kernel_rfl
noncomputable def IsSetIter (h:Heap) (it a:Addr) (sl i n ep:Nat):Prop :=
  ∃ o,h.get? it = some o ∧ o.cls = .type "set_iterator" ∧ o.data = .fields #[.int (sl:Int) 0,.int (i:Int) 0,.ref a,.int (n:Int) 0,.int (ep:Int) 0]
noncomputable def SetE (led:Bool) (h:Heap) (a:Addr) (m:Nat) (es:Array (Int × Value)) (ep:Nat):Prop :=
  ∃ o,h.get? a = some o ∧ o.ExactSet ∧ o.data = .set es ep (tabOf led (bitsL m)) ∧ EL (bitsL m) es.toList ∧ m < 256
theorem SetB.e {led:Bool} {h:Heap} {a:Addr} {m:Nat} (x:SetB led h a m):∃ es ep,SetE led h a m es ep:=let ⟨o,es,ep,r⟩:=x;⟨es,ep,o,r⟩
theorem SetE.typeIs {led:Bool} {s:Shared} {a:Addr} {m:Nat} {es:Array (Int × Value)} {ep:Nat} (x:SetE led s.heap a m es ep):s.TypeIs (.ref a) "set" :=
  let ⟨o,ho,hc,_⟩:=x;⟨o,ho,hc.1⟩
theorem SetE.fits {led:Bool} {h:Heap} {a:Addr} {m:Nat} {es:Array (Int × Value)} {ep:Nat} (x:SetE led h a m es ep):(tabOf led (bitsL m)).fits es.size = true:=by
  obtain ⟨o,_,_,_,hel,hm⟩:=x
  rw [hel.size];exact (bits8_of hm).2.1 led
theorem SetE.at {led:Bool} {h h':Heap} {a:Addr} {m:Nat} {es:Array (Int × Value)} {ep:Nat} (x:SetE led h a m es ep) (k:∀ o,h.get? a = some o → h'.get? a = some o):SetE led h' a m es ep :=
  let ⟨o,ho,r⟩:=x;⟨o,k o ho,r⟩
theorem IsSetIter.at {h h':Heap} {it a:Addr} {sl i n ep:Nat} (x:IsSetIter h it a sl i n ep) (k:∀ o,h.get? it = some o → h'.get? it = some o):IsSetIter h' it a sl i n ep :=
  let ⟨o,ho,r⟩:=x;⟨o,k o ho,r⟩
theorem IsSetIter.typeIs {s:Shared} {it a:Addr} {sl i n ep:Nat} (x:IsSetIter s.heap it a sl i n ep):s.TypeIs (.ref it) "set_iterator" := let ⟨o,ho,hc,_⟩:=x;⟨o,ho,hc⟩
noncomputable def walkL (w:World) (a:Addr) (es:Array (Int × Value)) (ep:Nat):List Value :=
  (if byTx w then pickOrder (w.params.setOrder a ep) es else es).toList.map (·.2)
section
variable {prog:Program} {w:World} {A:Around} {E:Value → Shared → Prop} {s:Shared}
theorem pyIter_set8 {a:Addr} {m:Nat} {es:Array (Int × Value)} {ep:Nat} {Q:Value → Shared → Prop} (hS:SetE (!byTx w) s.heap a m es ep)
    (hQ:Q (.ref s.heap.objs.size) { s with heap:=s.heap.push { cls:=.type "set_iterator", data:=.fields #[.int 0 0,.int 0 0,.ref a,.int es.size 0,.int ep 0] } }) :
    wpAny (model prog w) A (pyIter (.ref a)) Q E s:=by
  have hT:=hS.typeIs
  have hf:=hS.fits
  obtain ⟨o,ho,hex,hd,hel,hm⟩:=hS
  refine wpAny_pyIter_slot hT F.slot_set_iter (wpAny_call_entry F.slot_set_iter hT entry_set_iter8 ?_ (F.args_set_iter_1 _))
  unfold Builtin.«frozenset.__iter__»
  refine wpAny_bind (m:=Builtin.Frozenset.slot0 "__iter__" ⟨[.ref a],[]⟩) (wpAny_pure ?_)
  refine wpAny_bind ?_
  unfold Builtin.Frozenset.sizeOf setEntries
  refine wpAny_bind (wpAny_bind (wpAny_setState_of ho hd hf (wpAny_pure (wpAny_pure ?_))))
  refine wpAny_bind ?_
  unfold setDrawn
  refine wpAny_bind (wpAny_setState_of ho hd hf ?_)
  dsimp only
  unfold setsByText
  refine wpAny_bind (wpAny_bind (wpAny_askSetting (wpAny_pure (wpAny_pure ?_))))
  rw [if_neg (by
    show ¬ ((!_ && (!true && _)) = true)
    simp)]
  refine wpAny_bind (wpAny_pure ?_)
  unfold setEpoch
  refine wpAny_bind (wpAny_bind (wpAny_setState_of ho hd hf (wpAny_pure ?_)))
  exact wpAny_bind (wpAny_newObj_type (wpAny_pure ⟨_,rfl, "set_iterator", _,⟨_,Heap.get?_push_size _ rfl,rfl⟩,slot_set_iterator_next.lookup,hQ⟩))
end
end Tr
namespace Tr
open PySem PySem.Spec PyProof.Rows L2
theorem pick_go {α:Type} (f:Nat → Nat):∀ (n k:Nat) (l:List α) (out:Array α),l.length = n → ((pickOrder.go f n k l out).toList).Perm (out.toList ++ l)
  | 0,k,l,out,h=>by
    rw [List.length_eq_zero_iff.mp h]
    simp [pickOrder.go]
  | n + 1,k,l,out,h=>by
    have hlt:f k % l.length < l.length:=Nat.mod_lt _ (by (first | lia | omega))
    rw [pickOrder.go,List.getElem?_eq_getElem hlt]
    refine (pick_go f n (k + 1) _ _ (by rw [List.length_eraseIdx];simp [hlt];(first | lia | omega))).trans ?_
    rw [Array.toList_push,List.append_assoc]
    refine List.Perm.append_left _ ?_
    rw [List.eraseIdx_eq_take_drop_succ]
    have e:=List.take_append_drop (f k % l.length) l
    rw [List.drop_eq_getElem_cons hlt] at e
    have p:=List.perm_middle (l₁:=l.take (f k % l.length)) (a:=l[f k % l.length]) (l₂:=l.drop (f k % l.length + 1))
    rw [e] at p
    exact p.symm
theorem pick_perm {α:Type} (f:Nat → Nat) (xs:Array α):(pickOrder f xs).toList.Perm xs.toList:=by
  unfold pickOrder
  exact pick_go f xs.size 0 xs.toList #[] rfl
theorem walkL_perm (w:World) (a:Addr) (es:Array (Int × Value)) (ep:Nat):(walkL w a es ep).Perm (es.toList.map (·.2)):=by
  unfold walkL
  split
  · exact (pick_perm _ es).map _
  · exact List.Perm.refl _
noncomputable def slotAt (w:World) (m i:Nat):Nat:=if byTx w then 0 else if i = 0 then 0 else (bitsL m).getD (i - 1) 0 + 1
section
variable {prog:Program} {w:World} {A:Around} {E:Value → Shared → Prop} {s:Shared}
theorem setNext8 {a:Addr} {m i:Nat} {es:Array (Int × Value)} {ep:Nat} {Q:Option (Value × Nat) → Shared → Prop} (hS:SetE (!byTx w) s.heap a m es ep) (hi:i ≤ es.size)
    (h:Q ((walkL w a es ep)[i]?.map fun v=>(v,slotAt w m (i + 1))) s) :
    wpAny (model prog w) A (setNext a (slotAt w m i) i ep) Q E s:=by
  have hf:=hS.fits
  obtain ⟨o,ho,hex,hd,hel,hm⟩:=hS
  unfold setNext
  refine wpAny_bind (wpAny_setState_of ho hd hf ?_)
  dsimp only
  unfold setsByText
  refine wpAny_bind (wpAny_bind (wpAny_askSetting (wpAny_pure ?_)))
  show wpAny _ _ (if byTx w = true then _ else _) _ _ _
  cases hb:byTx w with
  | true =>
    rw [if_pos rfl,if_neg (by simp)]
    refine wpAny_bind ?_
    unfold setWalk
    refine wpAny_bind (wpAny_setState_of ho hd hf ?_)
    dsimp only
    unfold setsByText
    refine wpAny_bind (wpAny_bind (wpAny_askSetting (wpAny_pure ?_)))
    show wpAny _ _ (if byTx w = true then _ else _) _ _ _
    rw [hb,if_pos rfl]
    refine wpAny_bind (wpAny_askSetting (wpAny_pure (wpAny_pure ?_)))
    unfold walkL slotAt at h
    rw [hb] at h
    simp only [↓reduceIte] at h
    unfold slotAt
    rw [hb]
    simp only [↓reduceIte]
    have e:((pickOrder (w.params.setOrder a ep) es).toList.map (·.2))[i]?.map (fun v=>(v,0)) = ((pickOrder (w.params.setOrder a ep) es)[i]?).map fun e=>(e.2,0):=by
      rw [List.getElem?_map,Array.getElem?_toList]
      cases (pickOrder (w.params.setOrder a ep) es)[i]? <;> rfl
    rw [e] at h
    exact h
  | false =>
    rw [if_neg (by simp)]
    rw [if_neg (by show ¬ ((!true && _) = true);simp)]
    refine wpAny_bind ?_
    show wpAny _ _ (if (!true && _) = true then _ else _) _ _ _
    rw [if_neg (by simp)]
    refine wpAny_pure (wpAny_pure ?_)
    have hsl:slotAt w m i = if i = 0 then 0 else (bitsL m).getD (i - 1) 0 + 1:=by unfold slotAt;rw [hb];rfl
    have hbl:SetTable.below (tabOf (!false) (bitsL m)).place (slotAt w m i) = i:=by
      rw [hsl];exact (bits8_of hm).2.2.2 i (by rw [← hel.size];exact hi)
    rw [hbl]
    have hz:=hel.size
    have hw:walkL w a es ep = es.toList.map (·.2):=by unfold walkL;rw [hb];rfl
    rw [hw] at h
    have hpl:(tabOf (!false) (bitsL m)).place[i]? = (bitsL m)[i]?:=by show (bitsL m).toArray[i]? = _;simp
    rcases Nat.lt_or_ge i es.size with c | c
    · have c':i < (bitsL m).length:=by (first | lia | omega)
      rw [hpl,Array.getElem?_eq_getElem c,List.getElem?_eq_getElem c']
      have e1:slotAt w m (i + 1) = (bitsL m)[i] + 1:=by
        unfold slotAt
        rw [hb]
        simp only [Bool.false_eq_true,↓reduceIte,Nat.add_eq_zero_iff,Nat.succ_ne_self,and_false,Nat.add_sub_cancel]
        rw [List.getD_eq_getElem?_getD,List.getElem?_eq_getElem c']
        rfl
      have e2:((es.toList.map (·.2))[i]?.map fun v=>(v,slotAt w m (i + 1))) = some (es[i].2,(bitsL m)[i] + 1):=by
        rw [List.getElem?_map,Array.getElem?_toList,Array.getElem?_eq_getElem c,e1]
        rfl
      rw [e2] at h
      exact h
    · have e2:((es.toList.map (·.2))[i]?.map fun v=>(v,slotAt w m (i + 1))) = none:=by
        rw [List.getElem?_map,Array.getElem?_toList,Array.getElem?_eq_none c]
        rfl
      rw [e2] at h
      rw [Array.getElem?_eq_none c]
      exact h
end
end Tr
namespace Tr
open PySem PySem.Spec PyProof.Rows L2
theorem slot_set_iterator_iter:Slot "set_iterator" "__iter__" "set_iterator.__iter__" :=
  .of (owner := "set_iterator") (n := "__iter__") (by rw [typeLookup_type,builtinLookup_eq_fast];kernel_rfl) (by decide +kernel) (by decide +kernel) (by decide +kernel)
    (by first | exact .inl (by decide +kernel) | exact .inr (by decide +kernel)) (by rw [isSubtype_type];kernel_rfl)
theorem entry_set_iterator_iter:entryFor table "set_iterator.__iter__" = some Builtin.«dict_keyiterator.__iter__» :=
  entryFor_alias (id' := "dict_keyiterator.__iter__") (by kernel_rfl) rfl (by decide +kernel) (by kernel_rfl)
theorem args_set_iterator_iter (a:Value):argsOk "set_iterator.__iter__" ⟨[a],[]⟩:=by unfold argsOk;kernel_rfl
section
variable {prog:Program} {w:World} {A:Around} {E:Value → Shared → Prop} {s:Shared}
theorem IsSetIter.put {h:Heap} {it a:Addr} {sl i n ep:Nat} (x:IsSetIter h it a sl i n ep) (sl' i':Nat) :
    IsSetIter ((h.update it (Obj.mapFields (·.setIfInBounds 0 (rawInt (sl':Int))))).update it (Obj.mapFields (·.setIfInBounds 1 (rawInt (i':Int))))) it a sl' i' n ep:=by
  obtain ⟨o,ho,hc,hd⟩:=x
  have h1:=Heap.get?_update_self (Obj.mapFields (·.setIfInBounds 0 (rawInt (sl':Int)))) ho (Obj.isFreed_of_fields (Obj.data_mapFields hd _))
  have d1:=Obj.data_mapFields hd (·.setIfInBounds 0 (rawInt (sl':Int)))
  refine ⟨_,Heap.get?_update_self _ h1 (Obj.isFreed_of_fields (Obj.data_mapFields d1 _)),(Obj.cls_mapFields ..).trans ((Obj.cls_mapFields ..).trans hc),?_⟩
  rw [Obj.data_mapFields d1]
  simp [rawInt]
theorem walkL_length (w:World) (a:Addr) (es:Array (Int × Value)) (ep:Nat):(walkL w a es ep).length = es.size:=by
  rw [(walkL_perm w a es ep).length_eq];simp
theorem Walks.set8 (hh:A.handled = none) (I a:Addr) (hne:a ≠ I) (m:Nat) (es:Array (Int × Value)) (ep:Nat) :
    Walks prog w A I [I,a] [I] es.size (fun i v=>(walkL w a es ep)[i]? = some v) (fun i h=>IsSetIter h I a (slotAt w m i) i es.size ep ∧ SetE (!byTx w) h a m es ep) where
  sub:=fun b hb=>by simp at hb;simp [hb]
  frame:=fun _ _ _ st hk=>⟨st.1.at fun o e=>hk I (by simp) o e,st.2.at fun o e=>hk a (by simp) o e⟩
  item:=fun i s Q E hi st hQ=>by
    obtain ⟨hit,hS⟩:=st
    obtain ⟨o,ho,hc,hd⟩:=id hit
    have hf:=hS.fits
    obtain ⟨os,hos,hexs,hds,_⟩:=id hS
    unfold pyNext
    refine wpAny_bind (wpAny_attempt (wpAny_callSpecial?_slot (name:=Str.ofString "__next__") hit.typeIs slot_set_iterator_next
      (wpAny_call_entry slot_set_iterator_next hit.typeIs entry_set_iterator_next ?_ (args_set_iterator_next _))))
    unfold Builtin.«set_iterator.__next__»
    refine wpAny_bind (m:=slotArgs "__next__" 0 ⟨[.ref I],[]⟩) (wpAny_pure ?_)
    refine wpAny_bind (wpAny_fieldsOf ho hd ?_)
    dsimp only
    unfold setEntries
    refine wpAny_bind (wpAny_bind (wpAny_setState_of hos hds hf (wpAny_pure ?_)))
    dsimp only
    rw [if_neg (by simp)]
    refine wpAny_bind ?_
    rw [show (Int.toNat ((slotAt w m i:Nat):Int)) = slotAt w m i from Int.toNat_natCast _,show (Int.toNat ((i:Nat):Int)) = i from Int.toNat_natCast _,show (Int.toNat ((ep:Nat):Int)) = ep from Int.toNat_natCast _]
    refine setNext8 hS (Nat.le_of_lt hi) ?_
    have hlt:i < (walkL w a es ep).length:=by rw [walkL_length];exact hi
    rw [List.getElem?_eq_getElem hlt]
    show wpAny _ _ (setField (.ref I) 0 (rawInt ((slotAt w m (i + 1):Nat):Int)) >>= _) _ _ s
    refine wpAny_bind (wpAny_setField ho hd (by simp) ?_)
    have h1:=Heap.get?_update_self (Obj.mapFields (·.setIfInBounds 0 (rawInt ((slotAt w m (i + 1):Nat):Int)))) ho (Obj.isFreed_of_fields (Obj.data_mapFields hd _))
    refine wpAny_bind (wpAny_setField h1 (Obj.data_mapFields hd _) (by simp) ?_)
    refine wpAny_pure ⟨_,rfl,wpAny_pure (hQ _ _ s.toks (List.getElem?_eq_getElem hlt) ⟨?_,?_⟩ fun b o' hb e=>?_)⟩
    · exact hit.put (slotAt w m (i + 1)) (i + 1)
    · refine hS.at fun o' e=>?_
      rw [Heap.get?_update_other _ _ (fun h=>hne h.symm),Heap.get?_update_other _ _ (fun h=>hne h.symm)]
      exact e
    · have hb':I ≠ b:=fun h=>hb (by simp [h])
      show Heap.get? _ b = some o'
      rw [Heap.get?_update_other _ _ hb',Heap.get?_update_other _ _ hb']
      exact e
  done:=fun s Q E st hQ=>by
    obtain ⟨hit,hS⟩:=st
    obtain ⟨o,ho,hc,hd⟩:=id hit
    have hf:=hS.fits
    obtain ⟨os,hos,hexs,hds,_⟩:=id hS
    unfold pyNext
    refine wpAny_bind (wpAny_attempt (wpAny_callSpecial?_slot (name:=Str.ofString "__next__") hit.typeIs slot_set_iterator_next
      (wpAny_call_entry slot_set_iterator_next hit.typeIs entry_set_iterator_next ?_ (args_set_iterator_next _))))
    unfold Builtin.«set_iterator.__next__»
    refine wpAny_bind (m:=slotArgs "__next__" 0 ⟨[.ref I],[]⟩) (wpAny_pure ?_)
    refine wpAny_bind (wpAny_fieldsOf ho hd ?_)
    dsimp only
    unfold setEntries
    refine wpAny_bind (wpAny_bind (wpAny_setState_of hos hds hf (wpAny_pure ?_)))
    dsimp only
    rw [if_neg (by simp)]
    refine wpAny_bind ?_
    rw [show (Int.toNat ((slotAt w m es.size:Nat):Int)) = slotAt w m es.size from Int.toNat_natCast _,show (Int.toNat ((es.size:Nat):Int)) = es.size from Int.toNat_natCast _,show (Int.toNat ((ep:Nat):Int)) = ep from Int.toNat_natCast _]
    refine setNext8 hS (Nat.le_refl _) ?_
    rw [List.getElem?_eq_none (by rw [walkL_length];exact Nat.le_refl _)]
    show wpAny _ _ (setField (.ref I) 2 .none >>= _) _ _ s
    refine wpAny_bind (wpAny_setField ho hd (by simp) ?_)
    show wpAny _ _ (newExc (.type "StopIteration") [] >>= _) _ _ _
    refine wpAny_bind ?_
    simp only [newExc,newTuple]
    refine wpAny_bind (wpAny_newObj_type ?_ (by size_fits))
    refine wpAny_bind (m:=firstArgMember _ _) (wpAny_of_eq (a:=Value.none) (by first | rfl | (simp only [firstArgMember];rfl)) ?_)
    refine wpAny_newObj_type ?_ (by size_fits)
    simp only [raiseNew]
    refine wpAny_bind (wpAny_handled ?_)
    rw [show A.in1.handled = none from hh]
    refine wpAny_bind (wpAny_pure (wpAny_throw ?_))
    refine wpAny_bind (wpAny_isInstance (T := "StopIteration") (b:=true) ⟨_,Heap.get?_push_size _ rfl,rfl⟩ isSubtype_stop ?_)
    refine wpAny_pure (hQ _ s.toks fun b o' hb e=>?_)
    exact ((((Heap.SameBut.update s.heap I _).extBut).push _).push _) b o' (fun h=>hb (by simp [h])) e
  self:=fun i s Q E st hQ=>by
    have hT:=st.1.typeIs
    refine wpAny_pyIter_slot hT slot_set_iterator_iter (wpAny_call_entry slot_set_iterator_iter hT entry_set_iterator_iter ?_ (args_set_iterator_iter _))
    show wpAny _ _ (ret (.ref I)) _ _ s
    exact wpAny_pure ⟨_,rfl, "set_iterator", _,hT,slot_set_iterator_next.lookup,hQ⟩
set_option maxHeartbeats 1600000 in
theorem collect_set8 {a:Addr} {m:Nat} {es:Array (Int × Value)} {ep:Nat} {Q:List Value → Shared → Prop} (hh:A.handled = none) (hS:SetE (!byTx w) s.heap a m es ep)
    (hQ:∀ h' tk,s.heap.objs.size ≤ h'.objs.size → (∀ b o,b < s.heap.objs.size → s.heap.get? b = some o → h'.get? b = some o) → Q (walkL w a es ep) { s with heap:=h',toks:=tk }) :
    wpAny (model prog w) A (collect (.ref a)) Q E s:=by
  have hz8:es.size ≤ 8:=by
    obtain ⟨o,_,_,_,hel,hm⟩:=hS
    rw [hel.size];exact (bits8_of hm).1
  have hT:=hS.typeIs
  have hlt:a < s.heap.objs.size:=by obtain ⟨o,ho,_⟩:=hS;exact Heap.lt_size ho
  unfold collect
  refine wpAny_bind (wpAny_runValue (codeAny_builtin PySem.F.entry_proto_collect ?_))
  rw [Around.under_plainId PySem.F.plain_proto_collect _]
  show wpAny _ A.in1 (newList [] >>= fun l=>again (.builtin "list.__iadd__" ⟨[l,.ref a],[]⟩)) _ _ s
  refine wpAny_bind (wpAny_newObj_type ?_)
  refine wpAny_pure ⟨plainId_quiet PySem.F.plain_list_iadd _,codeAny_builtin PySem.F.entry_list_iadd ?_⟩
  rw [Around.under_plainId PySem.F.plain_list_iadd _]
  have hS₁:(s.heap.push { cls:=.type "list", data:=.seq ([]:List Value).toArray }).get? s.heap.objs.size = some { cls:=.type "list", data:=.seq ([]:List Value).toArray }:=Heap.get?_push_size _ rfl
  have hE₁:SetE (!byTx w) (s.heap.push { cls:=.type "list", data:=.seq ([]:List Value).toArray }) a m es ep:=hS.at fun o e=>Heap.get?_push_of_some _ e
  have hsz₁:(s.heap.push { cls:=.type "list", data:=.seq ([]:List Value).toArray }).objs.size = s.heap.objs.size + 1:=size_push' _ _
  have hk₁:∀ b o,s.heap.get? b = some o → (s.heap.push { cls:=.type "list", data:=.seq ([]:List Value).toArray }).get? b = some o:=fun b o e=>Heap.get?_push_of_some _ e
  generalize s.heap.push { cls:=.type "list", data:=.seq ([]:List Value).toArray } = H1 at *
  have h1:Builtin.List.listSameRef (.ref s.heap.objs.size) (.ref a) = false:=by simp [Builtin.List.listSameRef,Nat.ne_of_gt hlt]
  show wpAny _ A.in1 (Builtin.List.listExtendWith (.ref s.heap.objs.size) (.ref a) (.ref s.heap.objs.size)) _ _ _
  unfold Builtin.List.listExtendWith
  have hT1:Shared.TypeIs { s with heap:=H1 } (.ref a) "set" := hE₁.typeIs (s:={ s with heap:=H1 })
  refine wpAny_bind (wpAny_typeOf hT1 ?_)
  rw [if_neg (by rw [h1];decide)]
  refine wpAny_bind (pyIter_set8 (s:={ s with heap:=H1 }) hE₁ ?_)
  show wpAny _ _ _ _ _ { s with heap:=H1.push { cls:=.type "set_iterator", data:=.fields #[.int 0 0,.int 0 0,.ref a,.int es.size 0,.int ep 0] } }
  have hI2:(H1.push { cls:=.type "set_iterator", data:=.fields #[.int 0 0,.int 0 0,.ref a,.int es.size 0,.int ep 0] }).get? H1.objs.size = some { cls:=.type "set_iterator", data:=.fields #[.int 0 0,.int 0 0,.ref a,.int es.size 0,.int ep 0] }:=Heap.get?_push_size _ rfl
  have hk₂:∀ b o,H1.get? b = some o → (H1.push { cls:=.type "set_iterator", data:=.fields #[.int 0 0,.int 0 0,.ref a,.int es.size 0,.int ep 0] }).get? b = some o:=fun b o e=>Heap.get?_push_of_some _ e
  generalize H1.push { cls:=.type "set_iterator", data:=.fields #[.int 0 0,.int 0 0,.ref a,.int es.size 0,.int ep 0] } = H2 at *
  have hE₂:SetE (!byTx w) H2 a m es ep:=hE₁.at fun o e=>hk₂ _ o e
  have hT2:Shared.TypeIs { s with heap:=H2 } (.ref a) "set" := hE₂.typeIs (s:={ s with heap:=H2 })
  refine wpAny_bind (wpAny_holding ?_)
  unfold Builtin.List.listLengthHint
  refine wpAny_bind (wpAny_specialOf hT2 PySem.F.slot_set_len.lookup ?_)
  (generalize hid:("set.__len__" : String) = id0;(fail_if_success (clear hid id0));wp_delta;rw [show splitId id0 = some ("set", "__len__") from by subst hid;decide +kernel];subst hid)
  refine wpAny_bind (wpAny_isInstance (b:=true) hT2 (by rw [isSubtype_type];kernel_rfl) ?_)
  rw [if_neg (by decide)]
  show wpAny _ A.in1 (typeOf (Value.ref a) >>= _) _ _ _
  refine wpAny_bind (wpAny_typeOf hT2 ?_)
  refine wpAny_pure ?_
  rw [if_pos (by decide +kernel)]
  refine wpAny_bind (wpAny_rule ?_)
  have hL2:H2.get? s.heap.objs.size = some (seqObj "list" #[] 0):=hk₂ _ _ hS₁
  unfold Builtin.List.listTouch
  refine wpAny_bind ?_
  refine wpAny_bind (listUpdate_at (s:={ s with heap:=H2 }) hL2 rfl ?_)
  have hL3:=get?_update_seq hL2 (·.push Value.none)
  refine listUpdate_at (s:={ s with heap:=H2.update s.heap.objs.size (Obj.mapSeq (·.push Value.none)) }) hL3 rfl ?_
  have hL4:∃ c,((H2.update s.heap.objs.size (Obj.mapSeq (·.push Value.none))).update s.heap.objs.size (Obj.mapSeq (·.pop))).get? s.heap.objs.size = some (seqObj "list" #[] c):=⟨_,(get?_update_seq hL3 (·.pop)).trans (by rw [show ((#[]:Array Value).push Value.none).pop = #[] from rfl])⟩
  obtain ⟨c4,hL4⟩:=hL4
  have hk₃:∀ b o,b ≠ s.heap.objs.size → H2.get? b = some o → ((H2.update s.heap.objs.size (Obj.mapSeq (·.push Value.none))).update s.heap.objs.size (Obj.mapSeq (·.pop))).get? b = some o:=fun b o hb e=>by
    rw [Heap.get?_update_other _ _ (fun h=>hb h.symm),Heap.get?_update_other _ _ (fun h=>hb h.symm)];exact e
  dsimp only
  generalize (H2.update s.heap.objs.size (Obj.mapSeq (·.push Value.none))).update s.heap.objs.size (Obj.mapSeq (·.pop)) = H3 at *
  have hIs:IsSetIter H3 H1.objs.size a (slotAt w m 0) 0 es.size ep:=by
    refine ⟨_,hk₃ _ _ (by rw [hsz₁];exact Nat.succ_ne_self _) hI2,rfl,?_⟩
    have:slotAt w m 0 = 0:=by unfold slotAt;split <;> rfl
    rw [this];rfl
  have hE₃:SetE (!byTx w) H3 a m es ep:=hE₂.at fun o e=>hk₃ _ o (Nat.ne_of_lt hlt) e
  have W:=(Walks.set8 (prog:=prog) (w:=w) (A:=A.in1) hh H1.objs.size a (by rw [hsz₁];exact Nat.ne_of_lt (Nat.lt_succ_of_lt hlt)) m es ep).toS
  refine wpAny_pure ⟨plainId_quiet PySem.F.plain_extend_loop _,codeAny_extend_loopS W (by rw [sizeLine_eq];(first | lia | omega)) s.heap.objs.size ?_ _ es.size 0 _ #[] c4 (by (first | lia | omega)) (Nat.zero_le _) ⟨hIs,hE₃⟩ hL4 (ItemsOf.nil _) fun s' acc' c' hm hS' hacc=>?_⟩
  · rw [hsz₁]
    simp only [List.mem_cons,List.not_mem_nil,or_false,not_or]
    exact ⟨Nat.ne_of_lt (Nat.lt_succ_self _),Nat.ne_of_gt hlt⟩
  · show wpAny _ A (load s.heap.objs.size >>= _) _ _ s'
    refine wpAny_bind (wpAny_load hS' ?_)
    obtain ⟨h',g',d',tk',os'⟩:=s'
    have eg:g' = s.gens:=hm.gens
    have ed:d' = s.drawn:=hm.drawn
    have eo:os' = s.os:=hm.os
    subst eg;subst ed;subst eo
    have hv:acc'.toList = walkL w a es ep:=by
      apply List.ext_getElem?
      intro i
      rcases Nat.lt_or_ge i es.size with c | c
      · have c':i < acc'.size:=by rw [hacc.1];exact c
        have:=hacc.2 i acc'[i] (Array.getElem?_eq_getElem c')
        rw [Array.getElem?_toList,Array.getElem?_eq_getElem c',this]
      · rw [List.getElem?_eq_none (by rw [Array.length_toList,hacc.1];exact c),List.getElem?_eq_none (by rw [walkL_length];exact c)]
    refine wpAny_pure ?_
    rw [hv]
    have hge:s.heap.objs.size ≤ h'.objs.size:=Nat.le_of_lt (Heap.lt_size hS')
    refine hQ h' tk' hge fun b o hb e=>?_
    refine hm.heap b o ?_ (hk₃ b o (Nat.ne_of_lt hb) (hk₂ b o (hk₁ b o e)))
    rw [hsz₁]
    simp only [List.mem_cons,List.not_mem_nil,or_false,not_or]
    exact ⟨Nat.ne_of_lt hb,Nat.ne_of_lt (Nat.lt_succ_of_lt hb)⟩
end
end Tr
namespace Tr
open PySem PySem.Spec PyProof.Rows L2
theorem bits_sorted (m:Nat):((bitsL m).map fun i:Nat=>(i:Int)).Pairwise (· ≤ ·):=by
  rw [List.pairwise_map]
  unfold bitsL
  refine List.Pairwise.filter _ ?_
  exact List.Pairwise.imp (fun h=>by (first | lia | omega)) List.pairwise_lt_range
theorem perm_sorted {a b:List Int} (hp:a.Perm b) (ha:a.Pairwise (· ≤ ·)) (hb:b.Pairwise (· ≤ ·)):a = b :=
  hp.eq_of_pairwise (fun x y _ _ h1 h2=>Int.le_antisymm h1 h2) ha hb
theorem mk8_bit (val:Nat → Nat):∀ n i,(mk8 val n).testBit i = ((List.range n).any fun j=>decide (val j = i))
  | 0,i=>by simp [mk8]
  | n + 1,i=>by
    rw [mk8,Nat.testBit_or,mk8_bit val n i,Nat.testBit_two_pow,List.range_succ,List.any_append]
    simp
section
variable {prog:Program} {w:World} {A:Around} {E:Value → Shared → Prop} {s:Shared}
set_option maxHeartbeats 1600000 in
theorem sorted_set8 {a:Addr} {m:Nat} {Q:Value → Shared → Prop} (hh:A.handled = none) (hS:SetB (!byTx w) s.heap a m)
    (h:∀ h' tk l its c,(∀ b o,b < s.heap.objs.size → s.heap.get? b = some o → h'.get? b = some o) → s.heap.objs.size ≤ l → h'.get? l = some (seqObj "list" its c) → IntsAre its.toList ((bitsL m).map fun i:Nat=>(i:Int)) → Q (.ref l) { s with heap:=h',toks:=tk }) :
    wpAny (model prog w) A (call (.builtin "sorted") [.ref a]) Q E s:=by
  obtain ⟨es,ep,hE⟩:=hS.e
  have hel:EL (bitsL m) es.toList:=by obtain ⟨o,_,_,_,q,_⟩:=hE;exact q
  have hm:m < 256:=by obtain ⟨o,_,_,_,_,q⟩:=hE;exact q
  have hI:IntsAre (walkL w a es ep) ((walkL w a es ep).map numOf):=intsAre_map _ fun v hv=>by
    have hv':=(walkL_perm w a es ep).mem_iff.mp hv
    obtain ⟨e,he,rfl⟩:=List.mem_map.mp hv'
    obtain ⟨tk,e2⟩:=hel.2 e he
    exact ⟨_,_,e2⟩
  have hP:((walkL w a es ep).map numOf).Perm ((bitsL m).map fun i:Nat=>(i:Int)):=by
    refine ((walkL_perm w a es ep).map numOf).trans ?_
    rw [List.map_map,← hel.1]
    refine List.Perm.of_eq (List.map_congr_left fun e he=>?_)
    obtain ⟨tk,e2⟩:=hel.2 e he
    show numOf e.2 = e.1
    rw [e2];rfl
  have h64:(walkL w a es ep).length < 64:=by
    rw [walkL_length,hel.size]
    have:=(bits8_of hm).1
    (first | lia | omega)
  refine Calls.call_function_entry kind_sorted plain_sorted entry_sorted (args_sorted1 _) ?_
  unfold Builtin.«sorted»
  refine wpAny_bind (m:=checkCount "sorted" 1 1 _) (wpAny_pure ?_)
  refine wpAny_bind (collect_set8 (A:=A.in1) hh hE fun H1 tk hsz hk1=>?_)
  refine wpAny_bind (wpAny_newList ?_ (by rw [sizeLine_eq];(first | lia | omega)))
  have hoL:(H1.push (seqObj "list" (walkL w a es ep).toArray 0)).get? H1.objs.size = some (seqObj "list" (walkL w a es ep).toArray 0):=Heap.get?_push_size _ rfl
  refine wpAny_bind (wpAny_holding (wpAny_call_entry slot_list_sort ⟨_,hoL,rfl⟩ entry_list_sort (list_sort_tree (s:={ s with heap:=H1.push (seqObj "list" (walkL w a es ep).toArray 0),toks:=tk }) hoL hI h64 fun out ns' a1 a2 a3=>⟨_,rfl,?_⟩) (args_list_sort _)))
  obtain ⟨c,hc⟩:=sortedHeap_at (out:=out) (vs:=walkL w a es ep) hoL
  have e:ns' = (bitsL m).map fun i:Nat=>(i:Int):=perm_sorted (a2.trans hP) a3 (bits_sorted m)
  subst e
  refine wpAny_pure ⟨_,rfl,h _ _ _ out c (fun b o hb q=>?_) hsz hc a1⟩
  have hb1:b < H1.objs.size:=Nat.lt_of_lt_of_le hb hsz
  rw [sortedHeap_old (Nat.ne_of_lt hb1) (by rw [size_push'];exact Nat.lt_succ_of_lt hb1),Heap.get?_push_ne _ _ _ (Nat.ne_of_lt hb1)]
  exact hk1 b o hb q
end
end Tr
namespace Tr
open PySem PySem.Spec PyProof.Rows L2
section
variable {prog:Program} {w:World} {A:Around} {E:Value → Shared → Prop} {s:Shared} {l:Addr} {xs:Array (Int × Tok)}
theorem max_intTup {Q:Value → Shared → Prop} (hh:A.handled = none) (hl:s.heap.IsTuple l (intItems xs)) (hne:0 < xs.size)
    (h:∀ v h' tk,(intItems xs)[argBest (fun i j=>decide (numAt xs i > numAt xs j)) (xs.size - 1)]? = some v → (∀ b o,s.heap.get? b = some o → h'.get? b = some o) → Q v { s with heap:=h',toks:=tk }) :
    wpAny (model prog w) A (call (.builtin "max") [.ref l]) Q E s:=by
  have hlt:l < s.heap.objs.size:=by obtain ⟨_,e,_⟩:=hl;exact Heap.lt_size e
  refine call_max_walk (wpAny_pyIter_tuple hl ?_)
  refine ⟨_,[s.heap.objs.size,l],[s.heap.objs.size],_,_,_,_,rfl,Walks.tuple (A:=A.in1) hh s.heap.objs.size l (Nat.ne_of_lt hlt) (intItems xs),⟨⟨_,Heap.get?_push_size _ rfl,rfl,rfl⟩,hl.push _⟩,fun c hc=>?_,by simpa [intItems] using hne,CmpOf.ints_gt (numAt xs) (fun _ _=>intItems_at),fun v h' tk hP hk=>?_⟩
  · show c < (s.heap.push _).objs.size
    rw [Heap.size_push]
    rcases List.mem_cons.mp hc with rfl | hc
    · exact Nat.lt_succ_self _
    · rcases List.mem_cons.mp hc with rfl | hc
      · exact Nat.lt_succ_of_lt hlt
      · cases hc
  · refine h v h' tk (by simpa [intItems] using hP) fun b o e=>?_
    exact hk b o (fun hm => by rcases List.mem_cons.mp hm with e1 | hm
                               · exact absurd (e1 ▸ Heap.lt_size e) (Nat.lt_irrefl _)
                               · cases hm) (Heap.get?_push_of_some _ e)
theorem min_intTup {Q:Value → Shared → Prop} (hh:A.handled = none) (hl:s.heap.IsTuple l (intItems xs)) (hne:0 < xs.size)
    (h:∀ v h' tk,(intItems xs)[argBest (fun i j=>decide (numAt xs i < numAt xs j)) (xs.size - 1)]? = some v → (∀ b o,s.heap.get? b = some o → h'.get? b = some o) → Q v { s with heap:=h',toks:=tk }) :
    wpAny (model prog w) A (call (.builtin "min") [.ref l]) Q E s:=by
  have hlt:l < s.heap.objs.size:=by obtain ⟨_,e,_⟩:=hl;exact Heap.lt_size e
  refine call_min_walk (wpAny_pyIter_tuple hl ?_)
  refine ⟨_,[s.heap.objs.size,l],[s.heap.objs.size],_,_,_,_,rfl,Walks.tuple (A:=A.in1) hh s.heap.objs.size l (Nat.ne_of_lt hlt) (intItems xs),⟨⟨_,Heap.get?_push_size _ rfl,rfl,rfl⟩,hl.push _⟩,fun c hc=>?_,by simpa [intItems] using hne,CmpOf.ints_lt (numAt xs) (fun _ _=>intItems_at),fun v h' tk hP hk=>?_⟩
  · show c < (s.heap.push _).objs.size
    rw [Heap.size_push]
    rcases List.mem_cons.mp hc with rfl | hc
    · exact Nat.lt_succ_self _
    · rcases List.mem_cons.mp hc with rfl | hc
      · exact Nat.lt_succ_of_lt hlt
      · cases hc
  · refine h v h' tk (by simpa [intItems] using hP) fun b o e=>?_
    exact hk b o (fun hm => by rcases List.mem_cons.mp hm with e1 | hm
                               · exact absurd (e1 ▸ Heap.lt_size e) (Nat.lt_irrefl _)
                               · cases hm) (Heap.get?_push_of_some _ e)
end
theorem call_maxT {X:Cx} (hc:X.calm = true):CallR X (.builtin "max") (fun vs H Q=>∃ a n ns,vs = [.ref a] ∧ SqT X.K H a ((n :: ns).map V.int) ∧ Q (.int (maxI n ns)) H):=by
  intro pins s σ H vs us Q I rv h
  obtain ⟨a,n,ns,rfl,hq,q⟩:=h
  obtain ⟨u,rfl,ru⟩:=rv.one
  cases ru
  obtain ⟨its,r,pl,hz⟩:=I.tuple hq
  obtain ⟨xs,rfl,e⟩:=vals_ints r
  have hl:s.heap.IsTuple a (intItems xs.toArray):=by
    rwa [show (xs.map fun p=>Value.int p.1 p.2).toArray = intItems xs.toArray by simp [intItems]] at pl
  refine max_intTup (I.ok.hd hc) hl (by have:=congrArg List.length e;simp at this ⊢;(first | lia | omega)) fun v h' tk hv hk=>?_
  obtain ⟨t,rfl⟩:=intItems_at hv
  rw [best_max (numAt xs.toArray),List.size_toArray,maxTo_num e]
  exact ⟨.int (maxI n ns),H,I.kept (t':=tk) hk,⟨t,rfl⟩,q⟩
theorem call_minT {X:Cx} (hc:X.calm = true):CallR X (.builtin "min") (fun vs H Q=>∃ a n ns,vs = [.ref a] ∧ SqT X.K H a ((n :: ns).map V.int) ∧ Q (.int (minI n ns)) H):=by
  intro pins s σ H vs us Q I rv h
  obtain ⟨a,n,ns,rfl,hq,q⟩:=h
  obtain ⟨u,rfl,ru⟩:=rv.one
  cases ru
  obtain ⟨its,r,pl,hz⟩:=I.tuple hq
  obtain ⟨xs,rfl,e⟩:=vals_ints r
  have hl:s.heap.IsTuple a (intItems xs.toArray):=by
    rwa [show (xs.map fun p=>Value.int p.1 p.2).toArray = intItems xs.toArray by simp [intItems]] at pl
  refine min_intTup (I.ok.hd hc) hl (by have:=congrArg List.length e;simp at this ⊢;(first | lia | omega)) fun v h' tk hv hk=>?_
  obtain ⟨t,rfl⟩:=intItems_at hv
  rw [best_min (numAt xs.toArray),List.size_toArray,minTo_num e]
  exact ⟨.int (minI n ns),H,I.kept (t':=tk) hk,⟨t,rfl⟩,q⟩
noncomputable def SetX8 (w:World) (p:Addr) (m:Nat):HO:=.ext fun h=>SetB (!byTx w) h p m
noncomputable def m8 (ns:List Int):Nat:=mk8 (fun i=>(ns.getD i 0).toNat) ns.length
theorem bits_m8 {ns:List Int} (h:∀ n ∈ ns,0 ≤ n ∧ n < 8):bitsL (m8 ns) = (List.range 8).filter fun i:Nat=>ns.contains (i:Int):=by
  unfold bitsL
  apply List.filter_congr
  intro i hi
  unfold m8
  rw [mk8_bit,Bool.eq_iff_iff,List.any_eq_true,List.contains_iff_mem]
  constructor
  · rintro ⟨j,hj,e⟩
    have hj:=List.mem_range.mp hj
    rw [decide_eq_true_eq,List.getD_eq_getElem?_getD,List.getElem?_eq_getElem hj] at e
    have e':ns[j].toNat = i:=e
    have:=h _ (List.getElem_mem hj)
    have:(i:Int) = ns[j]:=by (first | lia | omega)
    rw [this];exact List.getElem_mem hj
  · intro hm
    obtain ⟨j,hj,e⟩:=List.getElem_of_mem hm
    refine ⟨j,List.mem_range.mpr hj,?_⟩
    rw [decide_eq_true_eq,List.getD_eq_getElem?_getD,List.getElem?_eq_getElem hj]
    show ns[j].toNat = i
    rw [e];(first | lia | omega)
theorem call_set8 {X:Cx} (hc:X.calm = true):CallR X (.type "set") (fun vs H Q=>∃ a ns,vs = [.ref a] ∧ SqL X.K H a (ns.map V.int) ∧ (∀ n ∈ ns,0 ≤ n ∧ n < 8) ∧ ∀ p,H p = none → Q (.ref p) (upd H p (SetX8 X.w p (m8 ns)))):=by
  intro pins s σ H vs us Q I rv h
  obtain ⟨a,ns,rfl,hq,hb,q⟩:=h
  obtain ⟨u,rfl,ru⟩:=rv.one
  cases ru
  obtain ⟨its,r,pl,hz⟩:=I.list hq
  have hl:its.toArray.size = ns.length:=by rw [List.size_toArray,← r.length,List.length_map]
  refine call_set_lst8 (val:=fun i=>(ns.getD i 0).toNat) (I.ok.hd hc) pl.isList (fun i v hv=>?_) fun h' tk hS' hkeep=>?_
  · have hi:i < ns.length:=by
      rw [← hl]
      rcases Nat.lt_or_ge i its.toArray.size with z | z
      · exact z
      · rw [Array.getElem?_eq_none z] at hv;cases hv
    have h1:(ns.map V.int)[i]? = some (V.int ns[i]):=by rw [List.getElem?_map,List.getElem?_eq_getElem hi];rfl
    obtain ⟨u,h2,h3⟩:=r.get h1
    have h4:u = v:=by
      have:its[i]? = some v:=by simpa using hv
      rw [h2] at this;cases this;rfl
    subst h4
    obtain ⟨t,rfl⟩:=h3
    have hn:=hb _ (List.getElem_mem hi)
    have eg:(ns.getD i 0) = ns[i]:=by rw [List.getD_eq_getElem?_getD,List.getElem?_eq_getElem hi];rfl
    refine ⟨⟨t,?_⟩,?_⟩
    · show Value.int ns[i] t = Value.int ((ns.getD i 0).toNat:Int) t
      rw [eg,Int.toNat_of_nonneg hn.1]
    · show (ns.getD i 0).toNat < 8
      rw [eg];(first | lia | omega)
  · rw [hl] at hS'
    have fr:H s.heap.objs.size = none:=I.hok.fresh (Nat.le_refl _)
    refine ⟨.ref s.heap.objs.size,_,I.laid (t':=tk) (fun b o e=>hkeep b o (Heap.lt_size e) e) (Nat.le_refl _) ?_,rfl,q _ fr⟩
    refine ⟨hS',?_,fun h1 h2 p1 k=>?_⟩
    · obtain ⟨o,_,_,e,_⟩:=hS'
      exact ⟨o,e⟩
    · obtain ⟨o,es,ep,e,r⟩:=p1
      exact ⟨o,es,ep,k o e,r⟩
theorem ints_of_are:∀ {vs:List Value} {ns:List Int},IntsAre vs ns → Vals (ns.map V.int) vs
  | _,_,.nil=>.nil
  | _,_,.cons n t h=>.cons ⟨t,rfl⟩ (ints_of_are h)
theorem call_sorted8 {X:Cx} (hc:X.calm = true):CallR X (.builtin "sorted") (fun vs H Q=>∃ p m,vs = [.ref p] ∧ H p = some (SetX8 X.w p m) ∧ ∀ l,H l = none → Q (.ref l) (upd H l (.lst ((bitsL m).map fun i:Nat=>V.int (i:Int))))):=by
  intro pins s σ H vs us Q I rv h
  obtain ⟨p,m,rfl,hH,q⟩:=h
  obtain ⟨u,rfl,ru⟩:=rv.one
  cases ru
  obtain ⟨hS,_⟩:=I.hok p _ hH
  refine sorted_set8 (I.ok.hd hc) hS fun h' tk l its c hk hge hl hI=>?_
  have hlen:(bitsL m).length ≤ 8:=by
    obtain ⟨_,_,_,_,_,_,_,hm⟩:=hS
    exact (bits8_of hm).1
  refine ⟨.ref l,_,I.laid (t':=tk) (fun b o e=>hk b o (Heap.lt_size e) e) hge ?_,rfl,q _ (I.hok.fresh hge)⟩
  have hv:=ints_of_are hI
  rw [List.map_map] at hv
  refine ⟨by rw [List.length_map,sizeLine_eq];(first | lia | omega),its.toList,c,hv,by simpa using hl⟩
end Tr
namespace Tr
open PySem PySem.Spec PyProof.Rows L2
theorem noFill_tuple_mul:fillsNumberSlot (.type "tuple") "mul" = pure false :=
  PySem.fillsNumberSlot_seq (id := "tuple.__mul__") (r:=some (.builtin "tuple.__rmul__")) PySem.F.slot_tuple_mul.lookup (by decide +kernel) PySem.F.slot_tuple_rmul.lookup (by decide +kernel)
theorem repeat_tuple:seqRepeat? (.type "tuple") = pure (some (.builtin "tuple.__mul__")):=by
  unfold seqRepeat?
  rw [PySem.seqSlot_of (T := "tuple") (name := "__mul__") (id := "tuple.__mul__") PySem.F.slot_tuple_mul.lookup (by decide +kernel),PySem.seqSlot_of (T := "tuple") (name := "__rmul__") (id := "tuple.__rmul__") PySem.F.slot_tuple_rmul.lookup (by decide +kernel)]
  rfl
theorem int_rmul_tuple (a:Int) (t:Tok) (l:Addr) (o:Obj) :
    Meets (Builtin.«int.__rmul__» ⟨[.int a t,.ref l],[]⟩) (fun _ R s=>s.heap.get? l = some o ∧ o.cls = .type "tuple" ∧ (∃ items n,o.data = .seq items n) ∧ R (.ok (.ret Value.notImplemented)) s) :=
  .of_wp fun prog w A R s h=>by
    obtain ⟨hp,g,d,tk,os⟩:=s
    obtain ⟨hl,hc,⟨items,n,hd⟩,h⟩:=h
    obtain ⟨c,dc,dt,sl⟩:=o
    dsimp only at hc hd
    subst hc;subst hd
    wp_walk
    exact ⟨_,rfl,h⟩
section
variable {prog:Program} {w:World} {A:Around} {E:Value → Shared → Prop} {s:Shared} {l:Addr} {its:List Value}
theorem mul_tuple {k:Int} {t:Tok} {Q:Value → Shared → Prop} (hl:IsTup s.heap l its.toArray) (h1:its.length = 1) (hk:0 ≤ k ∧ k ≤ 1000)
    (hs:k = 1 → Q (.ref l) s) (h:k ≠ 1 → Q (.ref s.heap.objs.size) { s with heap:=s.heap.push { cls:=.type "tuple", data:=.seq (List.replicate k.toNat its).flatten.toArray } }) :
    wpAny (model prog w) A (binaryOp .Mult (.ref l) (.int k t)) Q E s:=by
  obtain ⟨o,e,hc,n,hd⟩:=id hl
  have hT:s.TypeIs (.ref l) "tuple" := ⟨o,e,hc⟩
  refine wpAny_binaryOp_repeat_ref (T := "tuple") (U := "int") (by decide) hT (fun s'=>typeIs_int s' k t) noFill_tuple_mul PySem.F.fills_int_mul PySem.F.slot_int_rmul repeat_tuple PySem.F.slot_int_index.lookup
    (call_meets PySem.F.slot_int_rmul (typeIs_int s k t) PySem.F.entry_int_rmul (PySem.F.args_int_rmul_2 _ _) (int_rmul_tuple k t l o)
      ⟨e,hc,⟨_,n,hd⟩,rfl,hT,wpAny_call_entry PySem.F.slot_tuple_mul hT PySem.F.entry_tuple_mul ?_ (PySem.F.args_tuple_mul_2 _ _)⟩)
  show wpAny _ _ (asIndex (.int k t) >>= _) _ _ s
  refine wpAny_bind (m:=asIndex (.int k t)) (wpAny_pure ?_)
  rw [if_neg (by simp only [Bool.or_eq_true,decide_eq_true_eq,not_or];(first | lia | omega))]
  show wpAny _ _ (Builtin.Tuple.tupleItemsOf (.ref l) >>= _) _ _ s
  refine wpAny_bind (wpAny_tupleItemsOf e hd ?_)
  have hne:its.toArray.isEmpty = false:=by
    cases its with
    | nil=>cases h1
    | cons _ _=>rfl
  rw [hne]
  by_cases c1:k = 1
  · subst c1
    rw [if_pos (by decide)]
    refine wpAny_bind ?_
    unfold Builtin.Tuple.tupleIsExact
    refine wpAny_bind (wpAny_typeOf hT (wpAny_pure ?_))
    rw [if_pos (by decide)]
    exact wpAny_bind (wpAny_rule (wpAny_pure ⟨_,rfl,hs rfl⟩))
  · have hb:(k == 1) = false:=by simpa using c1
    rw [hb]
    simp only [Bool.or_false,Bool.false_eq_true,if_false]
    have hsz:its.toArray.size = 1:=by rw [List.size_toArray];exact h1
    by_cases c0:k ≤ 0
    · have k0:k = 0:=by (first | lia | omega)
      subst k0
      simp only [Int.le_refl,decide_true,if_true]
      exact wpAny_bind (wpAny_newObj_type (wpAny_pure ⟨_,rfl,h c1⟩))
    · rw [if_neg (by simpa using c0),hsz]
      rw [if_neg (by (first | lia | omega)),if_neg (by
        simp only [Builtin.Tuple.tupleTooMany,decide_eq_true_eq]
        rw [sizeLine_eq];(first | lia | omega))]
      have hf:List.foldl (fun x1 x2=>x1 ++ x2) #[] (List.replicate k.toNat its.toArray) = (List.replicate k.toNat its).flatten.toArray:=by
        have:=foldl_rep its k.toNat []
        rw [List.nil_append] at this
        exact this
      show wpAny _ _ (Builtin.Tuple.tupleExact (List.foldl (fun x1 x2=>x1 ++ x2) #[] (List.replicate k.toNat its.toArray)) >>= _) _ _ s
      rw [hf]
      refine wpAny_bind (wpAny_newObj_type (wpAny_pure ⟨_,rfl,h c1⟩) ?_)
      show (List.replicate k.toNat its).flatten.toArray.size ≤ _
      rw [List.size_toArray,len_rep,h1,sizeLine_eq];(first | lia | omega)
end
end Tr
namespace Tr
open PySem
end Tr
namespace Tr
open PySem
end Tr
namespace Tr
open PySem PySem.Spec PyProof.Rows L2
section
variable {prog:Program} {w:World} {A:Around} {E:Value → Shared → Prop} {s:Shared}
end
end Tr
namespace Tr
open PySem PySem.Spec PyProof.Rows L2
section
variable {prog:Program} {w:World} {A:Around} {E:Value → Shared → Prop} {s:Shared}
end
end Tr
namespace Tr
open PySem PySem.Spec PyProof.Rows L2
section
variable {prog:Program} {w:World} {A:Around} {R:Result → Shared → Prop} {I:Addr} {fp wr:List Addr} {G:Array GenState → Array GenState → Prop} {n:Nat} {P:Nat → Value → Prop} {St:Nat → Shared → Prop}
end
section
variable {prog:Program} {w:World} {A:Around} {E:Value → Shared → Prop} {s:Shared}
end
end Tr
namespace Tr
open PySem PySem.Spec PyProof.Rows L2
section
variable {prog:Program} {w:World} {A:Around} {E:Value → Shared → Prop} {s:Shared}
end
end Tr
namespace Tr
open PySem PySem.Spec PyProof.Rows L2
noncomputable def PairsAt (K:PySem.W.Frag) (H:Hp):List Addr → List (Nat × Nat) → Prop
  | [],ps=>ps = []
  | a :: r,ps=>∃ p q,ps = p :: q ∧ SqT K H a [.int (p.1:Nat),.int (p.2:Nat)] ∧ PairsAt K H r q
end Tr
namespace Tr
open PySem PySem.Spec PyProof.Rows L2 PySem.SeqAt
noncomputable def isIntV (z:Int):Value → Bool
  | .int y _=>y == z
  | _=>false
theorem ne_beforeI {z:Int}:∀ {ss:List Int} {i:Nat} {y:Int},i < ss.idxOf z → ss[i]? = some y → (y == z) = false
  | n :: r,0,y,h,e=>by
    by_cases q:n = z
    · subst q;simp at h
    · simp at e;subst e;simpa using q
  | n :: r,i + 1,y,h,e=>by
    by_cases q:n = z
    · subst q;simp at h
    · have hb:(n == z) = false:=by simpa using q
      rw [List.idxOf_cons,hb] at h
      exact ne_beforeI (Nat.lt_of_succ_lt_succ h) (by simpa using e)
theorem mt_lidx {X:Cx}:MtR X "list.index" (fun x vs H Q=>∃ (a:Addr) (ns:List Int) (z:Int),x = .ref a ∧ vs = [.int z] ∧ SqL X.K H a (ns.map V.int) ∧ z ∈ ns ∧ Q (.int (ns.idxOf z:Nat)) H):=by
  intro pins s σ H x vs v us Q I rx rv h
  obtain ⟨a,ns,z,rfl,rfl,hS,hz,q⟩:=h
  cases rx
  obtain ⟨u,rfl,ru⟩:=rv.one
  obtain ⟨t,rfl⟩:=ru
  obtain ⟨itl,hv,pl,hzl⟩:=I.list hS
  obtain ⟨⟨cls,dd,dt,sl⟩,n,ho,hc,hd,hs⟩:=pl
  replace hc:cls = .type "list" := hc
  replace hs:dt = .seq itl.toArray n:=hs
  subst hc hs
  have hl:itl.toArray.size = ns.length:=by rw [List.size_toArray,← hv.length,List.length_map]
  have hj:ns.idxOf z < ns.length:=List.idxOf_lt_length_iff.mpr hz
  have hbig:ns.length ≤ sizeLine:=by rw [List.length_map] at hzl;exact hzl
  have at_:∀ i (hi:i < itl.toArray.size),∃ y t',ns[i]? = some y ∧ itl.toArray[i] = .int y t':=fun i hi=>by
    have h1:(ns.map V.int)[i]? = some (.int ns[i]):=by rw [List.getElem?_map,List.getElem?_eq_getElem (by (first | lia | omega))];rfl
    obtain ⟨u,h2,t',h3⟩:=hv.get h1
    have h4:itl.toArray[i]? = some u:=by rw [List.getElem?_toArray];exact h2
    have h5:itl.toArray[i] = u:=by
      have:=Array.getElem?_eq_getElem hi
      rw [this] at h4;cases h4;rfl
    exact ⟨ns[i],t',List.getElem?_eq_getElem (by (first | lia | omega)),by rw [h5,h3]⟩
  refine call_meets PySem.F.slot_list_index ⟨_,ho,rfl⟩ PySem.F.entry_list_index (PySem.F.args_list_index_2 _ _)
    (list_indexAt a itl.toArray n dd sl (.int z t) (isIntV z) (ns.idxOf z) (by (first | lia | omega)) (by rw [sizeLine_eq] at hbig;(first | lia | omega)) ?_ ?_) ⟨ho,fun y hy=>?_,?_⟩
  · obtain ⟨y,t',h1,h2⟩:=at_ (ns.idxOf z) (by (first | lia | omega))
    rw [h2]
    rw [List.getElem?_eq_getElem hj,List.getElem_idxOf hj] at h1
    cases h1
    show (z == z) = true
    simp
  · intro i hi hlt
    obtain ⟨y,t',h1,h2⟩:=at_ i hi
    rw [h2]
    exact ne_beforeI hlt h1
  · obtain ⟨i,hi,rfl⟩:=Array.mem_iff_getElem.mp hy
    obtain ⟨y,t',h1,h2⟩:=at_ i hi
    rw [h2]
    exact EqAt.int_int y t' z t
  · exact ⟨.int _,H,I.kept (t':=s.toks + 1) (fun b o e=>e),⟨_,rfl⟩,q⟩
end Tr
namespace Tr
open PySem PySem.Spec PyProof.Rows L2 PySem.W
section
variable {P:Program} {w:World} {H H':Hp} {h h':Heap} {a:Addr} {o:HO}
theorem objOk_obj (x:ObjOk P w H h a o):∃ u,h.get? a = some u:=by
  cases o with
  | lst xs=>obtain ⟨_,_,_,_,e⟩:=x;exact ⟨_,e⟩
  | tup xs=>obtain ⟨_,_,_,u,e,_⟩:=x;exact ⟨_,e⟩
  | dK kvs=>obtain ⟨_,_,_,_,o,_,_,e,_⟩:=x;exact ⟨_,e⟩
  | dT kvs=>obtain ⟨_,_,_,_,o,_,_,e,_⟩:=x;exact ⟨_,e⟩
  | set S n=>obtain ⟨o,_,_,_,e,_⟩:=x;exact ⟨_,e⟩
  | ins C dx fs=>obtain ⟨_,_,_,e,_⟩:=x;exact ⟨_,e⟩
  | own y=>obtain ⟨_,e⟩:=x;exact ⟨_,e⟩
  | xd fs=>obtain ⟨_,⟨_,_,_,e,_⟩,_⟩:=x;exact ⟨_,e⟩
  | rng lo hi=>obtain ⟨_,_,_,e⟩:=x;exact ⟨_,e⟩
  | frz ob u=>obtain ⟨e,_⟩:=x;exact ⟨_,e⟩
  | tbl ps=>exact ⟨_,(show h.get? a = some _ from x)⟩
  | met f y=>exact ⟨_,(show h.get? a = some _ from x)⟩
  | ext φ=>obtain ⟨_,⟨_,e⟩,_⟩:=x;exact ⟨_,e⟩
theorem hok_at (x:HOk P w H h) (k:∀ b u o,H b = some o → h.get? b = some u → h'.get? b = some u):HOk P w H h':=fun a o e =>
  (x a o e).stay (fun b u hb q=>by
    rcases hb with rfl | hb
    · exact k _ u _ e q
    · exact k b u _ hb q) (fun _ q=>q) fun _ _ q=>q
end
noncomputable def CXE (P:Program) (w:World):CXT:=fun outer H s E ev s'=>∃ (ea:Addr) (cls a0:Value) (H':Hp) (B:Heap),ev = .ref ea ∧ s'.os = s.os ∧ AllBare s'.gens ∧ Un (frs outer) [] H H' s.heap s'.heap ∧ HOk P w H' s'.heap ∧
  s.heap.get? ea = none ∧ H' ea = none ∧ Heap.FlyingW B outer ea cls a0 s'.heap ∧ (∀ b o,s.heap.get? b = some o → b ∉ frs outer → ∃ u,B.get? b = some u) ∧ (∀ b o,H' b = some o → ∃ u,B.get? b = some u) ∧ E cls none H'
theorem passE0 {P:Program} {w:World} {X:Cx}:Passes (CXE P w) X E0:=fun _ _ _ _ _ _ _ ⟨_,_,_,_,_,_,_,_,_,_,_,_,_,_,_,z⟩=>z.elim
section
variable {P:Program} {w:World} {K:PySem.W.Frag} {mg:Str → Option Value} {base:Heap} {N:List Str} {qual:Str} {scope:Scope} {f:Addr} {cd:Value} {A:Around} {outer:List Env} {s₀:Shared} {H₀:Hp} {E:XK}
theorem not_frame {X:Cx} {pins:List (Addr × Obj)} {σ:L2.St} {H:Hp} {s:Shared} (I:Inv X pins σ H s) {b:Addr} {o:Obj} (e:X.s₀.heap.get? b = some o) (hb:b ∉ X.fs):b ∉ frs X.stack:=fun z=>by
  rcases List.mem_cons.mp (I.stkSub b z) with q | q
  · have:=Nat.lt_of_lt_of_le (Heap.lt_size e) I.ok.above
    rw [q] at this
    exact absurd this (Nat.lt_irrefl _)
  · exact hb q
theorem raise_xe {pins:List (Addr × Obj)} {σ:L2.St} {H:Hp} {s:Shared} {h':Heap} {e:Addr} {cls:Value} {args:List Value}
    (I:Inv (cxOf (CXE P w) P w K mg base N qual scope f cd A outer s₀ H₀ E) pins σ H s) (hx:Heap.MadeExcOf s.heap h' e cls args) (hE:E cls none H) :
    (cxOf (CXE P w) P w K mg base N qual scope f cd A outer s₀ H₀ E).xe (.ref e) { s with heap:=h' }:=by
  have hfs:(cxOf (CXE P w) P w K mg base N qual scope f cd A outer s₀ H₀ E).fs = frs outer:=rfl
  have hst:=I.stack
  have hin:∀ env ∈ (cxOf (CXE P w) P w K mg base N qual scope f cd A outer s₀ H₀ E).stack,∀ a,env.frame = some a → a ∈ frs (cxOf (CXE P w) P w K mg base N qual scope f cd A outer s₀ H₀ E).stack:=fun env he a ha=>List.mem_filterMap.mpr ⟨env,he,ha⟩
  have there:∀ b o,s₀.heap.get? b = some o → ∃ o',s.heap.get? b = some o':=fun b o q=>I.base.there b o q (fun z=>by cases z)
  refine wpAny_leaves_madeW (base:=hideAll s.heap (frs (cxOf (CXE P w) P w K mg base N qual scope f cd A outer s₀ H₀ E).stack)) (s:={ s with heap:=h' }) I.ok.frames rfl (fun b o q=>of_hideAll _ q) (funFrames_hide hst hin) hx fun h'' t x1 x2 x3 x4=>?_
  have keep:∀ b u,s.heap.get? b = some u → b ∉ frs (cxOf (CXE P w) P w K mg base N qual scope f cd A outer s₀ H₀ E).stack → h''.get? b = some u:=fun b u q hb=>x1.1 b u (hideAll_get _ q hb)
  have trk:∀ b o,H b = some o → b ∉ frs (cxOf (CXE P w) P w K mg base N qual scope f cd A outer s₀ H₀ E).stack:=fun b o q z=>by rw [I.stkFree b z] at q;cases q
  refine ⟨e,cls,.ref t,H,_,rfl,I.os,I.bare,⟨?_,?_,?_,?_,?_,?_,?_⟩,?_,?_,?_,x1,?_,?_,hE⟩
  · intro b o q n hb _
    exact keep b o (I.base.keep b o q n hb (fun z=>by cases z)) (not_frame I q hb)
  · intro b o q n hb _
    obtain ⟨sl,q2⟩:=I.base.slot b o q n hb (fun z=>by cases z)
    obtain ⟨_,o',ho',hd⟩:=I.funs.mem hb
    rw [q2] at ho';cases ho'
    obtain ⟨sl',q3⟩:=x4 b _ (hx.keeps b _ q2) hd
    exact ⟨sl',q3⟩
  · intro b o q n _
    exact I.base.free b o q n (fun z=>by cases z)
  · intro b o q _
    obtain ⟨o',q2⟩:=there b o q
    by_cases hb:b ∈ frs (cxOf (CXE P w) P w K mg base N qual scope f cd A outer s₀ H₀ E).stack
    · obtain ⟨_,o2,ho2,hd⟩:=hst.mem hb
      rw [q2] at ho2;cases ho2
      obtain ⟨sl',q3⟩:=x4 b _ (hx.keeps b _ q2) hd
      exact ⟨_,q3⟩
    · exact ⟨o',keep b o' q2 hb⟩
  · exact I.base.tups
  · exact I.base.frzs
  · exact I.base.tbls
  · exact hok_at I.hok fun b u o q1 q2=>keep b u q2 (trk b o q1)
  · cases q:s₀.heap.get? e with
    | none=>rfl
    | some o=>obtain ⟨o',q2⟩:=there e o q;rw [hx.new] at q2;cases q2
  · cases q:H e with
    | none=>rfl
    | some o=>obtain ⟨u,q2⟩:=objOk_obj (I.hok e o q);rw [hx.new] at q2;cases q2
  · intro b o q hb
    obtain ⟨o',q2⟩:=there b o q
    exact ⟨o',hideAll_get _ q2 (not_frame I q hb)⟩
  · intro b o q
    obtain ⟨u,q2⟩:=objOk_obj (I.hok b o q)
    exact ⟨u,hideAll_get _ q2 (trk b o q)⟩
theorem pass_xe:Passes (CXE P w) (cxOf (CXE P w) P w K mg base N qual scope f cd A outer s₀ H₀ E) E:=by
  rintro pins σ H s ev s' I ⟨ea,cls,a0,H',B,rfl,os,bare,un,hok,new,free,fl,hB,hT,hE⟩
  have there:∀ b o,s₀.heap.get? b = some o → ∃ o',s.heap.get? b = some o':=fun b o q=>I.base.there b o q (fun z=>by cases z)
  refine wpAny_leaves_onW I.ok.frames rfl fl fun h'' x1 x4=>?_
  have keepB:∀ b u,s'.heap.get? b = some u → (∃ v,B.get? b = some v) → h''.get? b = some u:=fun b u q ⟨v,hv⟩=>by
    have:=fl.1 b v hv
    rw [q] at this;cases this
    exact x1.1 b u hv
  have slots:∀ b u,s'.heap.get? b = some u → b ∈ frs (cxOf (CXE P w) P w K mg base N qual scope f cd A outer s₀ H₀ E).stack → ∃ sl,h''.get? b = some { u with slots:=sl }:=fun b u q hb=>by
    obtain ⟨_,o',ho',hd⟩:=fl.2.2.1.mem hb
    rw [q] at ho';cases ho'
    exact x4 b u q hd
  have sub:∀ b,b ∈ frs outer → b ∈ frs (cxOf (CXE P w) P w K mg base N qual scope f cd A outer s₀ H₀ E).stack:=fun b hb=>by
    obtain ⟨env,he,hf⟩:=List.mem_filterMap.mp hb
    exact List.mem_filterMap.mpr ⟨env,List.mem_cons_of_mem _ he,hf⟩
  refine ⟨ea,cls,a0,H',B,rfl,os.trans I.os,bare,⟨?_,?_,?_,?_,?_,?_,?_⟩,?_,?_,free,x1,?_,hT,hE⟩
  · intro b o q n hb _
    have q1:=I.base.keep b o q n hb (fun z=>by cases z)
    have n1:=I.base.free b o q n (fun z=>by cases z)
    have hb2:=not_frame I q hb
    exact keepB b o (un.keep b o q1 n1 hb2 (fun z=>by cases z)) (hB b o q1 hb2)
  · intro b o q n hb _
    obtain ⟨sl,q1⟩:=I.base.slot b o q n hb (fun z=>by cases z)
    have n1:=I.base.free b o q n (fun z=>by cases z)
    obtain ⟨sl2,q2⟩:=un.slot b _ q1 n1 (sub b hb) (fun z=>by cases z)
    obtain ⟨sl3,q3⟩:=slots b _ q2 (sub b hb)
    exact ⟨sl3,q3⟩
  · intro b o q n _
    obtain ⟨o',q1⟩:=there b o q
    exact un.free b o' q1 (I.base.free b o q n (fun z=>by cases z)) (fun z=>by cases z)
  · intro b o q _
    obtain ⟨o',q1⟩:=there b o q
    obtain ⟨o2,q2⟩:=un.there b o' q1 (fun z=>by cases z)
    by_cases hb:b ∈ frs (cxOf (CXE P w) P w K mg base N qual scope f cd A outer s₀ H₀ E).stack
    · obtain ⟨sl,q3⟩:=slots b o2 q2 hb
      exact ⟨_,q3⟩
    · exact ⟨o2,keepB b o2 q2 (hB b o' q1 hb)⟩
  · exact fun b xs q=>un.tups b xs (I.base.tups b xs q)
  · exact fun b o u q=>un.frzs b o u (I.base.frzs b o u q)
  · intro b ps q
    obtain ⟨m1,e1⟩:=I.base.tbls b ps q
    obtain ⟨m2,e2⟩:=un.tbls b _ e1
    exact ⟨m1 ++ m2,by rw [e2,Array.append_assoc]⟩
  · exact hok_at hok fun b u o q1 q2=>keepB b u q2 (hT b o q1)
  · cases q:s₀.heap.get? ea with
    | none=>rfl
    | some o=>obtain ⟨o',q2⟩:=there ea o q;rw [new] at q2;cases q2
  · intro b o q hb
    obtain ⟨o',q2⟩:=there b o q
    exact hB b o' q2 (not_frame I q hb)
end
end Tr
namespace Tr
open PySem PySem.Spec PyProof.Rows L2 PySem.W
noncomputable abbrev bmV:List Value:=[.type "ValueError", .type "Exception", .type "BaseException", .type "object"]
noncomputable abbrev OwnV (x:Str) (C:Addr) (mg:Str → Option Value) (h:Heap):Prop:=OwnCls x C bmV "ValueError.__new__" mg h
theorem ps_raise {X:Cx} {x:Str} {C:Addr} {np cpos pos:Pos} {e:Expr} {es:List Expr} {t:TA} {ER:Hp → Prop} (OC:OwnV x C X.mg X.base) (hg:Gl X x) (hc:X.calm = true) (ha:PA X (e :: es) t)
    (hxe:∀ (pins:List (Addr × Obj)) (σ:L2.St) (H:Hp) (s:Shared) (h':Heap) (a:Addr) (args:List Value),Inv X pins σ H s → Heap.MadeExcOf s.heap h' a (.ref C) args → ER H → X.xe (.ref a) { s with heap:=h' })
    (hdb:(x == ("__debug__" : Str)) = false) (he:starEach (e :: es) X.env = (false,eval e X.env) :: starEach es X.env) (hpl:(backTo cpos (starEach es X.env)).any (·.1) = false) :
    PS X (.Raise (some (.Call (.Name x np) (e :: es) [] cpos)) none pos) (fun _ σ H=>t σ H fun vs H1=>vs.length ≤ sizeLine ∧ ER H1):=by
  intro pins s σ H D I h
  obtain ⟨bm,N,nm,q,bs,hdct,sn,sub,ab,col,dd,k0,k1,k2,k3,k5,mN,hC,hN,hni,TL⟩:=OC.obj
  refine wpAny_Raise_call_subT (C:=C) (N:=N) (nm:=nm) (q:=q) (bs:=bs) (bm:=bm) (hdct:=hdct) (sn:=sn) (sub:=sub) (ab:=ab) (col:=col) (dd:=dd) (k0:=k0) (k1:=k1) (k2:=k2) (k3:=k3) (k5:=k5) (mN:=mN) PySem.F.excBase_ValueError (TL.hasType (by decide)) (I.ok.hd hc) ?_ hni ?_
  · rw [he]
    show (false || (backTo cpos (starEach es X.env)).any (·.1)) = false
    rw [hpl];rfl
  · refine ld_glob I hg OC.bound ⟨rfl,?_⟩ hdb
    have hA:=ha cpos pins s σ H _ I h
    rw [he] at hA ⊢
    refine Calls.evalArgs_plain (thn hA fun us s1 ⟨vs,H1,I1,r,hl,hE⟩=>?_)
    refine ⟨rfl,by rw [← r.length];exact hl,I1.bk _ _ hC,hN.keeps I1.bk,TL.keeps I1.bk,fun h' a hm=>?_⟩
    exact hxe pins σ H1 s1 h' a _ I1 hm hE
end Tr
namespace Tr
open PySem PySem.Spec PyProof.Rows L2 PySem.W
section
variable {M:Model} {A:Around} {E:Value → Shared → Prop} {h:Heap} {g:Array GenState} {d:Drawn} {t:Nat} {os:OsState}
variable {nm q:Str} {C N:Addr} {bs bm:List Value} {hdct:Bool} {sn:List Str} {sub:List Value} {ab:Bool} {col:Option Bool} {dd:Option Addr} {k0 k1 k2 k3 k5:Option Value} {newId:String}
variable {nm' q':Str} {C' N':Addr} {bs' bm':List Value} {hdct':Bool} {sn':List Str} {sub':List Value} {ab':Bool} {col':Option Bool} {dd':Option Addr} {k0' k1' k2' k3' k5':Option Value} {newId':String}
end
end Tr
namespace Tr
open PySem PySem.Spec PyProof.Rows L2 PySem.W
section
variable {X:Cx} {pins:List (Addr × Obj)} {σ:L2.St} {H:Hp} {s:Shared}
end
end Tr
namespace Tr
open PySem PySem.Spec PyProof.Rows L2 PySem.W
section
variable {X:Cx} {pins:List (Addr × Obj)} {σ:L2.St} {H:Hp} {s s':Shared}
end
end Tr
namespace Tr
open PySem PySem.Spec PyProof.Rows L2 PySem.W
noncomputable abbrev newV:String := "ValueError.__new__"
noncomputable def cvK (K:PySem.W.Frag) (c:Str):Value:=match nsIn K mainGlobals c with
  | some (some v)=>v
  | _=>.none
theorem ownObj {K:PySem.W.Frag} {h:Heap} {C:Addr} (Y:K.In h) (e:excIn K C bmV newV = true) :
    ∃ bm N nm q bs hdct sn sub ab col dd k0 k1 k2 k3 k5 mN,h.get? C = some (excClassObj nm q C N bs bm hdct sn sub ab col dd k0 k1 k2 k3 k5 newV) ∧ h.Ns N mN ∧ mN "__init__" = none ∧ OwnTail h bmV bm:=by
  unfold excIn at e
  split at e
  · rename_i dd cd sl ho
    split at e
    · rename_i C' bm k0 k1 k2 k3 n k5 hm hs
      rw [Bool.and_eq_true,Bool.and_eq_true,Bool.and_eq_true,Bool.and_eq_true,Bool.and_eq_true,beq_iff_eq,beq_iff_eq,beq_iff_eq,Bool.not_eq_true'] at e
      obtain ⟨⟨⟨⟨⟨e1,e2⟩,e3⟩,e4⟩,e5⟩,e6⟩:=e
      subst e1
      subst e2
      obtain ⟨nm,bs,mro,ns,qn,hd,sn,sub,ab,col,del⟩:=cd
      have z1:mro = .ref C' :: bm:=hm
      have z2:del = false:=e3
      subst z1
      subst z2
      have z3:sl = #[k0,k1,k2,k3,some (.builtin newV),k5]:=by
        cases sl
        exact congrArg Array.mk hs
      subst z3
      exact ⟨bm,ns,nm,qn,bs,hd,sn,sub,ab,col,dd,k0,k1,k2,k3,k5,_,Y _ _ ho,.of_isNs (isNs_of_in Y e5),nsMap_none_of_in Y e5 e6,tail_of_in Y e4⟩
    · cases e
  · cases e
structure ClsIs (K:PySem.W.Frag) (mg:Str → Option Value) (c:Str) (C:Addr):Prop where
  bound:mg c = some (.ref C)
  cv:cvK K c = .ref C
  exc:excIn K C bmV newV = true
theorem ClsIs.own {K:PySem.W.Frag} {mg:Str → Option Value} {c:Str} {C:Addr} {h:Heap} (x:ClsIs K mg c C) (Y:K.In h):OwnV c C mg h:=⟨x.bound,ownObj Y x.exc⟩
noncomputable def mroIn (K:PySem.W.Frag) (C CT:Addr):Bool:=match K.lookup C with
  | some ⟨_,_,.cls cd,_⟩=>cd.mro.contains (.ref CT)
  | _=>false
end Tr
namespace Tr
open PySem PySem.Spec PyProof.Rows L2 PySem.W Builtin Builtin.ObjectAttr Builtin.Getset_descriptor
section
variable {prog:Program} {w:World} {A:Around} {E:Value → Shared → Prop} {K:PySem.W.Frag} {a C:Addr} {o:Obj}
structure ExcCls (K:PySem.W.Frag) (C:Addr):Prop where
  ga:findIn K (.ref C) "__getattribute__" = some (some (.builtin "BaseException.__getattribute__"))
  hook:findIn K (.ref C) "__getattr__" = some none
  cl:findIn K (.ref C) "__class__" = some (some (.builtin "object.__class__"))
  gt:specialIn K (.builtin "object.__class__") "__get__" = some (some (.builtin "getset_descriptor.__get__"))
  tk:takesIn K (.builtin "object.__class__") = some true
  ob:PySem.W.mroIn K C (.type "object") = some true
  be:PySem.W.mroIn K C (.type "BaseException") = some true
end
end Tr
namespace Tr
open PySem PySem.Spec PyProof.Rows L2 PySem.W
section
variable {X:Cx} {pins:List (Addr × Obj)} {σ:L2.St} {H:Hp} {s:Shared}
end
section
variable {X:Cx} {body:List Stmt} {pos:Pos} {h₀:ExceptHandler} {hs:List ExceptHandler}
end
end Tr
namespace Tr
open PySem PySem.Spec PyProof.Rows L2
noncomputable def ModL (K:PySem.W.Frag) (a:Addr) (xs:List V):Prop :=
  ∃ (o:Obj) (its:Array Value) (n:Nat),K.lookup a = some o ∧ o.cls = .type "list" ∧ o.dict = none ∧ o.data = .seq its n ∧ its.size ≤ sizeLine ∧ Vals xs its.toList
noncomputable def DicO:HO → Prop
  | .dK _=>True
  | .dT _=>True
  | _=>False
mutual
noncomputable def RD (K:PySem.W.Frag) (H:Hp) (O:Addr → Prop):D → V → Prop
  | .non,v=>v = .non
  | .bl b,v=>v = .bl b
  | .int i,v=>v = .int i
  | .str x,v=>v = .str x
  | .tup ds,v=>∃ a xs,v = .ref a ∧ SqT K H a xs ∧ RDs K H O ds xs
  | .lst ds,v=>∃ a xs,v = .ref a ∧ ((¬ O a ∧ Rd H a (.lst xs)) ∨ ModL K a xs) ∧ RDs K H O ds xs
  | .dct kvs,v=>∃ a ps,v = .ref a ∧ (¬ O a ∧ H a = some (.dK ps)) ∧ RDk K H O kvs ps
  | .tdc kvs,v=>∃ a ps,v = .ref a ∧ (¬ O a ∧ H a = some (.dT ps)) ∧ RDt K H O kvs ps
noncomputable def RDs (K:PySem.W.Frag) (H:Hp) (O:Addr → Prop):List D → List V → Prop
  | [],xs=>xs = []
  | d :: ds,xs=>∃ v r,xs = v :: r ∧ RD K H O d v ∧ RDs K H O ds r
noncomputable def RDk (K:PySem.W.Frag) (H:Hp) (O:Addr → Prop):List (Sum Int Str × D) → List (Key × V) → Prop
  | [],xs=>xs = []
  | (k,d) :: ds,xs=>∃ v r,xs = (k,v) :: r ∧ RD K H O d v ∧ RDk K H O ds r
noncomputable def RDt (K:PySem.W.Frag) (H:Hp) (O:Addr → Prop):List (List (Sum Int Str) × D) → List (List Key × V) → Prop
  | [],xs=>xs = []
  | (k,d) :: ds,xs=>∃ v r,xs = (k,v) :: r ∧ RD K H O d v ∧ RDt K H O ds r
end
noncomputable def OwnAt (K:PySem.W.Frag) (H:Hp) (O:Addr → Prop) (a:Addr):D → Prop
  | .lst ds=>∃ xs,H a = some (.lst xs) ∧ RDs K H O ds xs
  | .dct kvs=>∃ ps,H a = some (.dK ps) ∧ RDk K H O kvs ps
  | .tdc kvs=>∃ ps,H a = some (.dT ps) ∧ RDt K H O kvs ps
  | _=>False
noncomputable def RR (K:PySem.W.Frag) (H:Hp) (O:Addr → Prop) (d:D) (v:V):Prop :=
  RD K H O d v ∨ ∃ a,v = .ref a ∧ OwnAt K H O a d
noncomputable def RRs (K:PySem.W.Frag) (H:Hp) (O:Addr → Prop):List D → List V → Prop
  | [],xs=>xs = []
  | d :: ds,xs=>∃ v r,xs = v :: r ∧ RR K H O d v ∧ RRs K H O ds r
section
variable {K:PySem.W.Frag} {H H':Hp} {O O':Addr → Prop}
mutual
theorem RD.map (ht:∀ a xs,SqT K H a xs → SqT K H' a xs) (hl:∀ a xs,¬ O a → Rd H a (.lst xs) → ¬ O' a ∧ Rd H' a (.lst xs)) (hd:∀ a o,DicO o → ¬ O a → H a = some o → ¬ O' a ∧ H' a = some o):∀ {d:D} {v:V},RD K H O d v → RD K H' O' d v
  | .non,_,h=>h
  | .bl _,_,h=>h
  | .int _,_,h=>h
  | .str _,_,h=>h
  | .tup ds,v,h=>by
    obtain ⟨a,xs,e,s,r⟩:=h
    exact ⟨a,xs,e,ht a xs s,RDs.map ht hl hd r⟩
  | .lst ds,v,h=>by
    obtain ⟨a,xs,e,s,r⟩:=h
    refine ⟨a,xs,e,?_,RDs.map ht hl hd r⟩
    rcases s with ⟨s1,s2⟩ | s
    · exact .inl (hl a xs s1 s2)
    · exact .inr s
  | .dct kvs,v,h=>by
    obtain ⟨a,ps,e,s,r⟩:=h
    exact ⟨a,ps,e,hd a _ trivial s.1 s.2,RDk.map ht hl hd r⟩
  | .tdc kvs,v,h=>by
    obtain ⟨a,ps,e,s,r⟩:=h
    exact ⟨a,ps,e,hd a _ trivial s.1 s.2,RDt.map ht hl hd r⟩
theorem RDs.map (ht:∀ a xs,SqT K H a xs → SqT K H' a xs) (hl:∀ a xs,¬ O a → Rd H a (.lst xs) → ¬ O' a ∧ Rd H' a (.lst xs)) (hd:∀ a o,DicO o → ¬ O a → H a = some o → ¬ O' a ∧ H' a = some o):∀ {ds:List D} {vs:List V},RDs K H O ds vs → RDs K H' O' ds vs
  | [],_,h=>h
  | d :: ds,vs,h=>by
    obtain ⟨v,r,e,h1,h2⟩:=h
    exact ⟨v,r,e,RD.map ht hl hd h1,RDs.map ht hl hd h2⟩
theorem RDk.map (ht:∀ a xs,SqT K H a xs → SqT K H' a xs) (hl:∀ a xs,¬ O a → Rd H a (.lst xs) → ¬ O' a ∧ Rd H' a (.lst xs)) (hd:∀ a o,DicO o → ¬ O a → H a = some o → ¬ O' a ∧ H' a = some o):∀ {ds:List (Sum Int Str × D)} {vs:List (Key × V)},RDk K H O ds vs → RDk K H' O' ds vs
  | [],_,h=>h
  | (k,d) :: ds,vs,h=>by
    obtain ⟨v,r,e,h1,h2⟩:=h
    exact ⟨v,r,e,RD.map ht hl hd h1,RDk.map ht hl hd h2⟩
theorem RDt.map (ht:∀ a xs,SqT K H a xs → SqT K H' a xs) (hl:∀ a xs,¬ O a → Rd H a (.lst xs) → ¬ O' a ∧ Rd H' a (.lst xs)) (hd:∀ a o,DicO o → ¬ O a → H a = some o → ¬ O' a ∧ H' a = some o):∀ {ds:List (List (Sum Int Str) × D)} {vs:List (List Key × V)},RDt K H O ds vs → RDt K H' O' ds vs
  | [],_,h=>h
  | (k,d) :: ds,vs,h=>by
    obtain ⟨v,r,e,h1,h2⟩:=h
    exact ⟨v,r,e,RD.map ht hl hd h1,RDt.map ht hl hd h2⟩
end
theorem Rd.same (s:Same H H') {a:Addr} {u:HO} (h:Rd H a u):Rd H' a u:=by
  rcases h with h | ⟨o,h⟩
  · exact .inl (s _ _ h)
  · exact .inr ⟨o,s _ _ h⟩
theorem SqT.same (s:Same H H') {a:Addr} {xs:List V} (h:SqT K H a xs):SqT K H' a xs:=by
  rcases h with h | h
  · exact .inl (Rd.same s h)
  · exact .inr h
theorem RD.same (s:Same H H') {d:D} {v:V} (h:RD K H O d v):RD K H' O d v:=RD.map (fun _ _ q=>SqT.same s q) (fun _ _ n q=>⟨n,Rd.same s q⟩) (fun _ _ _ n q=>⟨n,s _ _ q⟩) h
theorem RDk.same (s:Same H H') {d:List (Sum Int Str × D)} {v:List (Key × V)} (h:RDk K H O d v):RDk K H' O d v:=RDk.map (fun _ _ q=>SqT.same s q) (fun _ _ n q=>⟨n,Rd.same s q⟩) (fun _ _ _ n q=>⟨n,s _ _ q⟩) h
theorem RDt.same (s:Same H H') {d:List (List (Sum Int Str) × D)} {v:List (List Key × V)} (h:RDt K H O d v):RDt K H' O d v:=RDt.map (fun _ _ q=>SqT.same s q) (fun _ _ n q=>⟨n,Rd.same s q⟩) (fun _ _ _ n q=>⟨n,s _ _ q⟩) h
theorem RDs.same (s:Same H H') {d:List D} {v:List V} (h:RDs K H O d v):RDs K H' O d v:=RDs.map (fun _ _ q=>SqT.same s q) (fun _ _ n q=>⟨n,Rd.same s q⟩) (fun _ _ _ n q=>⟨n,s _ _ q⟩) h
theorem RD.weak (s:∀ a,O' a → O a) {d:D} {v:V} (h:RD K H O d v):RD K H O' d v:=RD.map (fun _ _ q=>q) (fun a _ n q=>⟨fun z=>n (s a z),q⟩) (fun a _ _ n q=>⟨fun z=>n (s a z),q⟩) h
theorem RDk.weak (s:∀ a,O' a → O a) {d:List (Sum Int Str × D)} {v:List (Key × V)} (h:RDk K H O d v):RDk K H O' d v:=RDk.map (fun _ _ q=>q) (fun a _ n q=>⟨fun z=>n (s a z),q⟩) (fun a _ _ n q=>⟨fun z=>n (s a z),q⟩) h
theorem RDt.weak (s:∀ a,O' a → O a) {d:List (List (Sum Int Str) × D)} {v:List (List Key × V)} (h:RDt K H O d v):RDt K H O' d v:=RDt.map (fun _ _ q=>q) (fun a _ n q=>⟨fun z=>n (s a z),q⟩) (fun a _ _ n q=>⟨fun z=>n (s a z),q⟩) h
theorem RDs.weak (s:∀ a,O' a → O a) {d:List D} {v:List V} (h:RDs K H O d v):RDs K H O' d v:=RDs.map (fun _ _ q=>q) (fun a _ n q=>⟨fun z=>n (s a z),q⟩) (fun a _ _ n q=>⟨fun z=>n (s a z),q⟩) h
noncomputable def plus (O:Addr → Prop) (p:Addr):Addr → Prop:=fun a=>O a ∨ a = p
noncomputable def minus (O:Addr → Prop) (p:Addr):Addr → Prop:=fun a=>O a ∧ a ≠ p
theorem Rd.ne {p a:Addr} {u:HO} (hp:H p = none) (h:Rd H a u):a ≠ p:=by
  rcases h with h | ⟨o,h⟩ <;> exact ne_of_none h hp
theorem RD.new {p:Addr} (hp:H p = none) {d:D} {v:V} (h:RD K H O d v):RD K H (plus O p) d v :=
  RD.map (fun _ _ q=>q) (fun a _ n q=>⟨fun z=>z.elim n (Rd.ne hp q),q⟩) (fun a _ _ n q=>⟨fun z=>z.elim n (ne_of_none q hp),q⟩) h
theorem RDk.new {p:Addr} (hp:H p = none) {d:List (Sum Int Str × D)} {v:List (Key × V)} (h:RDk K H O d v):RDk K H (plus O p) d v :=
  RDk.map (fun _ _ q=>q) (fun a _ n q=>⟨fun z=>z.elim n (Rd.ne hp q),q⟩) (fun a _ _ n q=>⟨fun z=>z.elim n (ne_of_none q hp),q⟩) h
theorem RDt.new {p:Addr} (hp:H p = none) {d:List (List (Sum Int Str) × D)} {v:List (List Key × V)} (h:RDt K H O d v):RDt K H (plus O p) d v :=
  RDt.map (fun _ _ q=>q) (fun a _ n q=>⟨fun z=>z.elim n (Rd.ne hp q),q⟩) (fun a _ _ n q=>⟨fun z=>z.elim n (ne_of_none q hp),q⟩) h
theorem RDs.new {p:Addr} (hp:H p = none) {d:List D} {v:List V} (h:RDs K H O d v):RDs K H (plus O p) d v :=
  RDs.map (fun _ _ q=>q) (fun a _ n q=>⟨fun z=>z.elim n (Rd.ne hp q),q⟩) (fun a _ _ n q=>⟨fun z=>z.elim n (ne_of_none q hp),q⟩) h
noncomputable def MutO:HO → Prop
  | .lst _=>True
  | .dK _=>True
  | .dT _=>True
  | _=>False
theorem Rd.upd_mut {p a:Addr} {u o o':HO} (hp:H p = some o) (hm:MutO o) (hu:u ≠ o) (h:Rd H a u):Rd (upd H p o') a u:=by
  rcases h with h | ⟨o1,h⟩
  · exact .inl (by rw [upd_ne (ne_of h hp hu)];exact h)
  · exact .inr ⟨o1,by rw [upd_ne (ne_of h hp (by intro z;subst z;exact hm))];exact h⟩
theorem upd_map {p:Addr} {o o':HO} (hO:O p) (hp:H p = some o) (hm:MutO o):(∀ a xs,SqT K H a xs → SqT K (upd H p o') a xs) ∧ (∀ a xs,¬ O a → Rd H a (.lst xs) → ¬ O a ∧ Rd (upd H p o') a (.lst xs)) ∧ ∀ a o1,DicO o1 → ¬ O a → H a = some o1 → ¬ O a ∧ upd H p o' a = some o1:=by
  refine ⟨fun a xs h=>?_,fun a xs n h=>⟨n,?_⟩,fun a ps _ n h=>⟨n,?_⟩⟩
  · rcases h with h | h
    · exact .inl (Rd.upd_mut hp hm (by intro z;subst z;exact hm) h)
    · exact .inr h
  · have e:a ≠ p:=fun z=>n (z ▸ hO)
    rcases h with h | ⟨o,h⟩
    · exact .inl (by rw [upd_ne e];exact h)
    · exact .inr ⟨o,by rw [upd_ne e];exact h⟩
  · have e:a ≠ p:=fun z=>n (z ▸ hO)
    rw [upd_ne e];exact h
theorem RD.updM {p:Addr} {o o':HO} (hO:O p) (hp:H p = some o) (hm:MutO o) {d:D} {v:V} (h:RD K H O d v):RD K (L2.upd H p o') O d v:=RD.map (upd_map (K:=K) hO hp hm).1 (upd_map (K:=K) hO hp hm).2.1 (upd_map (K:=K) hO hp hm).2.2 h
theorem RDs.updM {p:Addr} {o o':HO} (hO:O p) (hp:H p = some o) (hm:MutO o) {d:List D} {v:List V} (h:RDs K H O d v):RDs K (L2.upd H p o') O d v:=RDs.map (upd_map (K:=K) hO hp hm).1 (upd_map (K:=K) hO hp hm).2.1 (upd_map (K:=K) hO hp hm).2.2 h
theorem RDk.updM {p:Addr} {o o':HO} (hO:O p) (hp:H p = some o) (hm:MutO o) {d:List (Sum Int Str × D)} {v:List (Key × V)} (h:RDk K H O d v):RDk K (L2.upd H p o') O d v:=RDk.map (upd_map (K:=K) hO hp hm).1 (upd_map (K:=K) hO hp hm).2.1 (upd_map (K:=K) hO hp hm).2.2 h
theorem RDt.updM {p:Addr} {o o':HO} (hO:O p) (hp:H p = some o) (hm:MutO o) {d:List (List (Sum Int Str) × D)} {v:List (List Key × V)} (h:RDt K H O d v):RDt K (L2.upd H p o') O d v:=RDt.map (upd_map (K:=K) hO hp hm).1 (upd_map (K:=K) hO hp hm).2.1 (upd_map (K:=K) hO hp hm).2.2 h
theorem RD.upd {p:Addr} {ys zs:List V} (hO:O p) (hp:H p = some (.lst ys)) {d:D} {v:V} (h:RD K H O d v):RD K (L2.upd H p (.lst zs)) O d v:=RD.updM hO hp trivial h
theorem RDs.upd {p:Addr} {ys zs:List V} (hO:O p) (hp:H p = some (.lst ys)) {d:List D} {v:List V} (h:RDs K H O d v):RDs K (L2.upd H p (.lst zs)) O d v:=RDs.updM hO hp trivial h
mutual
theorem RD.flat:∀ {d:D} {v:V},d.flat = true → RD K H O d v → RD K H O' d v
  | .non,_,_,h=>h
  | .bl _,_,_,h=>h
  | .int _,_,_,h=>h
  | .str _,_,_,h=>h
  | .tup ds,v,f,h=>by
    obtain ⟨a,xs,e,s,r⟩:=h
    rw [D.flat] at f
    exact ⟨a,xs,e,s,RDs.flat f r⟩
  | .lst ds,v,f,_=>by rw [D.flat] at f;cases f
  | .dct _,_,f,_=>by rw [D.flat] at f;cases f
  | .tdc _,_,f,_=>by rw [D.flat] at f;cases f
theorem RDs.flat:∀ {ds:List D} {vs:List V},D.flats ds = true → RDs K H O ds vs → RDs K H O' ds vs
  | [],_,_,h=>h
  | d :: ds,vs,f,h=>by
    obtain ⟨v,r,e,h1,h2⟩:=h
    rw [D.flats,Bool.and_eq_true] at f
    exact ⟨v,r,e,RD.flat f.1 h1,RDs.flat f.2 h2⟩
end
theorem RDs.length:∀ {ds:List D} {vs:List V},RDs K H O ds vs → vs.length = ds.length
  | [],_,h=>by rw [RDs] at h;rw [h];rfl
  | d :: ds,vs,h=>by
    obtain ⟨v,r,e,_,h2⟩:=h
    rw [e,List.length_cons,List.length_cons,RDs.length h2]
theorem RDs.get:∀ {ds:List D} {vs:List V} {i:Nat} {d:D},RDs K H O ds vs → ds[i]? = some d → ∃ v,vs[i]? = some v ∧ RD K H O d v
  | [],_,_,_,_,e=>by simp at e
  | d :: ds,vs,0,d',h,e=>by
    obtain ⟨v,r,rfl,h1,_⟩:=h
    simp at e;subst e
    exact ⟨v,rfl,h1⟩
  | d :: ds,vs,i + 1,d',h,e=>by
    obtain ⟨v,r,rfl,_,h2⟩:=h
    obtain ⟨w,h3,h4⟩:=RDs.get (i:=i) h2 (by simpa using e)
    exact ⟨w,by simpa using h3,h4⟩
theorem RDs.append:∀ {ds es:List D} {vs ws:List V},RDs K H O ds vs → RDs K H O es ws → RDs K H O (ds ++ es) (vs ++ ws)
  | [],_,_,_,h,g=>by rw [RDs] at h;subst h;exact g
  | d :: ds,es,vs,ws,h,g=>by
    obtain ⟨v,r,rfl,h1,h2⟩:=h
    exact ⟨v,r ++ ws,rfl,h1,RDs.append h2 g⟩
theorem RDs.drop:∀ {ds:List D} {vs:List V} (n:Nat),RDs K H O ds vs → RDs K H O (ds.drop n) (vs.drop n)
  | _,_,0,h=>h
  | [],_,n + 1,h=>by rw [RDs] at h;subst h;exact rfl
  | d :: ds,vs,n + 1,h=>by
    obtain ⟨v,r,rfl,_,h2⟩:=h
    exact RDs.drop n h2
theorem RDs.take:∀ {ds:List D} {vs:List V} (n:Nat),RDs K H O ds vs → RDs K H O (ds.take n) (vs.take n)
  | _,_,0,_=>by simp [RDs]
  | [],_,n + 1,h=>by rw [RDs] at h;subst h;simp [RDs]
  | d :: ds,vs,n + 1,h=>by
    obtain ⟨v,r,rfl,h1,h2⟩:=h
    exact ⟨v,r.take n,rfl,h1,RDs.take n h2⟩
theorem RDs.reverse {ds:List D} {vs:List V} (h:RDs K H O ds vs):RDs K H O ds.reverse vs.reverse:=by
  induction ds generalizing vs with
  | nil=>rw [RDs] at h;subst h;exact rfl
  | cons d ds ih =>
    obtain ⟨v,r,rfl,h1,h2⟩:=h
    rw [List.reverse_cons,List.reverse_cons]
    exact RDs.append (ih h2) ⟨v,[],rfl,h1,rfl⟩
theorem RDs.cut {ds:List D} {vs:List V} (lo hi:Option Int) (h:RDs K H O ds vs):RDs K H O (Tr.cut ds lo hi) (cutV vs lo hi):=by
  have e:=RDs.length h
  unfold Tr.cut cutV
  rw [e]
  exact RDs.take _ (RDs.drop _ h)
theorem RDs.cons {d:D} {v:V} {ds:List D} {vs:List V} (h:RD K H O d v) (r:RDs K H O ds vs):RDs K H O (d :: ds) (v :: vs):=⟨v,vs,rfl,h,r⟩
theorem RDs.nil:RDs K H O [] []:=rfl
theorem RDk.length:∀ {ds:List (Sum Int Str × D)} {vs:List (Key × V)},RDk K H O ds vs → vs.length = ds.length
  | [],_,h=>by rw [RDk] at h;rw [h];rfl
  | (k,d) :: ds,vs,h=>by
    obtain ⟨v,r,e,_,h2⟩:=h
    rw [e,List.length_cons,List.length_cons,RDk.length h2]
theorem RD.rr {d:D} {v:V} (h:RD K H O d v):RR K H O d v:=.inl h
theorem RDs.rr:∀ {ds:List D} {vs:List V},RDs K H O ds vs → RRs K H O ds vs
  | [],_,h=>h
  | d :: ds,vs,h=>by
    obtain ⟨v,r,e,h1,h2⟩:=h
    exact ⟨v,r,e,.inl h1,RDs.rr h2⟩
theorem OwnAt.map (hs:∀ {d v},RDs K H O d v → RDs K H' O' d v) (hk:∀ {d v},RDk K H O d v → RDk K H' O' d v) (hk2:∀ {d v},RDt K H O d v → RDt K H' O' d v) {a:Addr} (ho:∀ o,MutO o → H a = some o → H' a = some o):∀ {d:D},OwnAt K H O a d → OwnAt K H' O' a d
  | .lst ds,⟨xs,h1,h2⟩=>⟨xs,ho _ trivial h1,hs h2⟩
  | .dct ds,⟨xs,h1,h2⟩=>⟨xs,ho _ trivial h1,hk h2⟩
  | .tdc ds,⟨xs,h1,h2⟩=>⟨xs,ho _ trivial h1,hk2 h2⟩
  | .non,h | .bl _,h | .int _,h | .str _,h | .tup _,h=>h.elim
theorem OwnAt.same (s:Same H H') {a:Addr} {d:D} (h:OwnAt K H O a d):OwnAt K H' O a d:=OwnAt.map (fun q=>q.same s) (fun q=>q.same s) (fun q=>q.same s) (fun _ _ q=>s _ _ q) h
theorem OwnAt.new {p:Addr} (hp:H p = none) {a:Addr} {d:D} (h:OwnAt K H O a d):OwnAt K H (plus O p) a d:=OwnAt.map (fun q=>q.new hp) (fun q=>q.new hp) (fun q=>q.new hp) (fun _ _ q=>q) h
theorem OwnAt.weak (s:∀ a,O' a → O a) {a:Addr} {d:D} (h:OwnAt K H O a d):OwnAt K H O' a d:=OwnAt.map (fun q=>q.weak s) (fun q=>q.weak s) (fun q=>q.weak s) (fun _ _ q=>q) h
theorem OwnAt.updM {p:Addr} {o o':HO} (hO:O p) (hp:H p = some o) (hm:MutO o) {a:Addr} (hne:a ≠ p) {d:D} (h:OwnAt K H O a d):OwnAt K (L2.upd H p o') O a d:=OwnAt.map (fun q=>q.updM hO hp hm) (fun q=>q.updM hO hp hm) (fun q=>q.updM hO hp hm) (fun _ _ q=>by rw [upd_ne hne];exact q) h
theorem OwnAt.obj {a:Addr}:∀ {d:D},OwnAt K H O a d → ∃ o,H a = some o ∧ MutO o
  | .lst ds,⟨xs,h1,h2⟩=>⟨_,h1,trivial⟩
  | .dct ds,⟨xs,h1,h2⟩=>⟨_,h1,trivial⟩
  | .tdc ds,⟨xs,h1,h2⟩=>⟨_,h1,trivial⟩
  | .non,h | .bl _,h | .int _,h | .str _,h | .tup _,h=>h.elim
theorem OwnAt.rd {a:Addr} (hn:¬ O a):∀ {d:D},OwnAt K H O a d → RD K H O d (.ref a)
  | .lst ds,⟨xs,h1,h2⟩=>⟨a,xs,rfl,.inl ⟨hn,.inl h1⟩,h2⟩
  | .dct ds,⟨xs,h1,h2⟩=>⟨a,xs,rfl,⟨hn,h1⟩,h2⟩
  | .tdc ds,⟨xs,h1,h2⟩=>⟨a,xs,rfl,⟨hn,h1⟩,h2⟩
  | .non,h | .bl _,h | .int _,h | .str _,h | .tup _,h=>h.elim
theorem RR.same (s:Same H H') {d:D} {v:V} (h:RR K H O d v):RR K H' O d v:=by
  rcases h with h | ⟨a,e,h⟩
  · exact .inl (h.same s)
  · exact .inr ⟨a,e,h.same s⟩
theorem RR.bare {d:D} {v:V} (h:RR K H O d v):RD K H (fun _=>False) d v:=by
  rcases h with h | ⟨a,rfl,h⟩
  · exact h.weak fun _ z=>z.elim
  · exact OwnAt.rd (fun z=>z) (h.weak fun _ z=>z.elim)
theorem RR.lst {ds:List D} {v:V} (h:RR K H O (.lst ds) v):∃ a xs,v = .ref a ∧ SqL K H a xs ∧ RDs K H O ds xs:=by
  rcases h with ⟨a,xs,e,s,r⟩ | ⟨a,e,xs,h1,h2⟩
  · refine ⟨a,xs,e,?_,r⟩
    rcases s with ⟨_,s⟩ | s
    · exact .inl s
    · exact .inr s
  · exact ⟨a,xs,e,.of h1,h2⟩
theorem RR.dct {kvs:List (Sum Int Str × D)} {v:V} (h:RR K H O (.dct kvs) v):∃ a ps,v = .ref a ∧ H a = some (.dK ps) ∧ RDk K H O kvs ps:=by
  rcases h with ⟨a,ps,e,s,r⟩ | ⟨a,e,ps,h1,h2⟩
  · exact ⟨a,ps,e,s.2,r⟩
  · exact ⟨a,ps,e,h1,h2⟩
theorem RR.tup {ds:List D} {v:V} (h:RR K H O (.tup ds) v):∃ a xs,v = .ref a ∧ SqT K H a xs ∧ RDs K H O ds xs:=by
  rcases h with h | ⟨a,e,h⟩
  · exact h
  · exact h.elim
noncomputable def D.still:D → Bool
  | .lst _=>false
  | .dct _=>false
  | .tdc _=>false
  | _=>true
theorem RR.rd {d:D} {v:V} (h:RR K H O d v) (n:d.still = true):RD K H O d v:=by
  rcases h with h | ⟨a,e,h⟩
  · exact h
  · cases d with
    | lst _=>cases n
    | dct _=>cases n
    | tdc _=>cases n
    | non=>exact h.elim
    | bl _=>exact h.elim
    | int _=>exact h.elim
    | str _=>exact h.elim
    | tup _=>exact h.elim
end
noncomputable def RS (K:PySem.W.Frag) (H:Hp) (O:Addr → Prop) (own:Option Addr):Sl → Option V → Prop
  | .no,_=>True
  | .v d,ov=>∃ v,ov = some v ∧ RD K H O d v
  | .o d,ov=>∃ a,own = some a ∧ ov = some (.ref a) ∧ OwnAt K H O a d
  | .t ds,ov=>∃ t p ys vs a r,own = some p ∧ ov = some (.ref t) ∧ ds = .lst a :: r ∧ SqT K H t (.ref p :: vs) ∧ H p = some (.lst ys) ∧ RDs K H O a ys ∧ RDs K H O r vs
noncomputable def stAt (σ:L2.St) (i:Nat):Option V:=(σ[i]?).join
set_option genInjectivity false in
structure Fm (K:PySem.W.Frag) (H₀:Hp) (O₀:Addr → Prop) (H:Hp) (O:Addr → Prop) (own:Nat → Option Addr) (e:Nv) (σ:L2.St):Prop where
  len:e.length = σ.length
  sl:∀ i,RS K H O (own i) (e.at i) (stAt σ i)
  inj:∀ i j a,own i = some a → own j = some a → i = j
  same:Same H₀ H
  sub:∀ a,O₀ a → O a
  trk0:∀ a,O₀ a → ∃ o,H₀ a = some o
  trk:∀ a,O a → ∃ o,H a = some o
  new:∀ i a,own i = some a → O a ∧ H₀ a = none
section
variable {K:PySem.W.Frag} {H₀ H H':Hp} {O₀ O O':Addr → Prop} {own:Nat → Option Addr} {e:Nv} {σ:L2.St}
theorem RS.same (s:Same H H') {o:Option Addr} {x:Sl} {ov:Option V} (h:RS K H O o x ov):RS K H' O o x ov:=by
  cases x with
  | no=>trivial
  | v d=>obtain ⟨v,e,r⟩:=h;exact ⟨v,e,r.same s⟩
  | o d=>obtain ⟨a,e1,e2,h⟩:=h;exact ⟨a,e1,e2,h.same s⟩
  | t ds=>obtain ⟨t,p,ys,vs,a,r,e1,e2,e3,h1,h2,h3,h4⟩:=h;exact ⟨t,p,ys,vs,a,r,e1,e2,e3,SqT.same s h1,s _ _ h2,h3.same s,h4.same s⟩
theorem Fm.grow (F:Fm K H₀ O₀ H O own e σ) (s:Same H H'):Fm K H₀ O₀ H' O own e σ :=
  ⟨F.len,fun i=>(F.sl i).same s,F.inj,F.same.trans s,F.sub,F.trk0,fun a h=>let ⟨xs,q⟩:=F.trk a h;⟨xs,s _ _ q⟩,F.new⟩
end
end Tr
namespace Tr
open PySem PySem.Spec PyProof.Rows L2
section
variable {K:PySem.W.Frag} {H₀ H H':Hp} {O₀ O O':Addr → Prop} {own:Nat → Option Addr} {e:Nv} {σ:L2.St}
theorem at_set_same {e:Nv} {i:Nat} {x:Sl} (h:i < e.length):Nv.at (e.set i x) i = x:=by
  unfold Nv.at;rw [List.getElem?_set_self h];rfl
theorem at_set_ne {e:Nv} {i j:Nat} {x:Sl} (h:i ≠ j):Nv.at (e.set i x) j = Nv.at e j:=by
  unfold Nv.at;rw [List.getElem?_set_ne h]
theorem at_out {e:Nv} {i:Nat} (h:¬ i < e.length):Nv.at e i = .no:=by
  unfold Nv.at;rw [List.getElem?_eq_none (by (first | lia | omega))];rfl
theorem st_set_same {σ:L2.St} {i:Nat} {v:V} (h:i < σ.length):stAt (σ.set i (some v)) i = some v:=by
  unfold stAt;rw [List.getElem?_set_self h];rfl
theorem st_set_ne {σ:L2.St} {i j:Nat} {v:Option V} (h:i ≠ j):stAt (σ.set i v) j = stAt σ j:=by
  unfold stAt;rw [List.getElem?_set_ne h]
theorem st_get {σ:L2.St} {i:Nat} {v:V} (h:stAt σ i = some v):σ[i]? = some (some v):=by
  unfold stAt at h
  cases q:σ[i]? with
  | none=>rw [q] at h;cases h
  | some o=>rw [q] at h;cases o with
    | none=>cases h
    | some w=>cases h;rfl
theorem RS.map (ht:∀ {d v},RD K H O d v → RD K H' O' d v) (hs:∀ {d v},RDs K H O d v → RDs K H' O' d v) (hk:∀ {d v},RDk K H O d v → RDk K H' O' d v) (hk2:∀ {d v},RDt K H O d v → RDt K H' O' d v) {o:Option Addr} (ho:∀ a u,o = some a → MutO u → H a = some u → H' a = some u) {x:Sl} {ov:Option V} (h:RS K H O o x ov) (hq:∀ a xs,SqT K H a xs → SqT K H' a xs:=by first | exact fun _ _ q=>q | exact fun _ _ q=>SqT.same (by assumption) q):RS K H' O' o x ov:=by
  cases x with
  | no=>trivial
  | v d=>obtain ⟨v,e,r⟩:=h;exact ⟨v,e,ht r⟩
  | o d=>obtain ⟨a,e1,e2,h⟩:=h;exact ⟨a,e1,e2,h.map hs hk hk2 fun u hm q=>ho a u e1 hm q⟩
  | t ds=>obtain ⟨t,p,ys,vs,a,r,e1,e2,e3,h1,h2,h3,h4⟩:=h;exact ⟨t,p,ys,vs,a,r,e1,e2,e3,hq _ _ h1,ho p _ e1 trivial h2,hs h3,hs h4⟩
theorem Fm.setV (F:Fm K H₀ O₀ H O own e σ) (i:Nat) {d:D} {v:V} (r:RD K H O d v):Fm K H₀ O₀ H O (fun j=>if j = i then none else own j) (e.set i (.v d)) (σ.set i (some v)) where
  len:=by rw [List.length_set,List.length_set];exact F.len
  sl:=fun j=>by
    by_cases h:i = j
    · subst h
      by_cases hi:i < e.length
      · rw [at_set_same hi,st_set_same (by rw [← F.len];exact hi)];exact ⟨v,rfl,r⟩
      · rw [at_out (by rw [List.length_set];exact hi)];trivial
    · rw [at_set_ne h,st_set_ne h,if_neg (Ne.symm h)];exact F.sl j
  inj:=fun j k a h1 h2=>by
    by_cases h:j = i
    · rw [if_pos h] at h1;cases h1
    · by_cases h':k = i
      · rw [if_pos h'] at h2;cases h2
      · rw [if_neg h] at h1;rw [if_neg h'] at h2;exact F.inj j k a h1 h2
  same:=F.same
  sub:=F.sub
  trk0:=F.trk0
  trk:=F.trk
  new:=fun j a h1=>by
    by_cases h:j = i
    · rw [if_pos h] at h1;cases h1
    · rw [if_neg h] at h1;exact F.new j a h1
theorem Fm.setO (F:Fm K H₀ O₀ H O own e σ) (s:Same H H') (i:Nat) {d:D} {p:Addr} (hp:H p = none) (r:OwnAt K H' (plus O p) p d) :
    Fm K H₀ O₀ H' (plus O p) (fun j=>if j = i then some p else own j) (e.set i (.o d)) (σ.set i (some (.ref p))) where
  len:=by rw [List.length_set,List.length_set];exact F.len
  sl:=fun j=>by
    by_cases h:i = j
    · subst h
      rw [if_pos rfl]
      by_cases hi:i < e.length
      · rw [at_set_same hi,st_set_same (by rw [← F.len];exact hi)];exact ⟨p,rfl,rfl,r⟩
      · rw [at_out (by rw [List.length_set];exact hi)];trivial
    · rw [at_set_ne h,st_set_ne h,if_neg (Ne.symm h)]
      exact RS.map (fun q=>(q.new hp).same s) (fun q=>(q.new hp).same s) (fun q=>(q.new hp).same s) (fun q=>(q.new hp).same s) (fun a u _ _ q=>s _ _ q) (F.sl j)
  inj:=fun j k a h1 h2=>by
    have no:∀ j,own j ≠ some p:=fun j q=>by
      obtain ⟨xs,w⟩:=F.trk p (F.new j p q).1
      rw [hp] at w;cases w
    by_cases h:j = i
    · rw [if_pos h] at h1
      cases h1
      by_cases h':k = i
      · rw [h,h']
      · rw [if_neg h'] at h2;exact absurd h2 (no k)
    · rw [if_neg h] at h1
      by_cases h':k = i
      · rw [if_pos h'] at h2;cases h2;exact absurd h1 (no j)
      · rw [if_neg h'] at h2;exact F.inj j k a h1 h2
  same:=F.same.trans s
  sub:=fun a h=>.inl (F.sub a h)
  trk0:=F.trk0
  trk:=fun a h=>by
    rcases h with h | h
    · obtain ⟨ys,q⟩:=F.trk a h
      exact ⟨ys,s _ _ q⟩
    · subst h
      obtain ⟨o,h1,_⟩:=r.obj
      exact ⟨o,h1⟩
  new:=fun j a h1=>by
    by_cases h:j = i
    · rw [if_pos h] at h1;cases h1;exact ⟨.inr rfl,F.same.free hp⟩
    · rw [if_neg h] at h1;exact ⟨.inl (F.new j a h1).1,(F.new j a h1).2⟩
theorem Fm.mutA (F:Fm K H₀ O₀ H O own e σ) (i:Nat) {d:D} (hi:e.at i = .o d):∃ p,stAt σ i = some (.ref p) ∧ OwnAt K H O p d ∧ O p ∧
    ∀ d' o',(∀ o,H p = some o → OwnAt K (upd H p o') O p d') → Fm K H₀ O₀ (upd H p o') O own (e.set i (.o d')) σ:=by
  have q:=F.sl i
  rw [hi] at q
  obtain ⟨p,e1,e2,h1⟩:=q
  obtain ⟨o,ho,hm⟩:=h1.obj
  have hn:=F.new i p e1
  refine ⟨p,e2,h1,hn.1,fun d' o' r=>?_⟩
  have hlen:i < e.length:=by
    by_cases h:i < e.length
    · exact h
    · rw [at_out h] at hi;cases hi
  refine ⟨by rw [List.length_set];exact F.len,fun j=>?_,F.inj,fun b u hb=>?_,F.sub,F.trk0,fun a ha=>?_,F.new⟩
  · by_cases h:i = j
    · subst h
      rw [at_set_same hlen,e2]
      exact ⟨p,e1,rfl,r o ho⟩
    · rw [at_set_ne h]
      refine RS.map (fun q=>q.updM hn.1 ho hm) (fun q=>q.updM hn.1 ho hm) (fun q=>q.updM hn.1 ho hm) (fun q=>q.updM hn.1 ho hm) (fun a u ea _ q=>?_) (F.sl j) (upd_map (K:=K) hn.1 ho hm).1
      have:a ≠ p:=fun z=>h (F.inj i j p e1 (z ▸ ea))
      rw [upd_ne this];exact q
  · rw [upd_ne (fun z=>by rw [z,hn.2] at hb;cases hb)];exact F.same b u hb
  · by_cases h:a = p
    · subst h;exact ⟨_,upd_same⟩
    · obtain ⟨ys,q⟩:=F.trk a ha
      exact ⟨ys,by rw [upd_ne h];exact q⟩
theorem Fm.mut (F:Fm K H₀ O₀ H O own e σ) (i:Nat) {ds:List D} (hi:e.at i = .o (.lst ds)):∃ p xs,stAt σ i = some (.ref p) ∧ H p = some (.lst xs) ∧ RDs K H O ds xs ∧ O p ∧
    ∀ ds' xs',RDs K H O ds' xs' → Fm K H₀ O₀ (upd H p (.lst xs')) O own (e.set i (.o (.lst ds'))) σ:=by
  obtain ⟨p,e2,⟨xs,h1,h2⟩,hO,k⟩:=F.mutA i hi
  exact ⟨p,xs,e2,h1,h2,hO,fun ds' xs' r=>k (.lst ds') (.lst xs') fun _ _=>⟨xs',upd_same,r.upd hO h1⟩⟩
theorem Fm.seal (F:Fm K H₀ O₀ H O own e σ) (i:Nat) {d:D} (hi:e.at i = .o d):∃ O' own',Fm K H₀ O₀ H O' own' (e.set i (.v d)) σ ∧ ∀ a,O' a → O a:=by
  have q:=F.sl i
  rw [hi] at q
  obtain ⟨p,e1,e2,h1⟩:=q
  have hn:=F.new i p e1
  have hlen:i < e.length:=by
    by_cases h:i < e.length
    · exact h
    · rw [at_out h] at hi;cases hi
  refine ⟨minus O p,fun j=>if j = i then none else own j,⟨by rw [List.length_set];exact F.len,fun j=>?_,fun j k a q1 q2=>?_,F.same,fun a ha=>⟨F.sub a ha,fun z=>?_⟩,F.trk0,fun a ha=>F.trk a ha.1,fun j a q1=>?_⟩,fun a ha=>ha.1⟩
  · by_cases h:i = j
    · subst h
      rw [at_set_same hlen,e2]
      exact ⟨.ref p,rfl,OwnAt.rd (fun z=>z.2 rfl) (h1.weak fun _ z=>z.1)⟩
    · rw [at_set_ne h,if_neg (Ne.symm h)]
      exact RS.map (fun q=>q.weak fun _ z=>z.1) (fun q=>q.weak fun _ z=>z.1) (fun q=>q.weak fun _ z=>z.1) (fun q=>q.weak fun _ z=>z.1) (fun a ys _ _ q=>q) (F.sl j)
  · by_cases h:j = i
    · rw [if_pos h] at q1;cases q1
    · by_cases h':k = i
      · rw [if_pos h'] at q2;cases q2
      · rw [if_neg h] at q1;rw [if_neg h'] at q2;exact F.inj j k a q1 q2
  · obtain ⟨o,w⟩:=F.trk0 a ha
    rw [z,hn.2] at w;cases w
  · by_cases h:j = i
    · rw [if_pos h] at q1;cases q1
    · rw [if_neg h] at q1
      exact ⟨⟨(F.new j a q1).1,fun z=>h (F.inj j i p (z ▸ q1) e1)⟩,(F.new j a q1).2⟩
theorem Fm.val (F:Fm K H₀ O₀ H O own e σ) {i:Nat} {d:D} (h:(e.at i).val = .ok d):∃ v,σ[i]? = some (some v) ∧ RD K H O d v:=by
  have q:=F.sl i
  cases z:e.at i with
  | no=>rw [z] at h;cases h
  | o d=>rw [z] at h;cases h
  | t d=>rw [z] at h;cases h
  | v d' =>
    rw [z] at h q
    cases h
    obtain ⟨v,e1,r⟩:=q
    exact ⟨v,st_get e1,r⟩
theorem Fm.any (F:Fm K H₀ O₀ H O own e σ) {i:Nat} {d:D} (h:(e.at i).any = .ok d):∃ v,σ[i]? = some (some v) ∧ RR K H O d v:=by
  have q:=F.sl i
  cases z:e.at i with
  | no=>rw [z] at h;cases h
  | t d=>rw [z] at h;cases h
  | o d' =>
    rw [z] at h q
    cases h
    obtain ⟨a,e1,e2,h1⟩:=q
    exact ⟨.ref a,st_get e2,.inr ⟨a,rfl,h1⟩⟩
  | v d' =>
    rw [z] at h q
    cases h
    obtain ⟨v,e1,r⟩:=q
    exact ⟨v,st_get e1,.inl r⟩
theorem Sl.own_ok {x:Sl} {a:List D} (h:x.own = .ok a):x = .o (.lst a):=by
  unfold Sl.own at h
  split at h
  · cases h;rfl
  · cases h
theorem Sl.ownA_ok {x:Sl} {a:D} (h:x.ownA = .ok a):x = .o a:=by
  unfold Sl.ownA at h
  split at h
  · cases h;rfl
  · cases h
end
noncomputable def NewL (K:PySem.W.Frag) (H H':Hp) (O:Addr → Prop) (d:D) (v:V):Prop:=d.still = false → ∃ a,v = .ref a ∧ H a = none ∧ OwnAt K H' (plus O a) a d
theorem NewL.back {K:PySem.W.Frag} {H1 H H':Hp} {O:Addr → Prop} {d:D} {v:V} (s:Same H1 H) (n:NewL K H H' O d v):NewL K H1 H' O d v:=fun z=>by
  obtain ⟨a,h1,h2,h3⟩:=n z
  exact ⟨a,h1,s.free h2,h3⟩
theorem NewL.weak {K:PySem.W.Frag} {H H':Hp} {O O':Addr → Prop} {d:D} {v:V} (s:∀ a,O' a → O a) (n:NewL K H H' O d v):NewL K H H' O' d v:=fun z=>by
  obtain ⟨a,h1,h2,h3⟩:=n z
  exact ⟨a,h1,h2,h3.weak fun b hb=>hb.imp (s b) id⟩
theorem NewL.still {K:PySem.W.Frag} {H H':Hp} {O:Addr → Prop} {d:D} {v:V} (h:d.still = true):NewL K H H' O d v:=fun z=>by rw [h] at z;cases z
noncomputable def NewR (K:PySem.W.Frag) (H H':Hp) (O:Addr → Prop) (d:D) (v:V):Prop:=NewL K H H' O d v ∧ ∀ a r,d = .tup (.lst a :: r) → ∃ t p ys vs,v = .ref t ∧ SqT K H' t (.ref p :: vs) ∧ H p = none ∧ H' p = some (.lst ys) ∧ RDs K H' (plus O p) a ys ∧ RDs K H' (plus O p) r vs
theorem NewR.of {K:PySem.W.Frag} {H H':Hp} {O:Addr → Prop} {d:D} {v:V} (n:NewL K H H' O d v) (h:tupL d = false):NewR K H H' O d v:=⟨n,fun a r z=>by subst z;cases h⟩
section
variable (T:Tab) (cf:Nat → List D → Res D) (K:PySem.W.Frag) (H₀:Hp) (O₀:Addr → Prop)
noncomputable def tE (x:E):TE:=fun σ H Q=>∃ O own e d,Fm K H₀ O₀ H O own e σ ∧ evE T cf x e = .ok d ∧ ∀ v H',Same H H' → RD K H' O d v → (freshE T x = true → NewL K H H' O d v) → Q v H'
noncomputable def tR (x:E):TE:=fun σ H Q=>∃ O own e d,Fm K H₀ O₀ H O own e σ ∧ evE T cf x e = .ok d ∧ ∀ v H',Same H H' → RR K H' O d v → Q v H'
noncomputable def tT (x:E):TT:=fun σ H Q=>∃ O own e d k,Fm K H₀ O₀ H O own e σ ∧ evE T cf x e = .ok d ∧ d.truth = .ok k ∧ ∀ H',Same H H' → Q k H'
noncomputable def tAv (x:E):TA:=fun σ H Q=>∃ O own e ds,Fm K H₀ O₀ H O own e σ ∧ evA T cf x e = .ok ds ∧ ∀ vs H',Same H H' → RDs K H' O ds vs → Q vs H'
noncomputable def tAr (x:E):TA:=fun σ H Q=>∃ O own e ds,Fm K H₀ O₀ H O own e σ ∧ evA T cf x e = .ok ds ∧ ∀ vs H',Same H H' → RRs K H' O ds vs → Q vs H'
end
section
variable (T:Tab) (cf:Nat → List D → Res D) (X:Cx)
noncomputable def SE (x:E) (p:Expr):Prop:=∀ H₀ O₀,PE X p (tE T cf X.K H₀ O₀ x)
noncomputable def SR (x:E) (p:Expr):Prop:=∀ H₀ O₀,PE X p (tR T cf X.K H₀ O₀ x)
noncomputable def ST (x:E) (p:Expr):Prop:=∀ H₀ O₀,PT X p (tT T cf X.K H₀ O₀ x)
noncomputable def SAv (x:E) (p:List Expr):Prop:=∀ H₀ O₀,PA X p (tAv T cf X.K H₀ O₀ x)
noncomputable def SAr (x:E) (p:List Expr):Prop:=∀ H₀ O₀,PA X p (tAr T cf X.K H₀ O₀ x)
end
section
variable {T:Tab} {cf:Nat → List D → Res D} {X:Cx} {x y z:E} {p q r:Expr} {pos:Pos}
theorem PE.imp {t t':TE} (h:∀ σ H Q,t' σ H Q → t σ H Q) (hp:PE X p t):PE X p t':=fun pins s σ H Q I q=>hp pins s σ H Q I (h σ H Q q)
theorem PT.imp {t t':TT} (h:∀ σ H Q,t' σ H Q → t σ H Q) (hp:PT X p t):PT X p t':=fun pins s σ H Q I q=>hp pins s σ H Q I (h σ H Q q)
theorem SE.sr (h:SE T cf X x p):SR T cf X x p:=fun H₀ O₀=>PE.imp (fun σ H Q ⟨O,own,e,d,F,ev,q⟩=>⟨O,own,e,d,F,ev,fun v H' s r _=>q v H' s r.rr⟩) (h H₀ O₀)
theorem SAv.sr {ps:List Expr} (h:SAv T cf X x ps):SAr T cf X x ps:=fun H₀ O₀ pos pins s σ H Q I ⟨O,own,e,ds,F,ev,q⟩=>h H₀ O₀ pos pins s σ H Q I ⟨O,own,e,ds,F,ev,fun vs H' s r=>q vs H' s r.rr⟩
theorem se_var {i:Nat} {n:Str} (hN:X.N[i]? = some n) (hv:Vis X.env.scope n) (hd:(n == ("__debug__" : Str)) = false) (hc:(n == ("__classdict__" : Str)) = false):SE T cf X (.var i) (.Name n pos):=fun H₀ O₀ =>
  PE.imp (fun σ H Q ⟨O,own,e,d,F,ev,q⟩=>by
    obtain ⟨v,h1,h2⟩:=F.val (i:=i) (by rw [xE_var] at ev;exact ev)
    exact ⟨v,h1,q v H (Same.refl H) h2 (fun z=>by cases z)⟩) (pe_var hN hv hd hc)
theorem sr_rd {i:Nat} {n:Str} (hN:X.N[i]? = some n) (hv:Vis X.env.scope n) (hd:(n == ("__debug__" : Str)) = false) (hc:(n == ("__classdict__" : Str)) = false):SR T cf X (.rd i) (.Name n pos):=fun H₀ O₀ =>
  PE.imp (fun σ H Q ⟨O,own,e,d,F,ev,q⟩=>by
    obtain ⟨v,h1,h2⟩:=F.any (i:=i) (by rw [xE_rd] at ev;exact ev)
    exact ⟨v,h1,q v H (Same.refl H) h2⟩) (pe_var hN hv hd hc)
noncomputable def cstIs:D → Const → Bool
  | .non,.none=>true
  | .bl a,.bool b=>a == b
  | .int i,.int j=>i == j
  | .str a,.str b=>a == b
  | _,_=>false
theorem se_con {d:D} {c:Const} {k:Nat} (h:cstIs d c = true):SE T cf X (.con d) (.Constant c k pos):=fun H₀ O₀=>by
  have fin:∀ {v:V} {σ:L2.St} {H:Hp} {Q:VK},(∀ H O,RD X.K H O d v) → tE T cf X.K H₀ O₀ (.con d) σ H Q → Q v H:=fun hv ⟨O,own,e,d',F,ev,q⟩=>by
    rw [xE_con] at ev;cases ev
    exact q _ _ (Same.refl _) (hv _ _) (fun z=>by cases z)
  cases d <;> cases c <;> first
    | (exact absurd (show false = true from h) Bool.false_ne_true)
    | (exact PE.imp (fun σ H Q w=>fin (v:=.non) (fun _ _=>rfl) w) pe_non)
    | (have e:=eq_of_beq (show _ == _ from h);subst e;first
        | exact PE.imp (fun σ H Q w=>fin (fun _ _=>rfl) w) pe_bl
        | exact PE.imp (fun σ H Q w=>fin (fun _ _=>rfl) w) pe_int
        | exact PE.imp (fun σ H Q w=>fin (fun _ _=>rfl) w) pe_str)
noncomputable def GlobIs (X:Cx) (n:Str) (d:D):Prop:=∃ v u,X.mg n = some u ∧ RelV v u ∧ ∀ H O,RD X.K H O d v
noncomputable def rD2 (K:PySem.W.Frag) (f:D → D → Res D) (fr:Bool):R2:=fun x y H Q=>∃ O d1 d2 d,RR K H O d1 x ∧ RR K H O d2 y ∧ f d1 d2 = .ok d ∧ (∀ a,O a → ∃ o,H a = some o) ∧ ∀ v H',Same H H' → RD K H' O d v → (fr = true → NewL K H H' O d v) → Q v H'
theorem se_op2 {w:E} {pe:Expr} {f:D → D → Res D} (hw:∀ e,evE T cf w e = (do let a ← evE T cf x e;let b ← evE T cf y e;f a b))
    (hop:∀ {ta tb:TE},PE X p ta → PE X q tb → PE X pe (tOp (rD2 X.K f (freshE T w)) ta tb)) (ha:SR T cf X x p) (hb:SR T cf X y q):SE T cf X w pe:=fun H₀ O₀=>by
  refine PE.imp (fun σ H Q hq=>?_) (hop (ha H₀ O₀) (hb H₀ O₀))
  obtain ⟨O,own,e,d,F,ev,k⟩:=hq
  rw [hw] at ev
  obtain ⟨d1,e1,ev⟩:=Res.bind_ok ev
  obtain ⟨d2,e2,ev⟩:=Res.bind_ok ev
  refine ⟨O,own,e,d1,F,e1,fun v1 H1 s1 r1=>?_⟩
  refine ⟨O,own,e,d2,F.grow s1,e2,fun v2 H2 s2 r2=>?_⟩
  refine ⟨O,d1,d2,d,r1.same s2,r2,ev,fun a ha=>?_,fun v H' s3 r3 n3=>?_⟩
  · exact (F.grow (s1.trans s2)).trk a ha
  · exact k v H' ((s1.trans s2).trans s3) r3 fun fr=>(n3 fr).back (s1.trans s2)
end
end Tr
namespace Tr
open PySem PySem.Spec PyProof.Rows L2
noncomputable abbrev no:Addr → Prop:=fun _=>False
section
variable {X:Cx} {pins:List (Addr × Obj)} {σ:L2.St} {H:Hp} {s:Shared}
theorem sq_apart (I:Inv X pins σ H s) {a:Addr} {xs ys:List V} (h1:SqL X.K H a xs) (h2:SqT X.K H a ys):False:=by
  obtain ⟨its,_,pl,_⟩:=I.list h1
  obtain ⟨its',_,pt,_⟩:=I.tuple h2
  exact SeqAt.ne_of_list_tuple pl.isList pt rfl
theorem RD.sql {K:PySem.W.Frag} {O:Addr → Prop} {ds:List D} {v:V} (h:RD K H O (.lst ds) v):∃ a xs,v = .ref a ∧ SqL K H a xs ∧ RDs K H O ds xs:=RR.lst (.inl h)
theorem dk_class (I:Inv X pins σ H s) {a:Addr} {ps:List (Key × V)} (h:H a = some (.dK ps)):∃ o,s.heap.get? a = some o ∧ o.cls = .type "dict" := by
  obtain ⟨_,_,vs,_,o,es,ep,e,c,_⟩:=(show ObjOk X.prog X.w H s.heap a (.dK ps) from I.hok a _ h)
  exact ⟨o,e,c.1⟩
theorem dk_lst (I:Inv X pins σ H s) {a:Addr} {ps:List (Key × V)} {xs:List V} (h:H a = some (.dK ps)) (h2:SqL X.K H a xs):False:=by
  obtain ⟨its,_,pl,_⟩:=I.list h2
  obtain ⟨o,e,c⟩:=dk_class I h
  obtain ⟨o',e',c',_⟩:=pl.isList
  rw [e] at e';cases e'
  rw [c] at c'
  injection c' with z
  exact absurd z (by decide)
theorem dk_tup (I:Inv X pins σ H s) {a:Addr} {ps:List (Key × V)} {xs:List V} (h:H a = some (.dK ps)) (h2:SqT X.K H a xs):False:=by
  obtain ⟨its,_,pl,_⟩:=I.tuple h2
  obtain ⟨o,e,c⟩:=dk_class I h
  obtain ⟨o',e',c',_⟩:=pl
  rw [e] at e';cases e'
  rw [c] at c'
  injection c' with z
  exact absurd z (by decide)
theorem dt_class (I:Inv X pins σ H s) {a:Addr} {ps:List (List Key × V)} (h:H a = some (.dT ps)):∃ o,s.heap.get? a = some o ∧ o.cls = .type "dict" := by
  obtain ⟨_,_,vs,_,o,es,ep,e,c,_⟩:=(show ObjOk X.prog X.w H s.heap a (.dT ps) from I.hok a _ h)
  exact ⟨o,e,c.1⟩
theorem dt_lst (I:Inv X pins σ H s) {a:Addr} {ps:List (List Key × V)} {xs:List V} (h:H a = some (.dT ps)) (h2:SqL X.K H a xs):False:=by
  obtain ⟨its,_,pl,_⟩:=I.list h2
  obtain ⟨o,e,c⟩:=dt_class I h
  obtain ⟨o',e',c',_⟩:=pl.isList
  rw [e] at e';cases e'
  rw [c] at c'
  injection c' with z
  exact absurd z (by decide)
theorem dt_tup (I:Inv X pins σ H s) {a:Addr} {ps:List (List Key × V)} {xs:List V} (h:H a = some (.dT ps)) (h2:SqT X.K H a xs):False:=by
  obtain ⟨its,_,pl,_⟩:=I.tuple h2
  obtain ⟨o,e,c⟩:=dt_class I h
  obtain ⟨o',e',c',_⟩:=pl
  rw [e] at e';cases e'
  rw [c] at c'
  injection c' with z
  exact absurd z (by decide)
mutual
theorem RD.inj (I:Inv X pins σ H s):∀ {d d':D} {v:V},RD X.K H no d v → RD X.K H no d' v → d = d'
  | .non,d',v,h,h'=>by cases (show v = .non from h);cases d' <;> first | (obtain ⟨a,xs,e,_⟩:=h';cases e;done) | rfl | (cases h';done)
  | .bl b,d',v,h,h'=>by cases (show v = .bl b from h);cases d' <;> first | (obtain ⟨a,xs,e,_⟩:=h';cases e;done) | rfl | (cases h';rfl) | (cases h';done)
  | .int b,d',v,h,h'=>by cases (show v = .int b from h);cases d' <;> first | (obtain ⟨a,xs,e,_⟩:=h';cases e;done) | rfl | (cases h';rfl) | (cases h';done)
  | .str b,d',v,h,h'=>by cases (show v = .str b from h);cases d' <;> first | (obtain ⟨a,xs,e,_⟩:=h';cases e;done) | rfl | (cases h';rfl) | (cases h';done)
  | .tup ds,d',v,h,h'=>by
    obtain ⟨a,xs,e,q,r⟩:=h
    subst e
    cases d' with
    | tup ds' =>
      obtain ⟨a',xs',e,q',r'⟩:=h'
      cases e
      have:=I.tuple_inj q q'
      subst this
      rw [RDs.inj I r r']
    | lst ds' =>
      obtain ⟨a',xs',e,q',r'⟩:=RD.sql h'
      cases e
      exact (sq_apart I q' q).elim
    | non=>cases h'
    | bl _=>cases h'
    | int _=>cases h'
    | str _=>cases h'
    | dct _ =>
      obtain ⟨a',xs',e,q',r'⟩:=h'
      cases e
      exact (dk_tup I q'.2 q).elim
    | tdc _ =>
      obtain ⟨a',xs',e,q',r'⟩:=h'
      cases e
      exact (dt_tup I q'.2 q).elim
  | .lst ds,d',v,h,h'=>by
    obtain ⟨a,xs,e,q,r⟩:=RD.sql h
    subst e
    cases d' with
    | lst ds' =>
      obtain ⟨a',xs',e,q',r'⟩:=RD.sql h'
      cases e
      have:=I.list_inj q q'
      subst this
      rw [RDs.inj I r r']
    | tup ds' =>
      obtain ⟨a',xs',e,q',r'⟩:=h'
      cases e
      exact (sq_apart I q q').elim
    | non=>cases h'
    | bl _=>cases h'
    | int _=>cases h'
    | str _=>cases h'
    | dct _ =>
      obtain ⟨a',xs',e,q',r'⟩:=h'
      cases e
      exact (dk_lst I q'.2 q).elim
    | tdc _ =>
      obtain ⟨a',xs',e,q',r'⟩:=h'
      cases e
      exact (dt_lst I q'.2 q).elim
  | .dct kvs,d',v,h,h'=>by
    obtain ⟨a,xs,e,q,r⟩:=h
    subst e
    cases d' with
    | dct kvs' =>
      obtain ⟨a',xs',e,q',r'⟩:=h'
      cases e
      have:=q.2.symm.trans q'.2
      cases this
      rw [RDk.inj I r r']
    | tup ds' =>
      obtain ⟨a',xs',e,q',r'⟩:=h'
      cases e
      exact (dk_tup I q.2 q').elim
    | lst ds' =>
      obtain ⟨a',xs',e,q',r'⟩:=RD.sql h'
      cases e
      exact (dk_lst I q.2 q').elim
    | non=>cases h'
    | bl _=>cases h'
    | int _=>cases h'
    | str _=>cases h'
    | tdc _ =>
      obtain ⟨a',xs',e,q',r'⟩:=h'
      cases e
      have:=q.2.symm.trans q'.2
      cases this
  | .tdc kvs,d',v,h,h'=>by
    obtain ⟨a,xs,e,q,r⟩:=h
    subst e
    cases d' with
    | tdc kvs' =>
      obtain ⟨a',xs',e,q',r'⟩:=h'
      cases e
      have:=q.2.symm.trans q'.2
      cases this
      rw [RDt.inj I r r']
    | tup ds' =>
      obtain ⟨a',xs',e,q',r'⟩:=h'
      cases e
      exact (dt_tup I q.2 q').elim
    | lst ds' =>
      obtain ⟨a',xs',e,q',r'⟩:=RD.sql h'
      cases e
      exact (dt_lst I q.2 q').elim
    | non=>cases h'
    | bl _=>cases h'
    | int _=>cases h'
    | str _=>cases h'
    | dct _ =>
      obtain ⟨a',xs',e,q',r'⟩:=h'
      cases e
      have:=q.2.symm.trans q'.2
      cases this
theorem RDs.inj (I:Inv X pins σ H s):∀ {ds ds':List D} {vs:List V},RDs X.K H no ds vs → RDs X.K H no ds' vs → ds = ds'
  | [],[],_,_,_=>rfl
  | [],_ :: _,_,h,h'=>by
    rw [RDs] at h;subst h
    obtain ⟨_,_,e,_⟩:=h';cases e
  | _ :: _,[],_,h,h'=>by
    rw [RDs] at h';subst h'
    obtain ⟨_,_,e,_⟩:=h;cases e
  | d :: ds,d' :: ds',vs,h,h'=>by
    obtain ⟨v,r,rfl,h1,h2⟩:=h
    obtain ⟨v',r',e,h1',h2'⟩:=h'
    cases e
    rw [RD.inj I h1 h1',RDs.inj I h2 h2']
theorem RDk.inj (I:Inv X pins σ H s):∀ {ds ds':List (Sum Int Str × D)} {vs:List (Key × V)},RDk X.K H no ds vs → RDk X.K H no ds' vs → ds = ds'
  | [],[],_,_,_=>rfl
  | [],_ :: _,_,h,h'=>by
    rw [RDk] at h;subst h
    obtain ⟨_,_,e,_⟩:=h';cases e
  | _ :: _,[],_,h,h'=>by
    rw [RDk] at h';subst h'
    obtain ⟨_,_,e,_⟩:=h;cases e
  | (k,d) :: ds,(k',d') :: ds',vs,h,h'=>by
    obtain ⟨v,r,rfl,h1,h2⟩:=h
    obtain ⟨v',r',e,h1',h2'⟩:=h'
    cases e
    rw [RD.inj I h1 h1',RDk.inj I h2 h2']
theorem RDt.inj (I:Inv X pins σ H s):∀ {ds ds':List (List (Sum Int Str) × D)} {vs:List (List Key × V)},RDt X.K H no ds vs → RDt X.K H no ds' vs → ds = ds'
  | [],[],_,_,_=>rfl
  | [],_ :: _,_,h,h'=>by
    rw [RDt] at h;subst h
    obtain ⟨_,_,e,_⟩:=h';cases e
  | _ :: _,[],_,h,h'=>by
    rw [RDt] at h';subst h'
    obtain ⟨_,_,e,_⟩:=h;cases e
  | (k,d) :: ds,(k',d') :: ds',vs,h,h'=>by
    obtain ⟨v,r,rfl,h1,h2⟩:=h
    obtain ⟨v',r',e,h1',h2'⟩:=h'
    cases e
    rw [RD.inj I h1 h1',RDt.inj I h2 h2']
end
noncomputable def pairEq (xs ys:List D) (j:Nat):Bool:=match xs[j]?,ys[j]? with
  | some x,some y=>D.eqb x y
  | _,_=>false
theorem pairEq_succ (x y:D) (xs ys:List D) (j:Nat):pairEq (x :: xs) (y :: ys) (j + 1) = pairEq xs ys j:=by simp [pairEq]
theorem eqs_all:∀ xs ys:List D,xs.length = ys.length → (List.range xs.length).all (pairEq xs ys) = D.eqs xs ys
  | [],[],_=>by simp [D.eqs]
  | [],_ :: _,h=>by simp at h
  | _ :: _,[],h=>by simp at h
  | x :: xs,y :: ys,h=>by
    rw [List.length_cons,List.range_succ_eq_map,List.all_cons,List.all_map,D.eqs,← eqs_all xs ys (by simpa using h)]
    congr 1
theorem eqs_len:∀ xs ys:List D,xs.length ≠ ys.length → D.eqs xs ys = false
  | [],[],h=>by simp at h
  | [],_ :: _,_=>by simp [D.eqs]
  | _ :: _,[],_=>by simp [D.eqs]
  | x :: xs,y :: ys,h=>by rw [D.eqs,eqs_len xs ys (by simpa using h),Bool.and_false]
theorem min_len {xs ys:List D}:((List.range (min xs.length ys.length)).all (pairEq xs ys) && xs.length == ys.length) = D.eqs xs ys:=by
  by_cases h:xs.length = ys.length
  · rw [← eqs_all xs ys h,h,Nat.min_self];simp
  · rw [eqs_len xs ys h];simp [h]
inductive Sees (X:Cx) (H:Hp) (s:Shared):D → Value → Prop
  | non:Sees X H s .non .none
  | bl (b):Sees X H s (.bl b) (.bool b)
  | int (i t):Sees X H s (.int i) (.int i t)
  | str (x t):Sees X H s (.str x) (.str x t)
  | tup (ds:List D) (a:Addr) (xs:List V) (its:List Value):SqT X.K H a xs → RDs X.K H no ds xs → Vals xs its → IsTup s.heap a its.toArray → Sees X H s (.tup ds) (.ref a)
  | lst (ds:List D) (a:Addr) (xs:List V) (its:List Value):SqL X.K H a xs → RDs X.K H no ds xs → Vals xs its → PlainL s.heap a its.toArray → Sees X H s (.lst ds) (.ref a)
  | dct (ds:List (Sum Int Str × D)) (a:Addr) (ps:List (Key × V)):H a = some (.dK ps) → RDk X.K H no ds ps → Sees X H s (.dct ds) (.ref a)
  | tdc (ds:List (List (Sum Int Str) × D)) (a:Addr) (ps:List (List Key × V)):H a = some (.dT ps) → RDt X.K H no ds ps → Sees X H s (.tdc ds) (.ref a)
theorem sees (I:Inv X pins σ H s) {d:D} {v:V} {u:Value} (h:RD X.K H no d v) (r:RelV v u):Sees X H s d u:=by
  cases d with
  | non=>cases (show v = .non from h);cases r;exact .non
  | bl b=>cases (show v = .bl b from h);cases r;exact .bl b
  | int i=>cases (show v = .int i from h);obtain ⟨t,rfl⟩:=r;exact .int i t
  | str x=>cases (show v = .str x from h);obtain ⟨t,rfl⟩:=r;exact .str x t
  | tup ds =>
    obtain ⟨a,xs,rfl,q,w⟩:=h
    cases r
    obtain ⟨its,r1,p1,_⟩:=I.tuple q
    exact .tup ds a xs its q w r1 p1
  | lst ds =>
    obtain ⟨a,xs,rfl,q,w⟩:=RD.sql h
    cases r
    obtain ⟨its,r1,p1,_⟩:=I.list q
    exact .lst ds a xs its q w r1 p1
  | dct ds =>
    obtain ⟨a,ps,rfl,q,w⟩:=h
    cases r
    exact .dct ds a ps q.2 w
  | tdc ds =>
    obtain ⟨a,ps,rfl,q,w⟩:=h
    cases r
    exact .tdc ds a ps q.2 w
theorem rds_at {ds:List D} {xs:List V} {its:List Value} (w:RDs X.K H no ds xs) (r:Vals xs its):its.length = ds.length:=by rw [← r.length,w.length]
noncomputable def EqItems (X:Cx) (H:Hp) (s:Shared) (n:Nat):Prop:=∀ (ds1 ds2:List D) (A:Around) (us1 us2:List Value) (xs1 xs2:List V),RDs X.K H no ds1 xs1 → Vals xs1 us1 → RDs X.K H no ds2 xs2 → Vals xs2 us2 → D.pls n ds1 = true → D.pls n ds2 = true → A.units + n < cLine →
    ∀ j (h1:j < us1.length) (h2:j < us2.length),SeqAt.EqAt A.in1 s us1[j] us2[j] (pairEq ds1 ds2 j)
noncomputable def EqData (X:Cx) (H:Hp) (s:Shared) (n:Nat):Prop:=∀ (d1 d2:D) (A:Around) (u1 u2:Value),Sees X H s d1 u1 → Sees X H s d2 u2 → D.pl n d1 = true → D.pl n d2 = true → A.units + n < cLine → SeqAt.EqAt A s u1 u2 (D.eqb d1 d2)
theorem eqData_of (I:Inv X pins σ H s) {n:Nat} (it:EqItems X H s n):EqData X H s n:=by
  intro d1 d2 A u1 u2 h1 h2 f1 f2 hu
  have hu':A.units < cLine:=by (first | lia | omega)
  have nd2:∀ ds,d2 ≠ .dct ds:=fun ds z=>by rw [z,D.pl] at f2;cases f2
  have nt2:∀ ds,d2 ≠ .tdc ds:=fun ds z=>by rw [z,D.pl] at f2;cases f2
  cases h1 with
  | dct ds a ps q w=>rw [D.pl] at f1;cases f1
  | tdc ds a ps q w=>rw [D.pl] at f1;cases f1
  | non=>cases h2 with
    | non=>exact SeqAt.EqAt.same _
    | bl b=>exact SeqAt.EqAt.none_bool b
    | int b t=>exact SeqAt.EqAt.none_int b t
    | str b t=>exact SeqAt.EqAt.none_str b t
    | tup ds a xs its q w r p=>exact SeqAt.EqAt.none_tuple p hu'
    | lst ds a xs its q w r p=>exact SeqAt.EqAt.none_list p.isList hu'
    | dct ds a ps q w=>exact absurd rfl (nd2 ds)
    | tdc ds a ps q w=>exact absurd rfl (nt2 ds)
  | bl x=>cases h2 with
    | non=>exact SeqAt.EqAt.bool_none x
    | bl b=>exact SeqAt.EqAt.bool_bool x b
    | int b t=>exact SeqAt.EqAt.bool_int x b t
    | str b t=>exact SeqAt.EqAt.bool_str x b t
    | tup ds a xs its q w r p=>exact SeqAt.EqAt.bool_tuple x p hu'
    | lst ds a xs its q w r p=>exact SeqAt.EqAt.bool_list x p.isList hu'
    | dct ds a ps q w=>exact absurd rfl (nd2 ds)
    | tdc ds a ps q w=>exact absurd rfl (nt2 ds)
  | int x t'=>cases h2 with
    | non=>exact SeqAt.EqAt.int_none x t'
    | bl b=>exact SeqAt.EqAt.int_bool x t' b
    | int b t=>exact SeqAt.EqAt.int_int x t' b t
    | str b t=>exact SeqAt.EqAt.int_str x t' b t
    | tup ds a xs its q w r p=>exact SeqAt.EqAt.int_tuple x t' p hu'
    | lst ds a xs its q w r p=>exact SeqAt.EqAt.int_list x t' p.isList hu'
    | dct ds a ps q w=>exact absurd rfl (nd2 ds)
    | tdc ds a ps q w=>exact absurd rfl (nt2 ds)
  | str x t'=>cases h2 with
    | non=>exact SeqAt.EqAt.str_none x t'
    | bl b=>exact SeqAt.EqAt.str_bool x t' b
    | int b t=>exact SeqAt.EqAt.str_int x t' b t
    | str b t=>exact SeqAt.EqAt.str_str x t' b t
    | tup ds a xs its q w r p=>exact SeqAt.EqAt.str_tuple x t' p hu'
    | lst ds a xs its q w r p=>exact SeqAt.EqAt.str_list x t' p.isList hu'
    | dct ds a ps q w=>exact absurd rfl (nd2 ds)
    | tdc ds a ps q w=>exact absurd rfl (nt2 ds)
  | tup ds1 a1 xs1 its1 q1 w1 r1 p1=>cases h2 with
    | non=>exact SeqAt.EqAt.tuple_none p1 hu'
    | bl b=>exact SeqAt.EqAt.tuple_bool b p1 hu'
    | int b t=>exact SeqAt.EqAt.tuple_int b t p1 hu'
    | str b t=>exact SeqAt.EqAt.tuple_str b t p1 hu'
    | lst ds a xs its q w r p=>exact SeqAt.EqAt.tuple_list p1 p.isList hu'
    | dct ds a ps q w=>exact absurd rfl (nd2 ds)
    | tdc ds a ps q w=>exact absurd rfl (nt2 ds)
    | tup ds2 a2 xs2 its2 q2 w2 r2 p2 =>
      by_cases ha:a1 = a2
      · subst ha
        have:=I.tuple_inj q1 q2
        subst this
        have:=RDs.inj I w1 w2
        subst this
        rw [D.eqb_refl n _ f1]
        exact SeqAt.EqAt.same _
      · rw [D.eqb,← min_len,← rds_at w1 r1,← rds_at w2 r2]
        have z:=SeqAt.EqAt.of_refs ha (SeqAt.RcAt.tuples (A:=A) (e:=pairEq ds1 ds2) p1 p2 hu' fun j j1 j2=>by
          have:=it ds1 ds2 A its1 its2 xs1 xs2 w1 r1 w2 r2 (by rw [D.pl] at f1;exact f1) (by rw [D.pl] at f2;exact f2) hu j (by simpa using j1) (by simpa using j2)
          simpa using this)
        simpa using z
  | lst ds1 a1 xs1 its1 q1 w1 r1 p1=>cases h2 with
    | non=>exact SeqAt.EqAt.list_none p1.isList hu'
    | bl b=>exact SeqAt.EqAt.list_bool b p1.isList hu'
    | int b t=>exact SeqAt.EqAt.list_int b t p1.isList hu'
    | str b t=>exact SeqAt.EqAt.list_str b t p1.isList hu'
    | tup ds a xs its q w r p=>exact SeqAt.EqAt.list_tuple p1.isList p hu'
    | dct ds a ps q w=>exact absurd rfl (nd2 ds)
    | tdc ds a ps q w=>exact absurd rfl (nt2 ds)
    | lst ds2 a2 xs2 its2 q2 w2 r2 p2 =>
      by_cases ha:a1 = a2
      · subst ha
        have:=I.list_inj q1 q2
        subst this
        have:=RDs.inj I w1 w2
        subst this
        rw [D.eqb_refl n _ f1]
        exact SeqAt.EqAt.same _
      · have l1:=rds_at w1 r1
        have l2:=rds_at w2 r2
        rw [D.eqb]
        by_cases hl:ds1.length = ds2.length
        · rw [← eqs_all ds1 ds2 hl,← l1]
          have z:=SeqAt.EqAt.of_refs ha (SeqAt.RcAt.lists (A:=A) (e:=pairEq ds1 ds2) p1.isList p2.isList (by simp only [List.size_toArray];(first | lia | omega)) hu' fun j j1 j2=>by
            have:=it ds1 ds2 A its1 its2 xs1 xs2 w1 r1 w2 r2 (by rw [D.pl] at f1;exact f1) (by rw [D.pl] at f2;exact f2) hu j (by simpa using j1) (by simpa using j2)
            simpa using this)
          simpa using z
        · rw [eqs_len ds1 ds2 hl]
          exact SeqAt.EqAt.of_refs ha (SeqAt.RcAt.lists_lengths p1.isList p2.isList (by simp only [List.size_toArray,bne_iff_ne,ne_eq];(first | lia | omega)) hu')
theorem eqItems_zero:EqItems X H s 0:=by
  intro ds1 ds2 A us1 us2 xs1 xs2 w1 r1 w2 r2 f1 f2 hu j h1 h2
  cases ds1 with
  | nil =>
    rw [RDs] at w1;subst w1
    cases r1
    exact absurd h1 (Nat.not_lt_zero _)
  | cons d ds=>rw [D.pls] at f1;cases f1
theorem eqItems_succ (I:Inv X pins σ H s) {n:Nat} (ih:EqData X H s n):EqItems X H s (n + 1):=by
  intro ds1
  induction ds1 with
  | nil =>
    intro ds2 A us1 us2 xs1 xs2 w1 r1 w2 r2 f1 f2 hu j h1 h2
    rw [RDs] at w1;subst w1
    cases r1
    exact absurd h1 (Nat.not_lt_zero _)
  | cons d1 ds1 ih2 =>
    intro ds2 A us1 us2 xs1 xs2 w1 r1 w2 r2 f1 f2 hu j h1 h2
    cases ds2 with
    | nil =>
      rw [RDs] at w2;subst w2
      cases r2
      exact absurd h2 (Nat.not_lt_zero _)
    | cons d2 ds2 =>
      obtain ⟨v1,y1,rfl,e1,w1⟩:=w1
      obtain ⟨v2,y2,rfl,e2,w2⟩:=w2
      cases r1 with
      | cons a1 r1 =>
        cases r2 with
        | cons a2 r2 =>
          rw [D.pls,Bool.and_eq_true] at f1 f2
          cases j with
          | zero=>exact ih d1 d2 A.in1 _ _ (sees I e1 a1) (sees I e2 a2) f1.1 f2.1 (by show A.units + 1 + n < cLine;(first | lia | omega))
          | succ j =>
            rw [pairEq_succ]
            exact ih2 ds2 A _ _ _ _ w1 r1 w2 r2 f1.2 f2.2 hu j (Nat.lt_of_succ_lt_succ h1) (Nat.lt_of_succ_lt_succ h2)
theorem eqItems (I:Inv X pins σ H s):∀ n,EqItems X H s n
  | 0=>eqItems_zero
  | n + 1=>eqItems_succ I (eqData_of I (eqItems I n))
theorem eqAt_D (I:Inv X pins σ H s) (n:Nat):EqData X H s n:=eqData_of I (eqItems I n)
theorem eqAt_Ds (I:Inv X pins σ H s) (n:Nat):EqItems X H s n:=eqItems I n
end
end Tr
namespace Tr
open PySem PySem.Spec PyProof.Rows L2
theorem same_upd {H:Hp} {p:Addr} (h:H p = none) (o:HO):Same H (upd H p o):=fun b u q=>by rw [upd_ne (ne_of_none q h)];exact q
section
variable {K:PySem.W.Frag} {H:Hp} {O:Addr → Prop} {p:Addr} {ds:List D} {xs:List V}
theorem new_lst (w:RDs K H O ds xs) (hp:H p = none) (tr:∀ a,O a → ∃ o,H a = some o):RD K (upd H p (.lst xs)) O (.lst ds) (.ref p) ∧ NewL K H (upd H p (.lst xs)) O (.lst ds) (.ref p):=by
  have nO:¬ O p:=fun z=>by
    obtain ⟨o,q⟩:=tr p z
    rw [hp] at q;cases q
  exact ⟨⟨p,xs,rfl,.inl ⟨nO,.inl upd_same⟩,w.same (same_upd hp _)⟩,fun _=>⟨p,rfl,hp,xs,upd_same,(w.new hp).same (same_upd hp _)⟩⟩
theorem new_tup (w:RDs K H O ds xs) (hp:H p = none):RD K (upd H p (.tup xs)) O (.tup ds) (.ref p):=⟨p,xs,rfl,.of upd_same,w.same (same_upd hp _)⟩
end
section
variable {X:Cx} {pins:List (Addr × Obj)} {σ:L2.St} {H:Hp} {s:Shared}
theorem rcAt_D (I:Inv X pins σ H s) {n:Nat} {d1 d2:D} {A:Around} {u1 u2:Value} (h1:Sees X H s d1 u1) (h2:Sees X H s d2 u2) (f1:D.pl n d1 = true) (f2:D.pl n d2 = true) (hu:A.units + n < cLine):SeqAt.RcAt A s u1 u2 (D.eqb d1 d2):=by
  have hu':A.units < cLine:=by (first | lia | omega)
  have nd2:∀ ds,d2 ≠ .dct ds:=fun ds z=>by rw [z,D.pl] at f2;cases f2
  have nt2:∀ ds,d2 ≠ .tdc ds:=fun ds z=>by rw [z,D.pl] at f2;cases f2
  cases h1 with
  | dct ds a ps q w=>rw [D.pl] at f1;cases f1
  | tdc ds a ps q w=>rw [D.pl] at f1;cases f1
  | non=>cases h2 with
    | non=>exact SeqAt.RcAt.none_none
    | bl b=>exact SeqAt.RcAt.none_bool b
    | int b t=>exact SeqAt.RcAt.none_int b t
    | str b t=>exact SeqAt.RcAt.none_str b t
    | tup ds a xs its q w r p=>exact SeqAt.RcAt.none_tuple p hu'
    | lst ds a xs its q w r p=>exact SeqAt.RcAt.none_list p.isList hu'
    | dct ds a ps q w=>exact absurd rfl (nd2 ds)
    | tdc ds a ps q w=>exact absurd rfl (nt2 ds)
  | bl x=>cases h2 with
    | non=>exact SeqAt.RcAt.bool_none x
    | bl b=>exact SeqAt.RcAt.bool_bool x b
    | int b t=>exact SeqAt.RcAt.bool_int x b t
    | str b t=>exact SeqAt.RcAt.bool_str x b t
    | tup ds a xs its q w r p=>exact SeqAt.RcAt.bool_tuple x p hu'
    | lst ds a xs its q w r p=>exact SeqAt.RcAt.bool_list x p.isList hu'
    | dct ds a ps q w=>exact absurd rfl (nd2 ds)
    | tdc ds a ps q w=>exact absurd rfl (nt2 ds)
  | int x t'=>cases h2 with
    | non=>exact SeqAt.RcAt.int_none x t'
    | bl b=>exact SeqAt.RcAt.int_bool x t' b
    | int b t=>exact SeqAt.RcAt.int_int x t' b t
    | str b t=>exact SeqAt.RcAt.int_str x t' b t
    | tup ds a xs its q w r p=>exact SeqAt.RcAt.int_tuple x t' p hu'
    | lst ds a xs its q w r p=>exact SeqAt.RcAt.int_list x t' p.isList hu'
    | dct ds a ps q w=>exact absurd rfl (nd2 ds)
    | tdc ds a ps q w=>exact absurd rfl (nt2 ds)
  | str x t'=>cases h2 with
    | non=>exact SeqAt.RcAt.str_none x t'
    | bl b=>exact SeqAt.RcAt.str_bool x t' b
    | int b t=>exact SeqAt.RcAt.str_int x t' b t
    | str b t=>exact SeqAt.RcAt.str_str x t' b t
    | tup ds a xs its q w r p=>exact SeqAt.RcAt.str_tuple x t' p hu'
    | lst ds a xs its q w r p=>exact SeqAt.RcAt.str_list x t' p.isList hu'
    | dct ds a ps q w=>exact absurd rfl (nd2 ds)
    | tdc ds a ps q w=>exact absurd rfl (nt2 ds)
  | tup ds1 a1 xs1 its1 q1 w1 r1 p1=>cases h2 with
    | non=>exact SeqAt.RcAt.tuple_none p1 hu'
    | bl b=>exact SeqAt.RcAt.tuple_bool b p1 hu'
    | int b t=>exact SeqAt.RcAt.tuple_int b t p1 hu'
    | str b t=>exact SeqAt.RcAt.tuple_str b t p1 hu'
    | lst ds a xs its q w r p=>exact SeqAt.RcAt.tuple_list p1 p.isList hu'
    | dct ds a ps q w=>exact absurd rfl (nd2 ds)
    | tdc ds a ps q w=>exact absurd rfl (nt2 ds)
    | tup ds2 a2 xs2 its2 q2 w2 r2 p2 =>
      rw [D.eqb,← min_len,← rds_at w1 r1,← rds_at w2 r2]
      have z:=SeqAt.RcAt.tuples (A:=A) (e:=pairEq ds1 ds2) p1 p2 hu' fun j j1 j2=>by
        have:=eqAt_Ds I n ds1 ds2 A its1 its2 xs1 xs2 w1 r1 w2 r2 (by rw [D.pl] at f1;exact f1) (by rw [D.pl] at f2;exact f2) hu j (by simpa using j1) (by simpa using j2)
        simpa using this
      simpa using z
  | lst ds1 a1 xs1 its1 q1 w1 r1 p1=>cases h2 with
    | non=>exact SeqAt.RcAt.list_none p1.isList hu'
    | bl b=>exact SeqAt.RcAt.list_bool b p1.isList hu'
    | int b t=>exact SeqAt.RcAt.list_int b t p1.isList hu'
    | str b t=>exact SeqAt.RcAt.list_str b t p1.isList hu'
    | tup ds a xs its q w r p=>exact SeqAt.RcAt.list_tuple p1.isList p hu'
    | dct ds a ps q w=>exact absurd rfl (nd2 ds)
    | tdc ds a ps q w=>exact absurd rfl (nt2 ds)
    | lst ds2 a2 xs2 its2 q2 w2 r2 p2 =>
      have l1:=rds_at w1 r1
      have l2:=rds_at w2 r2
      rw [D.eqb]
      by_cases hl:ds1.length = ds2.length
      · rw [← eqs_all ds1 ds2 hl,← l1]
        have z:=SeqAt.RcAt.lists (A:=A) (e:=pairEq ds1 ds2) p1.isList p2.isList (by simp only [List.size_toArray];(first | lia | omega)) hu' fun j j1 j2=>by
          have:=eqAt_Ds I n ds1 ds2 A its1 its2 xs1 xs2 w1 r1 w2 r2 (by rw [D.pl] at f1;exact f1) (by rw [D.pl] at f2;exact f2) hu j (by simpa using j1) (by simpa using j2)
          simpa using this
        simpa using z
      · rw [eqs_len ds1 ds2 hl]
        exact SeqAt.RcAt.lists_lengths p1.isList p2.isList (by simp only [List.size_toArray,bne_iff_ne,ne_eq];(first | lia | omega)) hu'
theorem rcNeAt_D (I:Inv X pins σ H s) {n:Nat} {d1 d2:D} {A:Around} {u1 u2:Value} (h1:Sees X H s d1 u1) (h2:Sees X H s d2 u2) (f1:D.pl n d1 = true) (f2:D.pl n d2 = true) (hu:A.units + n < cLine):SeqAt.RcNeAt A s u1 u2 (!D.eqb d1 d2):=by
  have hu':A.units < cLine:=by (first | lia | omega)
  have nd2:∀ ds,d2 ≠ .dct ds:=fun ds z=>by rw [z,D.pl] at f2;cases f2
  have nt2:∀ ds,d2 ≠ .tdc ds:=fun ds z=>by rw [z,D.pl] at f2;cases f2
  cases h1 with
  | dct ds a ps q w=>rw [D.pl] at f1;cases f1
  | tdc ds a ps q w=>rw [D.pl] at f1;cases f1
  | non=>cases h2 with
    | non=>exact SeqAt.RcNeAt.none_none
    | bl b=>exact SeqAt.RcNeAt.none_bool b
    | int b t=>exact SeqAt.RcNeAt.none_int b t
    | str b t=>exact SeqAt.RcNeAt.none_str b t
    | tup ds a xs its q w r p=>exact SeqAt.RcNeAt.none_tuple p hu'
    | lst ds a xs its q w r p=>exact SeqAt.RcNeAt.none_list p.isList hu'
    | dct ds a ps q w=>exact absurd rfl (nd2 ds)
    | tdc ds a ps q w=>exact absurd rfl (nt2 ds)
  | bl x=>cases h2 with
    | non=>exact SeqAt.RcNeAt.bool_none x
    | bl b=>exact SeqAt.RcNeAt.bool_bool x b
    | int b t=>exact SeqAt.RcNeAt.bool_int x b t
    | str b t=>exact SeqAt.RcNeAt.bool_str x b t
    | tup ds a xs its q w r p=>exact SeqAt.RcNeAt.bool_tuple x p hu'
    | lst ds a xs its q w r p=>exact SeqAt.RcNeAt.bool_list x p.isList hu'
    | dct ds a ps q w=>exact absurd rfl (nd2 ds)
    | tdc ds a ps q w=>exact absurd rfl (nt2 ds)
  | int x t'=>cases h2 with
    | non=>exact SeqAt.RcNeAt.int_none x t'
    | bl b=>exact SeqAt.RcNeAt.int_bool x t' b
    | int b t=>exact SeqAt.RcNeAt.int_int x t' b t
    | str b t=>exact SeqAt.RcNeAt.int_str x t' b t
    | tup ds a xs its q w r p=>exact SeqAt.RcNeAt.int_tuple x t' p hu'
    | lst ds a xs its q w r p=>exact SeqAt.RcNeAt.int_list x t' p.isList hu'
    | dct ds a ps q w=>exact absurd rfl (nd2 ds)
    | tdc ds a ps q w=>exact absurd rfl (nt2 ds)
  | str x t'=>cases h2 with
    | non=>exact SeqAt.RcNeAt.str_none x t'
    | bl b=>exact SeqAt.RcNeAt.str_bool x t' b
    | int b t=>exact SeqAt.RcNeAt.str_int x t' b t
    | str b t=>exact SeqAt.RcNeAt.str_str x t' b t
    | tup ds a xs its q w r p=>exact SeqAt.RcNeAt.str_tuple x t' p hu'
    | lst ds a xs its q w r p=>exact SeqAt.RcNeAt.str_list x t' p.isList hu'
    | dct ds a ps q w=>exact absurd rfl (nd2 ds)
    | tdc ds a ps q w=>exact absurd rfl (nt2 ds)
  | tup ds1 a1 xs1 its1 q1 w1 r1 p1=>cases h2 with
    | non=>exact SeqAt.RcNeAt.tuple_none p1 hu'
    | bl b=>exact SeqAt.RcNeAt.tuple_bool b p1 hu'
    | int b t=>exact SeqAt.RcNeAt.tuple_int b t p1 hu'
    | str b t=>exact SeqAt.RcNeAt.tuple_str b t p1 hu'
    | lst ds a xs its q w r p=>exact SeqAt.RcNeAt.tuple_list p1 p.isList hu'
    | dct ds a ps q w=>exact absurd rfl (nd2 ds)
    | tdc ds a ps q w=>exact absurd rfl (nt2 ds)
    | tup ds2 a2 xs2 its2 q2 w2 r2 p2 =>
      rw [D.eqb,← min_len,← rds_at w1 r1,← rds_at w2 r2]
      have z:=SeqAt.RcNeAt.tuples (A:=A) (e:=pairEq ds1 ds2) p1 p2 hu' fun j j1 j2=>by
        have:=eqAt_Ds I n ds1 ds2 A its1 its2 xs1 xs2 w1 r1 w2 r2 (by rw [D.pl] at f1;exact f1) (by rw [D.pl] at f2;exact f2) hu j (by simpa using j1) (by simpa using j2)
        simpa using this
      simpa using z
  | lst ds1 a1 xs1 its1 q1 w1 r1 p1=>cases h2 with
    | non=>exact SeqAt.RcNeAt.list_none p1.isList hu'
    | bl b=>exact SeqAt.RcNeAt.list_bool b p1.isList hu'
    | int b t=>exact SeqAt.RcNeAt.list_int b t p1.isList hu'
    | str b t=>exact SeqAt.RcNeAt.list_str b t p1.isList hu'
    | tup ds a xs its q w r p=>exact SeqAt.RcNeAt.list_tuple p1.isList p hu'
    | dct ds a ps q w=>exact absurd rfl (nd2 ds)
    | tdc ds a ps q w=>exact absurd rfl (nt2 ds)
    | lst ds2 a2 xs2 its2 q2 w2 r2 p2 =>
      have l1:=rds_at w1 r1
      have l2:=rds_at w2 r2
      rw [D.eqb]
      by_cases hl:ds1.length = ds2.length
      · rw [← eqs_all ds1 ds2 hl,← l1]
        have z:=SeqAt.RcNeAt.lists (A:=A) (e:=pairEq ds1 ds2) p1.isList p2.isList (by simp only [List.size_toArray];(first | lia | omega)) hu' fun j j1 j2=>by
          have:=eqAt_Ds I n ds1 ds2 A its1 its2 xs1 xs2 w1 r1 w2 r2 (by rw [D.pl] at f1;exact f1) (by rw [D.pl] at f2;exact f2) hu j (by simpa using j1) (by simpa using j2)
          simpa using this
        simpa using z
      · rw [eqs_len ds1 ds2 hl]
        exact SeqAt.RcNeAt.lists_lengths p1.isList p2.isList (by simp only [List.size_toArray,bne_iff_ne,ne_eq];(first | lia | omega)) hu'
end
section
variable {X:Cx}
theorem big_line:big = sizeLine:=by rw [sizeLine_eq];rfl
theorem op_catS:OpR X (binaryOp .Add) (fun x y H Q=>∃ l b xs zs,x = .ref l ∧ y = .ref b ∧ SqL X.K H l xs ∧ SqL X.K H b zs ∧ xs.length + zs.length ≤ sizeLine ∧ ∀ p,H p = none → Q (.ref p) (upd H p (.lst (xs ++ zs)))):=by
  intro pins s σ H x y v u Q I rx ry h
  obtain ⟨l,b,xs,zs,rfl,rfl,hH,hB,hz,q⟩:=h
  cases rx
  cases ry
  obtain ⟨its,r,pl,z⟩:=I.list hH
  obtain ⟨its2,r2,pl2,z2⟩:=I.list hB
  have hl:=r.length
  have hl2:=r2.length
  obtain ⟨⟨cls,dd,data,sl⟩,ho,hc,n,hd⟩:=pl.isList
  obtain ⟨⟨cls2,dd2,data2,sl2⟩,ho2,hc2,n2,hd2⟩:=pl2.isList
  simp only at hc hd hc2 hd2
  subst hc hd hc2 hd2
  have ea:its.toArray ++ its2.toArray = (its ++ its2).toArray:=by simp
  refine concat_meets ⟨_,ho,rfl⟩ ⟨_,ho2,rfl⟩ noFill_list_add seq_list_add PySem.F.slot_list_add PySem.F.entry_list_add (PySem.F.args_list_add_2 _ _) (list_addW l b its.toArray its2.toArray n n2 dd dd2 sl sl2 (by simp only [List.size_toArray];(first | lia | omega))) ⟨ho,ho2,?_⟩
  rw [ea]
  exact ⟨.ref _,_,I.lnew (t':=s.toks) (r.append r2) (by rw [List.length_append];(first | lia | omega)),rfl,q _ I.fresh⟩
theorem op_catT0:OpR X (binaryOp .Add) (fun x y H Q=>∃ a b xs ys,x = .ref a ∧ y = .ref b ∧ SqT X.K H a xs ∧ SqT X.K H b ys ∧ xs.length + ys.length ≤ sizeLine ∧
    (xs = [] → Q (.ref b) H) ∧ (ys = [] → Q (.ref a) H) ∧ ∀ p,H p = none → Q (.ref p) (upd H p (.tup (xs ++ ys)))):=by
  intro pins s σ H x y v u Q I rx ry h
  obtain ⟨a,b,xs,ys,rfl,rfl,ha,hb,hz,q0,q1,q2⟩:=h
  by_cases hx:xs = []
  · cases rx
    cases ry
    obtain ⟨its,r1,p1,_⟩:=I.tuple ha
    obtain ⟨its2,r2,p2,_⟩:=I.tuple hb
    obtain ⟨⟨cls,dd,data,sl⟩,ho,hc,n,hd⟩:=id p1
    obtain ⟨⟨cls2,dd2,data2,sl2⟩,ho2,hc2,n2,hd2⟩:=id p2
    simp only at hc hd hc2 hd2
    subst hc hd hc2 hd2
    have hv:its = []:=r1.nil_iff.mpr hx
    exact concat_meets ⟨_,ho,rfl⟩ ⟨_,ho2,rfl⟩ noFill_tuple_add seq_tuple_add PySem.F.slot_tuple_add PySem.F.entry_tuple_add (PySem.F.args_tuple_add_2 _ _)
      (tuple_addW0 a b its.toArray its2.toArray n n2 dd dd2 sl sl2 (by simp [hv])) ⟨ho,ho2,⟨.ref b,H,I,rfl,q0 hx⟩⟩
  · exact op_catT pins s σ H _ _ v u Q I rx ry ⟨a,b,xs,ys,rfl,rfl,ha,hb,hx,hz,q1,fun _=>q2⟩
end
end Tr
namespace Tr
open PySem PySem.Spec PyProof.Rows L2
section
variable {X:Cx}
noncomputable def Roomy (X:Cx):Prop:=X.A.units + 64 < cLine
theorem RDs.rep {K:PySem.W.Frag} {H:Hp} {O:Addr → Prop} {ds:List D} {vs:List V} (h:RDs K H O ds vs):∀ n:Nat,RDs K H O (List.replicate n ds).flatten (List.replicate n vs).flatten
  | 0=>rfl
  | n + 1=>by
    rw [List.replicate_succ,List.replicate_succ,List.flatten_cons,List.flatten_cons]
    exact RDs.append h (RDs.rep h n)
theorem opr_bin (o:Operator) (fr:Bool) (hfr:fr = true → o = .Add):OpR X (binaryOp o) (rD2 X.K (D.bin o) fr):=by
  intro pins s σ H x y v u Q I rx ry h
  obtain ⟨O,d1,d2,d,r1,r2,ev,tr,k⟩:=h
  have kk:∀ w,d.still = true → RD X.K H O d w → Q w H:=fun w n r=>k w H (Same.refl H) r fun _=>NewL.still n
  unfold D.bin at ev
  split at ev
  · cases ev
    cases (show x = _ from r1.rd rfl)
    cases (show y = _ from r2.rd rfl)
    exact op_add pins s σ H _ _ v u Q I rx ry ⟨_,_,rfl,rfl,kk _ rfl rfl⟩
  · obtain ⟨c,ev⟩:=when_ok ev
    cases ev
    cases (show x = _ from r1.rd rfl)
    cases (show y = _ from r2.rd rfl)
    exact op_add_str pins s σ H _ _ v u Q I rx ry ⟨_,_,rfl,rfl,by rw [← big_line];exact of_decide_eq_true c,kk _ rfl rfl⟩
  · obtain ⟨c,ev⟩:=when_ok ev
    cases ev
    obtain ⟨a1,xs1,rfl,q1,w1⟩:=r1.lst
    obtain ⟨a2,xs2,rfl,q2,w2⟩:=r2.lst
    refine op_catS pins s σ H _ _ v u Q I rx ry ⟨a1,a2,xs1,xs2,rfl,rfl,q1,q2,by rw [← big_line,w1.length,w2.length];exact of_decide_eq_true c,fun p hp=>?_⟩
    have z:=new_lst (w1.append w2) hp tr
    exact k _ _ (same_upd hp _) z.1 fun _=>z.2
  · obtain ⟨c,ev⟩:=when_ok ev
    cases ev
    obtain ⟨a1,xs1,rfl,q1,w1⟩:=r1.tup
    obtain ⟨a2,xs2,rfl,q2,w2⟩:=r2.tup
    refine op_catT0 pins s σ H _ _ v u Q I rx ry ⟨a1,a2,xs1,xs2,rfl,rfl,q1,q2,by rw [← big_line,w1.length,w2.length];exact of_decide_eq_true c,fun z=>?_,fun z=>?_,fun p hp=>?_⟩
    · subst z
      have e:=w1.length
      have e':_ = []:=List.eq_nil_of_length_eq_zero e.symm
      subst e'
      exact kk _ rfl ⟨a2,xs2,rfl,q2,by simpa using w2⟩
    · subst z
      have e:=w2.length
      have e':_ = []:=List.eq_nil_of_length_eq_zero e.symm
      subst e'
      exact kk _ rfl ⟨a1,xs1,rfl,q1,by simpa using w1⟩
    · have z:=new_tup (w1.append w2) hp
      exact k _ _ (same_upd hp _) z fun _=>NewL.still rfl
  · cases ev
    cases (show x = _ from r1.rd rfl)
    cases (show y = _ from r2.rd rfl)
    exact op_sub pins s σ H _ _ v u Q I rx ry ⟨_,_,rfl,rfl,kk _ rfl rfl⟩
  · obtain ⟨c,ev⟩:=when_ok ev
    cases ev
    cases (show x = _ from r1.rd rfl)
    cases (show y = _ from r2.rd rfl)
    refine op_mul pins s σ H _ _ v u Q I rx ry ⟨_,_,rfl,rfl,?_,kk _ rfl rfl⟩
    simp only [small64,Bool.or_eq_true,Bool.and_eq_true,decide_eq_true_eq] at c
    exact c
  · rename_i aa jj
    obtain ⟨c,ev⟩:=when_ok ev
    cases ev
    simp only [Bool.and_eq_true,decide_eq_true_eq] at c
    obtain ⟨a1,xs1,rfl,q1,w1⟩:=r1.tup
    cases (show y = _ from r2.rd rfl)
    cases rx
    obtain ⟨t,rfl⟩:=ry
    obtain ⟨its,r,pl,hz⟩:=I.tuple q1
    have hl1:its.length = 1:=by rw [← r.length,w1.length];exact c.1.1
    refine mul_tuple pl hl1 ⟨c.1.2,c.2⟩ (fun z=>?_) (fun z=>?_)
    · subst z
      refine ⟨.ref a1,H,I,rfl,kk _ rfl ⟨a1,xs1,rfl,q1,?_⟩⟩
      simpa using w1
    · have hp:=I.hok.fresh (Nat.le_refl s.heap.objs.size)
      have hlen:(List.replicate jj.toNat xs1).flatten.length ≤ sizeLine:=by
        rw [len_rep,w1.length,c.1.1,sizeLine_eq]
        have:=c.2
        (first | lia | omega)
      refine ⟨.ref s.heap.objs.size,_,I.laid (o:=.tup (List.replicate jj.toNat xs1).flatten) (t':=s.toks) (fun b u e=>Heap.get?_push_of_some _ e) (Nat.le_refl _) ⟨hlen,_,r.rep _,⟨_,Heap.get?_push_size _ rfl,rfl,_,rfl⟩⟩,rfl,?_⟩
      exact k _ _ (same_upd hp _) (new_tup (w1.rep _) hp) fun _=>NewL.still rfl
  · obtain ⟨c,ev⟩:=when_ok ev
    cases ev
    cases (show x = _ from r1.rd rfl)
    cases (show y = _ from r2.rd rfl)
    refine op_fdiv pins s σ H _ _ v u Q I rx ry ⟨_,_,rfl,rfl,?_,kk _ rfl rfl⟩
    simp only [Bool.and_eq_true,decide_eq_true_eq] at c
    exact c
  · obtain ⟨c,ev⟩:=when_ok ev
    cases ev
    cases (show x = _ from r1.rd rfl)
    cases (show y = _ from r2.rd rfl)
    exact op_mod pins s σ H _ _ v u Q I rx ry ⟨_,_,rfl,rfl,of_decide_eq_true c,kk _ rfl rfl⟩
  · obtain ⟨c,ev⟩:=when_ok ev
    cases ev
    cases (show x = _ from r1.rd rfl)
    cases (show y = _ from r2.rd rfl)
    refine op_pow pins s σ H _ _ v u Q I rx ry ⟨_,_,rfl,rfl,?_,kk _ rfl rfl⟩
    simp only [Bool.and_eq_true,decide_eq_true_eq] at c
    exact ⟨c.1.1,c.1.2,c.2⟩
  · cases ev
theorem rdk_val {K:PySem.W.Frag} {H:Hp} {O:Addr → Prop} {k:Key}:∀ {ds:List (Sum Int Str × D)} {ps:List (Key × V)},RDk K H O ds ps → (∀ d,valK ds k = some d → ∃ v,valV ps k = some v ∧ RD K H O d v) ∧ (valK ds k).isSome = (valV ps k).isSome
  | [],ps,h=>by
    rw [RDk] at h;subst h
    exact ⟨fun d e=>(by cases e),rfl⟩
  | (k',d') :: ds,ps,h=>by
    obtain ⟨v,r,rfl,h1,h2⟩:=h
    have ih:=rdk_val (k:=k) h2
    by_cases e:k' = k
    · subst e
      have e1:valK ((k',d') :: ds) k' = some d':=by simp [valK,List.find?_cons]
      rw [e1,valV_pos (p:=(k',v)) rfl]
      exact ⟨fun d z=>(by cases z;exact ⟨v,rfl,h1⟩),rfl⟩
    · have e1:valK ((k',d') :: ds) k = valK ds k:=by simp [valK,List.find?_cons,e]
      rw [e1,valV_neg (p:=(k',v)) e]
      exact ih
theorem key_val {K:PySem.W.Frag} {H:Hp} {O:Addr → Prop} {d:D} {v:V} {k:Key} (h:keyOf d = some k) (r:RR K H O d v):v = kV k:=by
  cases d with
  | int i=>cases h;exact r.rd rfl
  | str i=>cases h;exact r.rd rfl
  | non=>cases h
  | bl _=>cases h
  | tup _=>cases h
  | lst _=>cases h
  | dct _=>cases h
  | tdc _=>cases h
theorem of_ok {α:Type} {o:Option α} {a:α} (h:Res.of o = .ok a):o = some a:=by
  cases o with
  | none=>cases h
  | some b=>cases h;rfl
theorem Sees.inj {H:Hp} {s:Shared} {pins:List (Addr × Obj)} {σ:L2.St} (I:Inv X pins σ H s) {d d':D} {w:Value} (h:Sees X H s d w) (h':Sees X H s d' w):d = d':=by
  cases h with
  | non=>cases h';rfl
  | bl b=>cases h';rfl
  | int i t=>cases h';rfl
  | str x t=>cases h';rfl
  | tup ds a xs its q w r p =>
    cases h' with
    | tup ds' _ xs' its' q' w' r' p'=>have:=I.tuple_inj q q';subst this;rw [RDs.inj I w w']
    | lst ds' _ xs' its' q' w' r' p'=>exact (sq_apart I q' q).elim
    | dct ds' _ ps' q' w'=>exact (dk_tup I q' q).elim
    | tdc ds' _ ps' q' w'=>exact (dt_tup I q' q).elim
  | dct ds a ps q w =>
    cases h' with
    | dct ds' _ ps' q' w'=>have:=q.symm.trans q';cases this;rw [RDk.inj I w w']
    | tup ds' _ xs' its' q' w' r' p'=>exact (dk_tup I q q').elim
    | lst ds' _ xs' its' q' w' r' p'=>exact (dk_lst I q q').elim
    | tdc ds' _ ps' q' w'=>have:=q.symm.trans q';cases this
  | tdc ds a ps q w =>
    cases h' with
    | tdc ds' _ ps' q' w'=>have:=q.symm.trans q';cases this;rw [RDt.inj I w w']
    | tup ds' _ xs' its' q' w' r' p'=>exact (dt_tup I q q').elim
    | lst ds' _ xs' its' q' w' r' p'=>exact (dt_lst I q q').elim
    | dct ds' _ ps' q' w'=>have:=q.symm.trans q';cases this
  | lst ds a xs its q w r p =>
    cases h' with
    | lst ds' _ xs' its' q' w' r' p'=>have:=I.list_inj q q';subst this;rw [RDs.inj I w w']
    | tup ds' _ xs' its' q' w' r' p'=>exact (sq_apart I q q').elim
    | dct ds' _ ps' q' w'=>exact (dk_lst I q' q).elim
    | tdc ds' _ ps' q' w'=>exact (dt_lst I q' q).elim
open Classical in
noncomputable def seen (X:Cx) (H:Hp) (s:Shared) (x:D) (w:Value):Bool:=decide (∃ d,Sees X H s d w ∧ D.eqb d x = true)
theorem seen_eq {H:Hp} {s:Shared} {pins:List (Addr × Obj)} {σ:L2.St} (I:Inv X pins σ H s) {d x:D} {w:Value} (sd:Sees X H s d w):seen X H s x w = D.eqb d x:=by
  classical
  unfold seen
  by_cases h:D.eqb d x = true
  · rw [h];simp only [decide_eq_true_eq];exact ⟨d,sd,h⟩
  · have h':D.eqb d x = false:=by simpa using h
    rw [h']
    simp only [decide_eq_false_iff_not]
    rintro ⟨d',sd',h''⟩
    rw [Sees.inj I sd' sd] at h''
    exact h h''
theorem in_tab {H:Hp} {s:Shared} {pins:List (Addr × Obj)} {σ:L2.St} (I:Inv X pins σ H s) {x:D} {ux:Value} {n:Nat} {A:Around} (hx:Sees X H s x ux) (fx:D.pl n x = true) (hu:A.units + n < cLine) :
    ∀ {ds:List D} {xs:List V} {us:List Value},RDs X.K H no ds xs → Vals xs us → D.pls (n + 1) ds = true → (∀ w ∈ us,SeqAt.EqAt A s w ux (seen X H s x w)) ∧ us.any (seen X H s x) = D.mem x ds
  | [],xs,us,w,r,f=>by
    rw [RDs] at w;subst w;cases r
    exact ⟨fun w h=>absurd h List.not_mem_nil,rfl⟩
  | d :: ds,xs,us,w,r,f=>by
    obtain ⟨v,ys,rfl,e1,e2⟩:=w
    rw [D.pls,Bool.and_eq_true] at f
    cases r with
    | cons a1 r1 =>
      have ih:=in_tab I hx fx hu e2 r1 f.2
      have sd:=sees I e1 a1
      refine ⟨fun w hw=>?_,?_⟩
      · rcases List.mem_cons.mp hw with rfl | hw
        · rw [seen_eq I sd]
          exact eqAt_D I n d x A w ux sd hx f.1 fx hu
        · exact ih.1 w hw
      · rw [List.any_cons,D.mem,ih.2,seen_eq I sd]
theorem isNon_eq {K:PySem.W.Frag} {H:Hp} {d:D} {x:V} (r:RD K H no d x):decide (x = .non) = D.isNon d:=by
  cases d with
  | non=>cases (show x = .non from r);rfl
  | bl b=>cases (show x = .bl b from r);rfl
  | int b=>cases (show x = .int b from r);rfl
  | str b=>cases (show x = .str b from r);rfl
  | tup ds=>obtain ⟨a,xs,rfl,_⟩:=r;rfl
  | lst ds=>obtain ⟨a,xs,rfl,_⟩:=r;rfl
  | dct ds=>obtain ⟨a,xs,rfl,_⟩:=r;rfl
  | tdc ds=>obtain ⟨a,xs,rfl,_⟩:=r;rfl
theorem opr_cmp (o:CmpOp) (hroom:Roomy X):OpR X (compareOp o) (rD2 X.K (D.cmp o) false):=by
  intro pins s σ H x y v u Q I rx ry h
  obtain ⟨O,d1,d2,d,r1,r2,ev,tr,k⟩:=h
  have hroom':X.A.units + 64 < cLine:=hroom
  have kk:∀ b,d = .bl b → Q (.bl b) H:=fun b e=>k _ H (Same.refl H) (by subst e;exact rfl) fun z=>by cases z
  have s1:=sees I r1.bare rx
  have s2:=sees I r2.bare ry
  unfold D.cmp at ev
  split at ev
  · obtain ⟨c,ev⟩:=when_ok ev
    cases ev
    unfold D.eqOk at c
    rw [Bool.and_eq_true] at c
    exact rcAt_D I s1 s2 c.1 c.2 (by (first | lia | omega)) X.prog X.w X.xe _ ⟨.bl _,H,I,rfl,kk _ rfl⟩
  · obtain ⟨c,ev⟩:=when_ok ev
    cases ev
    unfold D.eqOk at c
    rw [Bool.and_eq_true] at c
    exact rcNeAt_D I s1 s2 c.1 c.2 (by (first | lia | omega)) X.prog X.w X.xe _ ⟨.bl _,H,I,rfl,kk _ rfl⟩
  · cases ev
    cases (show x = _ from r1.rd rfl)
    cases (show y = _ from r2.rd rfl)
    exact op_lt pins s σ H _ _ v u Q I rx ry ⟨_,_,rfl,rfl,kk _ rfl⟩
  · cases ev
    cases (show x = _ from r1.rd rfl)
    cases (show y = _ from r2.rd rfl)
    exact op_le pins s σ H _ _ v u Q I rx ry ⟨_,_,rfl,rfl,kk _ rfl⟩
  · cases ev
    cases (show x = _ from r1.rd rfl)
    cases (show y = _ from r2.rd rfl)
    exact op_gt pins s σ H _ _ v u Q I rx ry ⟨_,_,rfl,rfl,kk _ rfl⟩
  · cases ev
    cases (show x = _ from r1.rd rfl)
    cases (show y = _ from r2.rd rfl)
    exact op_ge pins s σ H _ _ v u Q I rx ry ⟨_,_,rfl,rfl,kk _ rfl⟩
  · cases ev
    cases (show y = _ from r2.rd rfl)
    have e:decide (x = .non) = D.isNon d1:=isNon_eq r1.bare
    exact op_isN pins s σ H _ _ v u Q I rx ry ⟨rfl,by rw [e];exact kk _ rfl⟩
  · cases ev
    cases (show y = _ from r2.rd rfl)
    have e:decide (x = .non) = D.isNon d1:=isNon_eq r1.bare
    exact op_notN pins s σ H _ _ v u Q I rx ry ⟨rfl,by rw [e];exact kk _ rfl⟩
  · cases ev
    cases (show x = _ from r1.rd rfl)
    cases (show y = _ from r2.rd rfl)
    cases rx
    cases ry
    exact is_bool (fin_bl I (kk _ rfl) rfl)
  · cases ev
    cases (show x = _ from r1.rd rfl)
    cases (show y = _ from r2.rd rfl)
    cases rx
    cases ry
    exact isnot_bool (fin_bl I (kk _ rfl) rfl)
  · obtain ⟨b,e1,ev⟩:=Res.bind_ok ev
    cases ev
    unfold D.inn at e1
    split at e1
    · obtain ⟨c,e1⟩:=when_ok e1
      cases e1
      rw [Bool.and_eq_true] at c
      cases s2 with
      | lst ds a xs its q w r p =>
        have t:=in_tab I (n:=29) (A:=X.A.in1) s1 c.2 (by show X.A.units + 1 + 29 < cLine;(first | lia | omega)) w r c.1
        refine SeqAt.in_listAt (seen X H s d1) p.isList (fun w hw=>t.1 w (by simpa using hw)) ⟨.bl _,H,I,rfl,?_⟩
        rw [show its.toArray.any (seen X H s d1) = its.any (seen X H s d1) by simp,t.2]
        exact kk _ rfl
    · obtain ⟨c,e1⟩:=when_ok e1
      cases e1
      rw [Bool.and_eq_true] at c
      cases s2 with
      | tup ds a xs its q w r p =>
        have t:=in_tab I (n:=29) (A:=X.A.in1) s1 c.2 (by show X.A.units + 1 + 29 < cLine;(first | lia | omega)) w r c.1
        refine SeqAt.in_tupleAt (seen X H s d1) p (fun w hw=>t.1 w (by simpa using hw)) ⟨.bl _,H,I,rfl,?_⟩
        rw [show its.toArray.any (seen X H s d1) = its.any (seen X H s d1) by simp,t.2]
        exact kk _ rfl
    · obtain ⟨key,e2,e1⟩:=Res.bind_ok e1
      cases e1
      obtain ⟨a,ps,rfl,q,w⟩:=r2.dct
      cases ry
      have ex:=key_val (of_ok e2) r1
      subst ex
      refine d_in (by (first | lia | omega)) I (DGet.k q) rx fun s' I'=>⟨.bl _,H,I',rfl,?_⟩
      rw [← (rdk_val (k:=key) w).2]
      exact kk _ rfl
    · split at e1
      · cases (show x = _ from r1.rd rfl)
        cases (show y = _ from r2.rd rfl)
        exact op_in_str pins s σ H _ _ v u Q I rx ry ⟨_,_,rfl,rfl,by rw [oneIn_ok e1];exact kk _ rfl⟩
      · cases e1
    · cases e1
  · obtain ⟨b,e1,ev⟩:=Res.bind_ok ev
    cases ev
    unfold D.inn at e1
    split at e1
    · obtain ⟨c,e1⟩:=when_ok e1
      cases e1
      rw [Bool.and_eq_true] at c
      cases s2 with
      | lst ds a xs its q w r p =>
        have t:=in_tab I (n:=29) (A:=X.A.in1) s1 c.2 (by show X.A.units + 1 + 29 < cLine;(first | lia | omega)) w r c.1
        refine SeqAt.notIn_listAt (seen X H s d1) p.isList (fun w hw=>t.1 w (by simpa using hw)) ⟨.bl _,H,I,rfl,?_⟩
        rw [show its.toArray.any (seen X H s d1) = its.any (seen X H s d1) by simp,t.2]
        exact kk _ rfl
    · obtain ⟨c,e1⟩:=when_ok e1
      cases e1
      rw [Bool.and_eq_true] at c
      cases s2 with
      | tup ds a xs its q w r p =>
        have t:=in_tab I (n:=29) (A:=X.A.in1) s1 c.2 (by show X.A.units + 1 + 29 < cLine;(first | lia | omega)) w r c.1
        refine SeqAt.notIn_tupleAt (seen X H s d1) p (fun w hw=>t.1 w (by simpa using hw)) ⟨.bl _,H,I,rfl,?_⟩
        rw [show its.toArray.any (seen X H s d1) = its.any (seen X H s d1) by simp,t.2]
        exact kk _ rfl
    · obtain ⟨key,e2,e1⟩:=Res.bind_ok e1
      cases e1
      obtain ⟨a,ps,rfl,q,w⟩:=r2.dct
      cases ry
      have ex:=key_val (of_ok e2) r1
      subst ex
      refine d_notIn (by (first | lia | omega)) I (DGet.k q) rx fun s' I'=>⟨.bl _,H,I',rfl,?_⟩
      rw [← (rdk_val (k:=key) w).2]
      exact kk _ rfl
    · split at e1
      · cases (show x = _ from r1.rd rfl)
        cases (show y = _ from r2.rd rfl)
        exact op_notin_str pins s σ H _ _ v u Q I rx ry ⟨_,_,rfl,rfl,by rw [oneIn_ok e1];exact kk _ rfl⟩
      · cases e1
    · cases e1
  · cases ev
theorem ixN_eq (n:Nat) (i:Int):Tr.ixN n i = L2.ixN n i:=rfl
theorem rds_atI {K:PySem.W.Frag} {H:Hp} {O:Addr → Prop} {ds:List D} {xs:List V} {i:Int} {d:D} (w:RDs K H O ds xs) (h:Tr.atI ds i = some d):∃ v,L2.atI xs i = some v ∧ RD K H O d v:=by
  unfold Tr.atI at h
  unfold L2.atI
  rw [w.length]
  rw [ixN_eq] at h
  cases e:L2.ixN ds.length i with
  | none=>rw [e] at h;cases h
  | some j =>
    rw [e] at h
    exact w.get h
theorem d_ix {value slice:Expr} {pins:List (Addr × Obj)} {s:Shared} {σ:L2.St} {H:Hp} {a:Addr} {y v0:V} {u:Value} {Q:VK} (I:Inv X pins σ H s) (g:DGet H a y (some v0)) (ry:RelV y u) (hroom:Roomy X) (q:Q v0 H)
    (hs:subscripted slice false (.ref a) u = operate [.ref a,u] (getItem (.ref a) u)):wpAny (model X.prog X.w) X.A (subscriptTail value slice (.ref a) u) (EP X pins σ Q) X.xe s:=by
  have hroom':X.A.units + 64 < cLine:=hroom
  have hT:=dict_typeIs I g
  unfold subscriptTail
  refine wpAny_bind ?_
  rw [getitemInPython_of_ne hT.not_modules]
  refine wpAny_bind (wpAny_specialOf hT PySem.F.slot_dict_getitem.lookup ?_)
  have fin:wpAny (model X.prog X.w) X.A (subscripted slice false (.ref a) u) (fun r s₃=>wpAny (model X.prog X.w) X.A (letTemporaryGo value (.ref a) r >>= fun _=>pure r) (EP X pins σ Q) X.xe s₃) X.xe s:=by
    rw [hs]
    exact wpAny_operating (d_getItem (by (first | lia | omega)) I g ry fun w' s3 I3 rw'=>wpAny_bind (wpAny_letTemporaryGo (wpAny_pure ⟨v0,H,I3,rw',q⟩)))
  first
    | exact wpAny_pure (wpAny_bind fin)
    | exact wpAny_bind (wpAny_pure (wpAny_bind fin))
    | exact wpAny_bind fin
theorem ixr (hroom:Roomy X):IxR X (rD2 X.K D.ix false):=by
  intro value slice pins s σ H x y v u Q I rx ry h hs
  obtain ⟨O,d1,d2,d,r1,r2,ev,tr,k⟩:=h
  have kk:∀ w,RD X.K H O d w → Q w H:=fun w r=>k w H (Same.refl H) r fun z=>by cases z
  unfold D.ix at ev
  split at ev
  · obtain ⟨a1,xs1,rfl,q1,w1⟩:=r1.lst
    cases (show y = _ from r2.rd rfl)
    rename_i ds i
    cases e:Tr.atI ds i with
    | none=>rw [e] at ev;cases ev
    | some d0 =>
      rw [e] at ev;cases ev
      obtain ⟨w,h1,h2⟩:=rds_atI w1 e
      exact ix_list value slice pins s σ H _ _ v u Q I rx ry ⟨a1,xs1,_,w,rfl,rfl,q1,h1,kk w h2⟩ hs
  · obtain ⟨a1,xs1,rfl,q1,w1⟩:=r1.tup
    cases (show y = _ from r2.rd rfl)
    rename_i ds i
    cases e:Tr.atI ds i with
    | none=>rw [e] at ev;cases ev
    | some d0 =>
      rw [e] at ev;cases ev
      obtain ⟨w,h1,h2⟩:=rds_atI w1 e
      exact ix_tup value slice pins s σ H _ _ v u Q I rx ry ⟨a1,xs1,_,w,rfl,rfl,q1,h1,kk w h2⟩ hs
  · rename_i z i
    obtain ⟨c,ev⟩:=when_ok ev
    cases (show x = .str z from r1.rd rfl)
    cases (show y = .int i from r2.rd rfl)
    cases e:Tr.atI z.cps.toList i with
    | none=>rw [e] at ev;cases ev
    | some c0 =>
      rw [e] at ev;cases ev
      exact ix_str value slice pins s σ H _ _ v u Q I rx ry ⟨z,i,c0,rfl,rfl,by rw [← big_line];exact of_decide_eq_true c,e,kk _ rfl⟩ hs
  · rename_i kvs y0
    obtain ⟨key,e2,ev⟩:=Res.bind_ok ev
    obtain ⟨a,ps,rfl,q,w⟩:=r1.dct
    cases rx
    have ex:=key_val (of_ok e2) r2
    subst ex
    have hroom':X.A.units + 64 < cLine:=hroom
    obtain ⟨v0,h1,h2⟩:=(rdk_val (k:=key) w).1 _ (of_ok ev)
    have g:DGet H a (kV key) (some v0):=by rw [← h1];exact DGet.k q
    exact d_ix I g ry hroom (kk v0 h2) hs
  · cases ev
end
end Tr
namespace Tr
open PySem PySem.Spec PyProof.Rows L2
noncomputable def plainX:Expr → Bool
  | .Starred _ _=>false
  | .Slice _ _ _ _=>false
  | .Set _ _ _=>false
  | _=>true
theorem plain_ix {e:Expr} (h:plainX e = true):PlainIx e:=by
  intro o i
  cases e <;> first | rfl | (cases h)
theorem plain_star {e:Expr} {es:List Expr} {env:Env} (h:plainX e = true):starEach (e :: es) env = (false,eval e env) :: starEach es env:=by
  cases e <;> first | rfl | (cases h)
theorem plain_any {pos:Pos} {env:Env}:∀ {es:List Expr},es.all plainX = true → (backTo pos (starEach es env)).any (·.1) = false
  | [],_=>rfl
  | e :: es,h=>by
    rw [List.all_cons,Bool.and_eq_true] at h
    have ih:=plain_any (pos:=pos) (env:=env) h.2
    rw [plain_star h.1]
    show (false || (backTo pos (starEach es env)).any (·.1)) = false
    rw [ih];rfl
theorem plain_mark {o:CmpOp} {e:Expr} (h:plainX e = true):behindInMarks o e = false:=by
  cases e <;> first | rfl | (cases h)
theorem plain_fold {e:Expr} {env:Env} (h:plainX e = true):∀ x,foldedSetIterable e env x = pure x:=by
  intro x
  cases e <;> first | rfl | (cases h)
section
variable {T:Tab} {cf:Nat → List D → Res D} {X:Cx} {x y z:E} {p q r:Expr} {pos:Pos} {es:List Expr}
theorem se_bin {o:Operator} (ha:SR T cf X x p) (hb:SR T cf X y q):SE T cf X (.bin o x y) (.BinOp p o q pos) :=
  se_op2 (f:=D.bin o) (fun e=>rfl) (fun h1 h2=>pe_op (opr_bin o _ (by cases o <;> first | (intro _;rfl) | (intro z;cases z))) h1 h2) ha hb
theorem se_cmp {o:CmpOp} (hR:Roomy X) (hm:plainX q = true) (ha:SR T cf X x p) (hb:SR T cf X y q):SE T cf X (.cmp o x y) (.Compare p [o] [q] pos) :=
  se_op2 (f:=D.cmp o) (fun e=>rfl) (fun h1 h2=>pe_cmpR (opr_cmp o hR) h1 h2 (plain_mark hm)) ha hb
theorem se_ix (hR:Roomy X) (hm:plainX q = true) (ha:SR T cf X x p) (hb:SR T cf X y q):SE T cf X (.ix x y) (.Subscript p q pos) :=
  se_op2 (f:=D.ix) (fun e=>rfl) (fun h1 h2=>pe_ix (ixr hR) h1 h2 (plain_ix hm)) ha hb
theorem sl_whole {X:Cx}:SlR X (fun x lo hi H Q=>∃ a xs,x = .ref a ∧ SqT X.K H a xs ∧ (HT.sIx xs.length 0 lo = 0 ∧ HT.sIx xs.length xs.length hi = xs.length) ∧ Q (.ref a) H):=by
  intro pins s σ H x v vl vu lo hi sl Q I rx hs pl pu h
  obtain ⟨a,xs,rfl,hx,hw,q⟩:=h
  cases rx
  obtain ⟨its,r,ht,hz⟩:=I.tuple hx
  have hlen:its.toArray.size = xs.length:=by rw [List.size_toArray];exact r.length.symm
  refine ⟨"tuple", _,PyProof.Rows.slot_tuple_getitem.lookup,ht.typeIs,?_⟩
  obtain ⟨os,hos,hcs,hds⟩:=id hs
  have hTs:s.TypeIs (.ref sl) "slice" := ⟨os,hos,hcs⟩
  have fin:EP X pins σ Q (.ref a) s:=⟨.ref a,H,I,rfl,q⟩
  unfold getItem
  try with_reducible refine wpAny_holding ?_
  first | refine wpAny_bind (wpAny_pure ?_) | skip
  refine wpAny_bind (wpAny_sequenceKey ht.typeIs (by decide) ?_)
  refine wpAny_bind (wpAny_callSpecial?_slot (name:=Str.ofString "__getitem__") ht.typeIs PyProof.Rows.slot_tuple_getitem
    (wpAny_call_entry PyProof.Rows.slot_tuple_getitem ht.typeIs entry_tuple_getitem ?_ (args_tuple_getitem _ _)))
  show wpAny _ _ (Builtin.Tuple.tupleItemsOf (.ref a) >>= _) _ _ s
  refine wpAny_bind (tupleItemsOf_ ht ?_)
  refine wpAny_bind (wpAny_typeOf hTs ?_)
  rw [if_pos (by decide)]
  refine wpAny_bind (HT.sliceApplied_gen hs pl pu ?_)
  have hyes:(((HT.sIx its.toArray.size 0 lo:Nat):Int) == 0 && (1:Int) == 1 && (HT.sIx its.toArray.size its.toArray.size hi - HT.sIx its.toArray.size 0 lo) == its.toArray.size) = true:=by
    rw [hlen,hw.1,hw.2];simp
  show wpAny _ _ (if (((HT.sIx its.toArray.size 0 lo:Nat):Int) == 0 && (1:Int) == 1 && (HT.sIx its.toArray.size its.toArray.size hi - HT.sIx its.toArray.size 0 lo) == its.toArray.size) = true then _ else _) _ _ s
  rw [if_pos hyes]
  refine wpAny_bind (m:=Builtin.Tuple.tupleIsExact (.ref a)) ?_
  unfold Builtin.Tuple.tupleIsExact
  refine wpAny_bind (wpAny_typeOf ht.typeIs (wpAny_pure ?_))
  rw [if_pos (by decide)]
  refine wpAny_bind (wpAny_rule ?_)
  first
    | exact wpAny_pure ⟨_,rfl,wpAny_pure fin⟩
    | exact wpAny_bind (wpAny_pure ⟨_,rfl,wpAny_pure fin⟩)
    | exact wpAny_bind (wpAny_pure (wpAny_pure ⟨_,rfl,wpAny_pure fin⟩))
    | trace_state
end
end Tr
namespace Tr
open PySem PySem.Spec PyProof.Rows L2
section
variable {T:Tab} {cf:Nat → List D → Res D} {X:Cx} {x y z:E} {p q r:Expr} {pos pos':Pos} {es:List Expr}
theorem sIx_eq (n d:Nat) (o:Option Int):Tr.sIx n d o = HT.sIx n d o:=by cases o <;> rfl
theorem slr:SlR X (fun v lo hi H Q=>∃ O d0 d,RR X.K H O d0 v ∧ D.sl d0 lo hi = .ok d ∧ (∀ a,O a → ∃ o,H a = some o) ∧ ∀ w H',Same H H' → RD X.K H' O d w → NewL X.K H H' O d w → Q w H'):=by
  intro pins s σ H x v vl vu lo hi sl Q I rx hs pl pu h
  obtain ⟨O,d0,d,r0,ev,tr,k⟩:=h
  unfold D.sl at ev
  split at ev
  · cases ev
    obtain ⟨a,xs,rfl,q0,w0⟩:=r0.lst
    refine sl_list pins s σ H _ v vl vu _ _ sl Q I rx hs pl pu ⟨a,xs,rfl,q0,fun p hp=>?_⟩
    have z:=new_lst (w0.cut lo hi) hp tr
    exact k _ _ (same_upd hp _) z.1 z.2
  · cases ev
    obtain ⟨a,xs,rfl,q0,w0⟩:=r0.tup
    by_cases hw:HT.sIx xs.length 0 lo = 0 ∧ HT.sIx xs.length xs.length hi = xs.length
    · refine sl_whole pins s σ H _ v vl vu _ _ sl Q I rx hs pl pu ⟨a,xs,rfl,q0,hw,?_⟩
      refine k _ _ (Same.refl H) ⟨a,xs,rfl,q0,?_⟩ (NewL.still rfl)
      unfold Tr.cut
      rw [← w0.length,sIx_eq,sIx_eq,hw.1,hw.2,List.drop_zero,Nat.sub_zero,List.take_of_length_le (by rw [w0.length];exact Nat.le_refl _)]
      exact w0
    · refine sl_tup pins s σ H _ v vl vu _ _ sl Q I rx hs pl pu ⟨a,xs,rfl,q0,hw,fun p hp=>?_⟩
      exact k _ _ (same_upd hp _) (new_tup (w0.cut lo hi) hp) (NewL.still rfl)
  · obtain ⟨c,ev⟩:=when_ok ev
    cases ev
    cases (show x = _ from r0.rd rfl)
    exact sl_str pins s σ H _ v vl vu _ _ sl Q I rx hs pl pu ⟨_,rfl,by rw [← big_line];exact of_decide_eq_true c,k _ H (Same.refl H) rfl (NewL.still rfl)⟩
  · cases ev
noncomputable def SO (T:Tab) (cf:Nat → List D → Res D) (X:Cx) (x:E) (p:Option Expr):Prop:=∀ H₀ O₀,PO X p (fun σ H Q=>∃ O own e d o,Fm X.K H₀ O₀ H O own e σ ∧ evE T cf x e = .ok d ∧ d.part = .ok o ∧ ∀ H',Same H H' → Q o H')
theorem so_omit:SO T cf X .omit none:=fun H₀ O₀ pins s σ H Q I ⟨O,own,e,d,o,F,ev,ep,k⟩=>by
  rw [xE_omit] at ev;cases ev;cases ep
  exact po_none pins s σ H Q I (k H (Same.refl H))
theorem so_some (h:SE T cf X x p):SO T cf X x (some p):=fun H₀ O₀ pins s σ H Q I ⟨O,own,e,d,o,F,ev,ep,k⟩=>by
  rw [evalPart_some]
  refine thn (h H₀ O₀ pins s σ H (fun v H'=>Same H H' ∧ RD X.K H' O d v) I ⟨O,own,e,d,F,ev,fun v H' s' r _=>⟨s',r⟩⟩) fun u s1 ⟨v,H1,I1,r1,s',r⟩=>?_
  unfold D.part at ep
  split at ep
  · cases ep
    cases (show v = _ from r)
    cases r1
    exact ⟨none,H1,I1,.none,k H1 s'⟩
  · cases ep
    cases (show v = _ from r)
    obtain ⟨t,rfl⟩:=r1
    exact ⟨_,H1,I1,.int _ t,k H1 s'⟩
  · cases ep
theorem se_sl {lo hi:Option Expr} (ha:SR T cf X x p) (hl:SO T cf X y lo) (hh:SO T cf X z hi):SE T cf X (.sl x y z) (.Subscript p (.Slice lo hi none pos') pos):=fun H₀ O₀=>by
  refine PE.imp (fun σ H Q hq=>?_) (pe_slice slr (ha H₀ O₀) (hl H₀ O₀) (hh H₀ O₀))
  obtain ⟨O,own,e,d,F,ev,k⟩:=hq
  rw [xE_sl] at ev
  obtain ⟨d1,e1,ev⟩:=Res.bind_ok ev
  obtain ⟨d2,e2,ev⟩:=Res.bind_ok ev
  obtain ⟨o2,e2',ev⟩:=Res.bind_ok ev
  obtain ⟨d3,e3,ev⟩:=Res.bind_ok ev
  obtain ⟨o3,e3',ev⟩:=Res.bind_ok ev
  refine ⟨O,own,e,d1,F,e1,fun v1 H1 s1 r1=>⟨O,own,e,d2,o2,F.grow s1,e2,e2',fun H2 s2=>⟨O,own,e,d3,o3,(F.grow s1).grow s2,e3,e3',fun H3 s3=>?_⟩⟩⟩
  refine ⟨O,d1,d,(r1.same s2).same s3,ev,((F.grow s1).grow (s2.trans s3)).trk,fun w H' s4 r4 n4=>?_⟩
  exact k w H' ((s1.trans (s2.trans s3)).trans s4) r4 fun _=>n4.back (s1.trans (s2.trans s3))
theorem evA_len {a:E} {e:Nv} {ds:List D} (h:evA T cf a e = .ok ds):ds.length ≤ 1000:=by
  cases a with
  | anil=>(first | rw [xA_anil] at h | rw [xA_acons] at h);cases h;exact Nat.zero_le _
  | acons a r =>
    (first | rw [xA_anil] at h | rw [xA_acons] at h)
    obtain ⟨d1,e1,h⟩:=Res.bind_ok h
    obtain ⟨d2,e2,h⟩:=Res.bind_ok h
    obtain ⟨c,h⟩:=when_ok h
    cases h
    have:=of_decide_eq_true c
    rw [List.length_cons];(first | lia | omega)
  | _=>exact absurd (show (Res.no:Res (List D)) = Res.ok ds from h) (fun z=>by cases z)
theorem sav_nil:SAv T cf X .anil []:=fun H₀ O₀ pos pins s σ H Q I ⟨O,own,e,ds,F,ev,k⟩=>by
  rw [xA_anil] at ev;cases ev
  exact pa_nil pos pins s σ H Q I (k [] H (Same.refl H) rfl)
theorem sav_cons (hp:plainX p = true) (ha:SE T cf X x p) (hr:SAv T cf X y es):SAv T cf X (.acons x y) (p :: es):=fun H₀ O₀ pos pins s σ H Q I ⟨O,own,e,ds,F,ev,k⟩=>by
  rw [xA_acons] at ev
  obtain ⟨d1,e1,ev⟩:=Res.bind_ok ev
  obtain ⟨d2,e2,ev⟩:=Res.bind_ok ev
  obtain ⟨c,ev⟩:=when_ok ev
  cases ev
  refine pa_cons (ha H₀ O₀) (hr H₀ O₀) (plain_star hp) pos pins s σ H Q I ⟨O,own,e,d1,F,e1,fun v1 H1 s1 r1 _=>⟨O,own,e,d2,F.grow s1,e2,fun vs H2 s2 r2=>?_⟩⟩
  exact k (v1 :: vs) H2 (s1.trans s2) ⟨v1,vs,rfl,r1.same s2,r2⟩
theorem sar_nil:SAr T cf X .anil []:=sav_nil.sr
theorem sar_cons (hp:plainX p = true) (ha:SR T cf X x p) (hr:SAr T cf X y es):SAr T cf X (.acons x y) (p :: es):=fun H₀ O₀ pos pins s σ H Q I ⟨O,own,e,ds,F,ev,k⟩=>by
  rw [xA_acons] at ev
  obtain ⟨d1,e1,ev⟩:=Res.bind_ok ev
  obtain ⟨d2,e2,ev⟩:=Res.bind_ok ev
  obtain ⟨c,ev⟩:=when_ok ev
  cases ev
  refine pa_cons (ha H₀ O₀) (hr H₀ O₀) (plain_star hp) pos pins s σ H Q I ⟨O,own,e,d1,F,e1,fun v1 H1 s1 r1=>⟨O,own,e,d2,F.grow s1,e2,fun vs H2 s2 r2=>?_⟩⟩
  exact k (v1 :: vs) H2 (s1.trans s2) ⟨v1,vs,rfl,r1.same s2,r2⟩
theorem len_line {n:Nat} (h:n ≤ 1000):n ≤ sizeLine:=Nat.le_of_lt (small1000 h)
theorem se_tup {k:Nat} (ha:SAv T cf X x es):SE T cf X (.tup x) (.Tuple es k pos):=fun H₀ O₀=>by
  refine PE.imp (fun σ H Q hq=>?_) (pe_tup (ha H₀ O₀))
  obtain ⟨O,own,e,d,F,ev,k⟩:=hq
  rw [xE_tup] at ev
  obtain ⟨ds,e1,ev⟩:=Res.bind_ok ev
  cases ev
  refine ⟨O,own,e,ds,F,e1,fun vs H1 s1 r1=>⟨by rw [r1.length];exact len_line (evA_len e1),fun p hp=>?_⟩⟩
  exact k _ _ (s1.trans (same_upd hp _)) (new_tup r1 hp) (fun z=>by cases z)
theorem se_lst (ha:SAv T cf X x es):SE T cf X (.lst x) (.List es pos):=fun H₀ O₀=>by
  refine PE.imp (fun σ H Q hq=>?_) (pe_lst (ha H₀ O₀))
  obtain ⟨O,own,e,d,F,ev,k⟩:=hq
  rw [xE_lst] at ev
  obtain ⟨ds,e1,ev⟩:=Res.bind_ok ev
  cases ev
  refine ⟨O,own,e,ds,F,e1,fun vs H1 s1 r1=>⟨by rw [r1.length];exact len_line (evA_len e1),fun p hp=>?_⟩⟩
  have z:=new_lst r1 hp (F.grow s1).trk
  exact k _ _ (s1.trans (same_upd hp _)) z.1 fun _=>z.2.back s1
theorem empty_len {α β:Type} {xs:List α} {ds:List β} (h:xs.length = ds.length):(!ds.isEmpty) = !xs.isEmpty:=by
  cases xs <;> cases ds <;> first | rfl | (simp at h)
theorem tru_D {K:PySem.W.Frag} {H:Hp} {O:Addr → Prop} {d:D} {v:V} {k:Bool} (r:RR K H O d v) (h:d.truth = .ok k):TruV K v H k:=by
  unfold D.truth at h
  split at h
  · cases h;cases (show v = _ from r.rd rfl);exact (rfl:false = false)
  · cases h;cases (show v = _ from r.rd rfl);exact (rfl:k = k)
  · cases h;cases (show v = _ from r.rd rfl);exact rfl
  · obtain ⟨c,h⟩:=when_ok h
    cases h;cases (show v = _ from r.rd rfl);exact ⟨by rw [← big_line];exact of_decide_eq_true c,rfl⟩
  · cases h
    obtain ⟨a,xs,rfl,q,w⟩:=r.tup
    refine .inr (.inl ⟨xs,q,?_⟩)
    exact empty_len w.length
  · cases h
    obtain ⟨a,xs,rfl,q,w⟩:=r.lst
    refine .inl ⟨xs,q,?_⟩
    exact empty_len w.length
  · cases h
    obtain ⟨a,ps,rfl,q,w⟩:=r.dct
    exact .inr (.inr ⟨ps,q,empty_len w.length⟩)
  · cases h
theorem st_gen (ha:SR T cf X x p) (he:∀ whole,isTrue p X.env whole = (do let v ← whole;standAt p.pos;holding [v] (truthy v))):ST T cf X x p:=fun H₀ O₀ =>
  PT.imp (fun σ H Q ⟨O,own,e,d,k,F,ev,et,q⟩=>⟨O,own,e,d,F,ev,fun v H' s r=>⟨k,tru_D r et,q H' s⟩⟩) (pt_truth (ha H₀ O₀) he)
theorem cmp_bl {o:CmpOp} {a b d:D} (h:D.cmp o a b = .ok d):∃ k,d = .bl k:=by
  unfold D.cmp at h
  split at h <;> first
    | (obtain ⟨_,h⟩:=when_ok h;cases h;exact ⟨_,rfl⟩)
    | (cases h;exact ⟨_,rfl⟩)
    | (obtain ⟨_,_,h⟩:=Res.bind_ok h;cases h;exact ⟨_,rfl⟩)
    | cases h
theorem st_cmp {o:CmpOp} (hR:Roomy X) (hm:plainX q = true) (ha:SR T cf X x p) (hb:SR T cf X y q):ST T cf X (.cmp o x y) (.Compare p [o] [q] pos):=fun H₀ O₀=>by
  refine PT.imp (fun σ H Q hq=>?_) (pt_cmpR (opr_cmp o hR) (ha H₀ O₀) (hb H₀ O₀) (plain_mark hm))
  obtain ⟨O,own,e,d,k,F,ev,et,qk⟩:=hq
  rw [xE_cmp] at ev
  obtain ⟨d1,e1,ev⟩:=Res.bind_ok ev
  obtain ⟨d2,e2,ev⟩:=Res.bind_ok ev
  obtain ⟨k',rfl⟩:=cmp_bl ev
  cases et
  refine ⟨O,own,e,d1,F,e1,fun v1 H1 s1 r1=>⟨O,own,e,d2,F.grow s1,e2,fun v2 H2 s2 r2=>?_⟩⟩
  refine ⟨O,d1,d2,_,r1.same s2,r2,ev,(F.grow (s1.trans s2)).trk,fun v H' s3 r3 _=>?_⟩
  exact ⟨k,r3,qk H' ((s1.trans s2).trans s3)⟩
theorem pe_andV {a b:Expr} {rest:List Expr} {ta tb:TE} (ha:PE X a ta) (hb:PE X (.BoolOp .And (b :: rest) pos) tb) :
    PE X (.BoolOp .And (a :: b :: rest) pos) (fun σ H Q=>ta σ H fun x H1=>∃ c,TruV X.K x H1 c ∧ if c = true then tb σ H1 Q else Q x H1):=by
  intro pins s σ H Q I h
  refine BoolOp_and (thn (ha pins s σ H _ I h) fun v s1 ⟨x,H1,I1,r1,c,tc,q1⟩=>?_)
  refine thn (tru_ok pins s1 σ H1 x v (fun b H2=>b = c ∧ H2 = H1) I1 r1 ⟨c,tc,rfl,rfl⟩) fun b s2 ⟨H2,I2,e1,e2⟩=>?_
  subst e1 e2
  cases b with
  | true=>exact hb pins s2 σ H2 Q I2 q1
  | false=>exact ⟨x,H2,I2,r1,q1⟩
theorem pe_orV {a b:Expr} {rest:List Expr} {ta tb:TE} (ha:PE X a ta) (hb:PE X (.BoolOp .Or (b :: rest) pos) tb) :
    PE X (.BoolOp .Or (a :: b :: rest) pos) (fun σ H Q=>ta σ H fun x H1=>∃ c,TruV X.K x H1 c ∧ if c = true then Q x H1 else tb σ H1 Q):=by
  intro pins s σ H Q I h
  refine BoolOp_or (thn (ha pins s σ H _ I h) fun v s1 ⟨x,H1,I1,r1,c,tc,q1⟩=>?_)
  refine thn (tru_ok pins s1 σ H1 x v (fun b H2=>b = c ∧ H2 = H1) I1 r1 ⟨c,tc,rfl,rfl⟩) fun b s2 ⟨H2,I2,e1,e2⟩=>?_
  subst e1 e2
  cases b with
  | false=>exact hb pins s2 σ H2 Q I2 q1
  | true=>exact ⟨x,H2,I2,r1,q1⟩
theorem se_and {rest:List Expr} (ha:SE T cf X x p) (hb:SE T cf X y (.BoolOp .And (q :: rest) pos)):SE T cf X (.and x y) (.BoolOp .And (p :: q :: rest) pos):=fun H₀ O₀=>by
  refine PE.imp (fun σ H Q hq=>?_) (pe_andV (ha H₀ O₀) (hb H₀ O₀))
  obtain ⟨O,own,e,d,F,ev,k⟩:=hq
  rw [xE_and] at ev
  obtain ⟨d1,e1,ev⟩:=Res.bind_ok ev
  obtain ⟨c,e2,ev⟩:=Res.bind_ok ev
  refine ⟨O,own,e,d1,F,e1,fun v1 H1 s1 r1 _=>⟨c,tru_D r1.rr e2,?_⟩⟩
  cases c with
  | true =>
    rw [if_pos rfl] at ev ⊢
    exact ⟨O,own,e,d,F.grow s1,ev,fun v H' s' r _=>k v H' (s1.trans s') r (fun z=>by cases z)⟩
  | false =>
    rw [if_neg Bool.false_ne_true] at ev ⊢
    cases ev
    exact k v1 H1 s1 r1 (fun z=>by cases z)
theorem se_or {rest:List Expr} (ha:SE T cf X x p) (hb:SE T cf X y (.BoolOp .Or (q :: rest) pos)):SE T cf X (.or x y) (.BoolOp .Or (p :: q :: rest) pos):=fun H₀ O₀=>by
  refine PE.imp (fun σ H Q hq=>?_) (pe_orV (ha H₀ O₀) (hb H₀ O₀))
  obtain ⟨O,own,e,d,F,ev,k⟩:=hq
  rw [xE_or] at ev
  obtain ⟨d1,e1,ev⟩:=Res.bind_ok ev
  obtain ⟨c,e2,ev⟩:=Res.bind_ok ev
  refine ⟨O,own,e,d1,F,e1,fun v1 H1 s1 r1 _=>⟨c,tru_D r1.rr e2,?_⟩⟩
  cases c with
  | false =>
    rw [if_neg Bool.false_ne_true] at ev ⊢
    exact ⟨O,own,e,d,F.grow s1,ev,fun v H' s' r _=>k v H' (s1.trans s') r (fun z=>by cases z)⟩
  | true =>
    rw [if_pos rfl] at ev ⊢
    cases ev
    exact k v1 H1 s1 r1 (fun z=>by cases z)
theorem se_one {op:BoolOp} (h:SE T cf X x p):SE T cf X x (.BoolOp op [p] pos):=fun H₀ O₀=>pe_one (h H₀ O₀)
theorem se_not (ha:ST T cf X x p) (hv:SR T cf X x p):SE T cf X (.not x) (.UnaryOp .Not p pos):=fun H₀ O₀=>by
  intro pins s σ H Q I ⟨O,own,e,d,F,ev,k⟩
  rw [xE_not] at ev
  obtain ⟨d1,e1,ev⟩:=Res.bind_ok ev
  obtain ⟨c,e2,ev⟩:=Res.bind_ok ev
  cases ev
  refine UnaryOp_ (thn (hv H₀ O₀ pins s σ H (fun v1 H1=>Same H H1 ∧ RR X.K H1 O d1 v1) I ⟨O,own,e,d1,F,e1,fun v1 H1 s1 r1=>⟨s1,r1⟩⟩) fun v s1 ⟨x1,H1,I1,r1,s1',rr⟩=>?_)
  refine not_of ?_
  exact thn (tru_ok pins s1 σ H1 x1 v (fun b H2=>b = c ∧ H2 = H1) I1 r1 ⟨c,tru_D rr e2,rfl,rfl⟩) fun b s2 ⟨H2,I2,e3,e4⟩=>by
    subst e3 e4
    exact ⟨.bl (!b),H2,I2,rfl,k _ H2 s1' rfl (fun z=>by cases z)⟩
theorem st_not (ha:ST T cf X x p):ST T cf X (.not x) (.UnaryOp .Not p pos):=fun H₀ O₀=>by
  refine PT.imp (fun σ H Q hq=>?_) (pt_not (ha H₀ O₀))
  obtain ⟨O,own,e,d,k,F,ev,et,qk⟩:=hq
  rw [xE_not] at ev
  obtain ⟨d1,e1,ev⟩:=Res.bind_ok ev
  obtain ⟨c,e2,ev⟩:=Res.bind_ok ev
  cases ev
  cases et
  exact ⟨O,own,e,d1,c,F,e1,e2,fun H' s=>qk H' s⟩
noncomputable def SW (T:Tab) (cf:Nat → List D → Res D) (X:Cx) (x:E) (p:Expr):Prop:=∀ H₀ O₀,PW X p (tT T cf X.K H₀ O₀ x)
theorem SW.st (h:SW T cf X x p):ST T cf X x p:=fun H₀ O₀=>(h H₀ O₀).pt
theorem PW.imp {t t':TT} (h:∀ σ H Q,t' σ H Q → t σ H Q) (hp:PW X p t):PW X p t':=fun w pins s σ H Q I q=>hp w pins s σ H Q I (h σ H Q q)
theorem sw_and1 (ha:ST T cf X x p):SW T cf X x (.BoolOp .And [p] pos):=fun H₀ O₀=>pw_and1 (ha H₀ O₀)
theorem sw_or1 (ha:ST T cf X x p):SW T cf X x (.BoolOp .Or [p] pos):=fun H₀ O₀=>pw_or1 (ha H₀ O₀)
theorem sw_and {rest:List Expr} (ha:ST T cf X x p) (hb:SW T cf X y (.BoolOp .And (q :: rest) pos)):SW T cf X (.and x y) (.BoolOp .And (p :: q :: rest) pos):=fun H₀ O₀=>by
  refine PW.imp (fun σ H Q hq=>?_) (pw_and (ha H₀ O₀) (hb H₀ O₀))
  obtain ⟨O,own,e,d,k,F,ev,et,qk⟩:=hq
  rw [xE_and] at ev
  obtain ⟨d1,e1,ev⟩:=Res.bind_ok ev
  obtain ⟨c,e2,ev⟩:=Res.bind_ok ev
  refine ⟨O,own,e,d1,c,F,e1,e2,fun H1 s1=>?_⟩
  cases c with
  | true =>
    rw [if_pos rfl] at ev ⊢
    exact ⟨O,own,e,d,k,F.grow s1,ev,et,fun H' s'=>qk H' (s1.trans s')⟩
  | false =>
    rw [if_neg Bool.false_ne_true] at ev ⊢
    cases ev
    rw [e2] at et;cases et
    exact qk H1 s1
theorem sw_or {rest:List Expr} (ha:ST T cf X x p) (hb:SW T cf X y (.BoolOp .Or (q :: rest) pos)):SW T cf X (.or x y) (.BoolOp .Or (p :: q :: rest) pos):=fun H₀ O₀=>by
  refine PW.imp (fun σ H Q hq=>?_) (pw_or (ha H₀ O₀) (hb H₀ O₀))
  obtain ⟨O,own,e,d,k,F,ev,et,qk⟩:=hq
  rw [xE_or] at ev
  obtain ⟨d1,e1,ev⟩:=Res.bind_ok ev
  obtain ⟨c,e2,ev⟩:=Res.bind_ok ev
  refine ⟨O,own,e,d1,c,F,e1,e2,fun H1 s1=>?_⟩
  cases c with
  | false =>
    rw [if_neg Bool.false_ne_true] at ev ⊢
    exact ⟨O,own,e,d,k,F.grow s1,ev,et,fun H' s'=>qk H' (s1.trans s')⟩
  | true =>
    rw [if_pos rfl] at ev ⊢
    cases ev
    rw [e2] at et;cases et
    exact qk H1 s1
theorem se_ife (hc:ST T cf X x p) (ha:SE T cf X y q) (hb:SE T cf X z r):SE T cf X (.ife x y z) (.IfExp p q r pos):=fun H₀ O₀=>by
  refine PE.imp (fun σ H Q hq=>?_) (pe_ifExp (hc H₀ O₀) (ha H₀ O₀) (hb H₀ O₀))
  obtain ⟨O,own,e,d,F,ev,k⟩:=hq
  rw [xE_ife] at ev
  obtain ⟨d1,e1,ev⟩:=Res.bind_ok ev
  obtain ⟨c,e2,ev⟩:=Res.bind_ok ev
  refine ⟨O,own,e,d1,c,F,e1,e2,fun H1 s1=>?_⟩
  cases c with
  | true =>
    rw [if_pos rfl] at ev ⊢
    exact ⟨O,own,e,d,F.grow s1,ev,fun v H' s' r _=>k v H' (s1.trans s') r (fun z=>by cases z)⟩
  | false =>
    rw [if_neg Bool.false_ne_true] at ev ⊢
    exact ⟨O,own,e,d,F.grow s1,ev,fun v H' s' r _=>k v H' (s1.trans s') r (fun z=>by cases z)⟩
theorem pt_ifExp {c a b:Expr} {tA ta tb:TT} (hc:PT X c tA) (ha:PT X a ta) (hb:PT X b tb):PT X (.IfExp c a b pos) (fun σ H Q=>tA σ H fun k H1=>if k = true then ta σ H1 Q else tb σ H1 Q):=by
  intro pins s σ H Q I h
  show wpAny _ _ (isTrue c X.env (eval c X.env) >>= fun k=>if k = true then isTrue a X.env (eval a X.env) else isTrue b X.env (eval b X.env)) _ _ s
  refine wpAny_bind (thn (hc pins s σ H _ I h) fun k s1 ⟨H1,I1,q1⟩=>?_)
  cases k with
  | true=>exact ha pins s1 σ H1 Q I1 q1
  | false=>exact hb pins s1 σ H1 Q I1 q1
theorem st_ife (hc:ST T cf X x p) (ha:ST T cf X y q) (hb:ST T cf X z r):ST T cf X (.ife x y z) (.IfExp p q r pos):=fun H₀ O₀=>by
  refine PT.imp (fun σ H Q hq=>?_) (pt_ifExp (hc H₀ O₀) (ha H₀ O₀) (hb H₀ O₀))
  obtain ⟨O,own,e,d,k,F,ev,et,qk⟩:=hq
  rw [xE_ife] at ev
  obtain ⟨d1,e1,ev⟩:=Res.bind_ok ev
  obtain ⟨c,e2,ev⟩:=Res.bind_ok ev
  refine ⟨O,own,e,d1,c,F,e1,e2,fun H1 s1=>?_⟩
  cases c with
  | true =>
    rw [if_pos rfl] at ev ⊢
    exact ⟨O,own,e,d,k,F.grow s1,ev,et,fun H' s'=>qk H' (s1.trans s')⟩
  | false =>
    rw [if_neg Bool.false_ne_true] at ev ⊢
    exact ⟨O,own,e,d,k,F.grow s1,ev,et,fun H' s'=>qk H' (s1.trans s')⟩
theorem tchain_of {o o':CmpOp} {H₀:Hp} {O₀:Addr → Prop} {σ:L2.St} {H:Hp} {Q:VK} (h:tE T cf X.K H₀ O₀ (.chain o o' x y z) σ H Q) :
    tChain (rD2 X.K (D.cmp o) false) (rD2 X.K (D.cmp o') false) (tR T cf X.K H₀ O₀ x) (tR T cf X.K H₀ O₀ y) (tR T cf X.K H₀ O₀ z) σ H Q:=by
  obtain ⟨O,own,e,d,F,ev,k⟩:=h
  (first | rw [xE_cmp] at ev | rw [xE_chain] at ev)
  obtain ⟨d1,e1,ev⟩:=Res.bind_ok ev
  obtain ⟨d2,e2,ev⟩:=Res.bind_ok ev
  obtain ⟨d3,e3,ev⟩:=Res.bind_ok ev
  obtain ⟨c,rfl⟩:=cmp_bl e3
  refine ⟨O,own,e,d1,F,e1,fun v1 H1 s1 r1=>⟨O,own,e,d2,F.grow s1,e2,fun v2 H2 s2 r2=>?_⟩⟩
  refine ⟨O,d1,d2,_,r1.same s2,r2,e3,(F.grow (s1.trans s2)).trk,fun v H3 s3 r3 _=>⟨c,r3,?_⟩⟩
  have s123:=(s1.trans s2).trans s3
  cases c with
  | true =>
    rw [if_pos rfl]
    obtain ⟨d4,e4,ev⟩:=Res.bind_ok ev
    refine ⟨O,own,e,d4,F.grow s123,e4,fun v4 H4 s4 r4=>?_⟩
    exact ⟨O,d2,d4,d,(r2.same s3).same s4,r4,ev,(F.grow (s123.trans s4)).trk,fun v H' s5 r5 n5=>k v H' ((s123.trans s4).trans s5) r5 fun z=>by cases z⟩
  | false =>
    rw [if_neg Bool.false_ne_true]
    cases ev
    exact k _ H3 s123 rfl fun z=>by cases z
theorem se_chain {o o':CmpOp} (hR:Roomy X) (hm:plainX r = true) (ha:SR T cf X x p) (hb:SR T cf X y q) (hc:SR T cf X z r):SE T cf X (.chain o o' x y z) (.Compare p [o,o'] [q,r] pos):=fun H₀ O₀ =>
  PE.imp (fun σ H Q h=>tchain_of h) (pe_chain (opr_cmp o hR) (opr_cmp o' hR) (ha H₀ O₀) (hb H₀ O₀) (hc H₀ O₀) (plain_mark hm))
theorem st_chain {o o':CmpOp} (hR:Roomy X) (hm:plainX r = true) (ha:SR T cf X x p) (hb:SR T cf X y q) (hc:SR T cf X z r):ST T cf X (.chain o o' x y z) (.Compare p [o,o'] [q,r] pos):=fun H₀ O₀=>by
  refine PT.imp (fun σ H Q hq=>?_) (pt_chain (opr_cmp o hR) (opr_cmp o' hR) (ha H₀ O₀) (hb H₀ O₀) (hc H₀ O₀) (plain_mark hm))
  obtain ⟨O,own,e,d,k,F,ev,et,qk⟩:=hq
  have bl:∃ b,d = .bl b:=by
    rw [xE_chain] at ev
    obtain ⟨d1,e1,ev⟩:=Res.bind_ok ev
    obtain ⟨d2,e2,ev⟩:=Res.bind_ok ev
    obtain ⟨d3,e3,ev⟩:=Res.bind_ok ev
    split at ev
    · obtain ⟨d4,e4,ev⟩:=Res.bind_ok ev
      exact cmp_bl ev
    · cases ev;exact ⟨_,rfl⟩
    · cases ev
  obtain ⟨b,rfl⟩:=bl
  cases et
  exact tchain_of ⟨O,own,e,_,F,ev,fun v H' s' r' _=>⟨k,r',qk H' s'⟩⟩
theorem se_neg (ha:SR T cf X x p):SE T cf X (.neg x) (.UnaryOp .USub p pos):=fun H₀ O₀=>by
  refine PE.imp (fun σ H Q hq=>?_) (pe_un un_neg (ha H₀ O₀))
  obtain ⟨O,own,e,d,F,ev,k⟩:=hq
  (first | rw [xE_rd] at ev | rw [xE_neg] at ev)
  obtain ⟨d1,e1,ev⟩:=Res.bind_ok ev
  split at ev
  · cases ev
    refine ⟨O,own,e,_,F,e1,fun v1 H1 s1 r1=>⟨_,r1.rd rfl,k _ H1 s1 rfl fun z=>by cases z⟩⟩
  · cases ev
end
end Tr
namespace Tr
open PySem PySem.Spec PyProof.Rows L2
section
variable {T:Tab} {cf:Nat → List D → Res D} {X:Cx} {x y z:E} {p q r:Expr} {pos pos':Pos} {es:List Expr}
noncomputable def spD (K:PySem.W.Frag) (F:List D → Res D) (fr:Bool):Sp:=fun vs H Q E=>∃ O ds,(∀ a,O a → ∃ o,H a = some o) ∧ RDs K H O ds vs ∧
  ((∃ d,F ds = .ok d ∧ ∀ v H',Same H H' → RD K H' O d v → (fr = true → NewR K H H' O d v) → Q v H') ∨ ∃ c d,F ds = .err c d ∧ ∀ H',Same H H' → E (cvK K c) none H')
noncomputable def DefIs (T:Tab) (cf:Nat → List D → Res D) (X:Cx) (f:Nat) (n:Str):Prop :=
  ∃ k a fd ps,FnOk X.prog X.w X.K X.mg X.base (CXE X.prog X.w) k a fd ps (spD X.K (cf f) (T.fresh f)) ∧ Room k X.A ∧ X.mg n = some (.ref a) ∧ PySem.W.keepIn X.K (.ref a) = true ∧ Binds X.K fd ps []
theorem tcall_of {f:Nat} {H₀:Hp} {O₀:Addr → Prop} {σ:L2.St} {H:Hp} {Q:VK} (h:tE T cf X.K H₀ O₀ (.call f x) σ H Q):tCall (spD X.K (cf f) (T.fresh f)) [] E0 (tAv T cf X.K H₀ O₀ x) σ H Q:=by
  obtain ⟨O,own,e,d,F,ev,k⟩:=h
  rw [xE_call] at ev
  obtain ⟨ds,e1,ev⟩:=Res.bind_ok ev
  refine ⟨O,own,e,ds,F,e1,fun vs H1 s1 r1=>?_⟩
  dsimp only
  rw [List.append_nil]
  refine ⟨O,ds,(F.grow s1).trk,r1,.inl ⟨d,ev,fun v H' s2 r2 n2=>k v H' (s1.trans s2) r2 fun fr=>(n2 fr).1.back s1⟩⟩
theorem se_call {f:Nat} {n:Str} {pn:Pos} (hd:DefIs T cf X f n) (hg:Gl X n) (hdb:(n == ("__debug__" : Str)) = false) (hp:(p :: es).all plainX = true) (ha:SAv T cf X x (p :: es)):SE T cf X (.call f x) (.Call (.Name n pn) (p :: es) [] pos):=fun H₀ O₀=>by
  obtain ⟨k,a,fd,ps,Fk,hr,hm,hk,hb⟩:=hd
  rw [List.all_cons,Bool.and_eq_true] at hp
  exact PE.imp (fun σ H Q h=>tcall_of h) (pe_call Fk hr hg hm hk hb .nil passE0 (ha H₀ O₀) hdb (plain_star hp.1) (plain_any hp.2))
theorem se_call0 {f:Nat} {n:Str} {pn:Pos} (hd:DefIs T cf X f n) (hg:Gl X n) (hdb:(n == ("__debug__" : Str)) = false):SE T cf X (.call f .anil) (.Call (.Name n pn) [] [] pos):=fun H₀ O₀=>by
  obtain ⟨k,a,fd,ps,Fk,hr,hm,hk,hb⟩:=hd
  refine PE.imp (fun σ H Q h=>?_) (pe_call0 Fk hr hg hm hk hb .nil passE0 hdb)
  obtain ⟨O,own,e,d,F,ev,k⟩:=h
  rw [xE_call] at ev
  obtain ⟨ds,e1,ev⟩:=Res.bind_ok ev
  rw [xA_anil] at e1;cases e1
  exact ⟨O,[],F.trk,rfl,.inl ⟨d,ev,fun v H' s2 r2 n2=>k v H' s2 r2 fun fr=>(n2 fr).1⟩⟩
noncomputable def TabF (T:Tab) (cf:Nat → List D → Res D) (X:Cx) (n:Str) (fs:List Nat):Prop :=
  ∃ (a:Addr) (xs:List V),X.mg n = some (.ref a) ∧ (∀ H,SqT X.K H a xs) ∧ xs.length = fs.length ∧ ∀ (j f:Nat),fs[j]? = some f → ∃ (ad:Addr) (m:Str),xs[j]? = some (V.ref ad) ∧ X.mg m = some (.ref ad) ∧ DefIs T cf X f m
noncomputable def TabS (X:Cx) (n:Str) (ss:List Str):Prop:=∃ a,X.mg n = some (.ref a) ∧ ModS X.K a ss
theorem ints_vals {K:PySem.W.Frag} {H:Hp} {O:Addr → Prop}:∀ {ds:List D} {ns:List Int} {xs:List V},intsOf ds = .ok ns → RDs K H O ds xs → xs = ns.map V.int
  | [],ns,xs,h,w=>by
    rw [intsOf] at h;cases h
    rw [RDs] at w;subst w;rfl
  | .int i :: r,ns,xs,h,w=>by
    rw [intsOf] at h
    obtain ⟨q,h1,h⟩:=Res.bind_ok h
    cases h
    obtain ⟨v,ys,rfl,e1,e2⟩:=w
    cases (show v = _ from e1)
    rw [ints_vals h1 e2];rfl
  | .non :: _,_,_,h,_ | .bl _ :: _,_,_,h,_ | .str _ :: _,_,_,h,_ | .tup _ :: _,_,_,h,_ | .lst _ :: _,_,_,h,_ | .dct _ :: _,_,_,h,_ | .tdc _ :: _,_,_,h,_=>by
    rw [intsOf] at h <;> first | cases h | (intros;rename_i z;cases z)
theorem rds_nats {K:PySem.W.Frag} {H:Hp} {O:Addr → Prop}:∀ (l:List Nat),RDs K H O (l.map fun i:Nat=>D.int (i:Int)) (l.map fun i:Nat=>V.int (i:Int))
  | []=>rfl
  | n :: l=>⟨_,_,rfl,rfl,rds_nats l⟩
theorem se_sset {pn pm pos2:Pos} (hh:X.calm = true) (hm1:X.mg "sorted" = none) (hm2:X.mg "set" = none) (hg1:Gl X "sorted") (hg2:Gl X "set") (hp:plainX p = true) (ha:SR T cf X x p) :
    SE T cf X (.sset x) (.Call (.Name "sorted" pn) [.Call (.Name "set" pm) [p] [] pos2] [] pos):=fun H₀ O₀=>by
  refine PE.imp (fun σ H Q hq=>?_) (pe_callB (call_sorted8 hh) hg1 hm1 (by decide +kernel) (pa_cons (pe_callTy (call_set8 hh) hg2 hm2 (by decide +kernel) (pa_cons (ha H₀ O₀) pa_nil (plain_star hp)) (by decide) (by decide) (plain_star hp) rfl) pa_nil rfl) (by decide) (by decide) rfl rfl)
  obtain ⟨O,own,e,d,F,ev,k⟩:=hq
  (first | rw [xE_tup] at ev | rw [xE_lst] at ev | rw [xE_sset] at ev)
  obtain ⟨d1,e1,ev1⟩:=Res.bind_ok ev
  refine ⟨O,own,e,d1,F,e1,fun v1 H1 s1 r1=>?_⟩
  cases d1 with
  | lst ds =>
    obtain ⟨ns,e2,ev2⟩:=Res.bind_ok (show (intsOf ds >>= _) = Res.ok d from ev1)
    obtain ⟨c,ev3⟩:=when_ok ev2
    cases ev3
    have hb:∀ n ∈ ns,0 ≤ n ∧ n < 8:=fun n hn=>by
      have:=List.all_eq_true.mp c n hn
      rw [Bool.and_eq_true,decide_eq_true_eq,decide_eq_true_eq] at this
      exact this
    obtain ⟨a,xs,rfl,q1,w1⟩:=r1.lst
    rw [ints_vals e2 w1] at q1
    refine ⟨a,ns,rfl,q1,hb,fun p hpn=>⟨p,m8 ns,rfl,upd_same,fun l hl=>?_⟩⟩
    have F1:=(F.grow s1).grow (same_upd hpn (SetX8 X.w p (m8 ns)))
    rw [bits_m8 hb] at *
    have z:=new_lst (K:=X.K) (O:=O) (ds:=sset8 ns) (rds_nats ((List.range 8).filter fun i:Nat=>ns.contains (i:Int))) hl F1.trk
    exact k _ _ ((s1.trans (same_upd hpn _)).trans (same_upd hl _)) z.1 fun _=>z.2.back (s1.trans (same_upd hpn _))
  | non=>cases ev1
  | bl _=>cases ev1
  | int _=>cases ev1
  | str _=>cases ev1
  | tup _=>cases ev1
  | dct _=>cases ev1
  | tdc _=>cases ev1
theorem rds_range {K:PySem.W.Frag} {H:Hp} {O:Addr → Prop}:∀ (lo:Int) (n:Nat),RDs K H O (rangeD lo n) ((List.range n).map fun i:Nat=>V.int (lo + (i:Nat)))
  | lo,0=>rfl
  | lo,n + 1=>by
    rw [rangeD,List.range_succ_eq_map,List.map_cons,List.map_map]
    refine ⟨_,_,rfl,by show V.int _ = V.int _;simp,?_⟩
    have e:(List.range n).map ((fun i:Nat=>V.int (lo + (i:Nat))) ∘ Nat.succ) = (List.range n).map fun i:Nat=>V.int (lo + 1 + (i:Nat)):=by
      apply List.map_congr_left
      intro i _
      simp only [Function.comp]
      congr 1
      push_cast
      (first | lia | omega)
    rw [e]
    exact rds_range (lo + 1) n
theorem se_lrng {pn pm pos2:Pos} (hh:X.calm = true) (hm1:X.mg "list" = none) (hm2:X.mg "range" = none) (hg1:Gl X "list") (hg2:Gl X "range") (hp:plainX p = true) (ha:SE T cf X x p) :
    SE T cf X (.lrng x) (.Call (.Name "list" pn) [.Call (.Name "range" pm) [p] [] pos2] [] pos):=fun H₀ O₀=>by
  refine PE.imp (fun σ H Q hq=>?_) (pe_callTy (call_listX hh) hg1 hm1 (by decide +kernel) (pa_cons (pe_callTy call_rangeX hg2 hm2 (by decide +kernel) (pa_cons (ha H₀ O₀) pa_nil (plain_star hp)) (by decide) (by decide) (plain_star hp) rfl) pa_nil rfl) (by decide) (by decide) rfl rfl)
  obtain ⟨O,own,e,d,F,ev,k⟩:=hq
  (first | rw [xE_tup] at ev | rw [xE_lst] at ev | rw [xE_lrng] at ev)
  obtain ⟨d1,e1,ev1⟩:=Res.bind_ok ev
  refine ⟨O,own,e,d1,F,e1,fun v1 H1 s1 r1 _=>?_⟩
  cases d1 with
  | int n =>
    have ev1:when (small62 n && decide (n ≤ (big:Nat))) (.ok (D.lst (rangeD 0 n.toNat))) = .ok d:=ev1
    obtain ⟨c,ev2⟩:=when_ok ev1
    cases ev2
    rw [Bool.and_eq_true,decide_eq_true_eq] at c
    have c1:=c.1
    simp only [small62,Bool.and_eq_true,decide_eq_true_eq] at c1
    cases (show v1 = .int n from r1)
    refine ⟨n,rfl,fun p hpn=>⟨p,n,rfl,upd_same,c1.1,c1.2,by rw [← big_line];exact c.2,fun l hl=>?_⟩⟩
    have F1:=(F.grow s1).grow (same_upd hpn (.rng 0 n))
    have z:=new_lst (K:=X.K) (O:=O) (ds:=rangeD 0 n.toNat) (rds_range 0 n.toNat) hl F1.trk
    exact k _ _ ((s1.trans (same_upd hpn _)).trans (same_upd hl _)) z.1 fun _=>z.2.back (s1.trans (same_upd hpn _))
  | non=>cases ev1
  | bl _=>cases ev1
  | str _=>cases ev1
  | tup _=>cases ev1
  | lst _=>cases ev1
  | dct _=>cases ev1
  | tdc _=>cases ev1
noncomputable def rB (K:PySem.W.Frag) (f:List D → Res D) (fr:Bool):List V → Hp → VK → Prop:=fun vs H Q=>∃ O ds d,RRs K H O ds vs ∧ f ds = .ok d ∧ (∀ a,O a → ∃ o,H a = some o) ∧ ∀ v H',Same H H' → RD K H' O d v → (fr = true → NewL K H H' O d v) → Q v H'
theorem rr1 {K:PySem.W.Frag} {H:Hp} {O:Addr → Prop} {d:D} {vs:List V} (h:RRs K H O [d] vs):∃ v,vs = [v] ∧ RR K H O d v:=by
  obtain ⟨v,r,rfl,h1,h2⟩:=h
  rw [RRs] at h2;subst h2
  exact ⟨v,rfl,h1⟩
noncomputable def Bt.val:Bt → Value
  | .len=>.builtin "len"
  | .sum=>.builtin "sum"
  | .tuple=>.type "tuple"
  | .list=>.type "list"
  | .int=>.type "int"
  | .str=>.type "str"
  | .bool=>.type "bool"
  | .abs=>.builtin "abs"
  | .min=>.builtin "min"
  | .max=>.builtin "max"
  | .all=>.builtin "all"
  | .any=>.builtin "any"
noncomputable def Bt.nm:Bt → Str
  | .len => "len"
  | .sum => "sum"
  | .tuple => "tuple"
  | .list => "list"
  | .int => "int"
  | .str => "str"
  | .bool => "bool"
  | .abs => "abs"
  | .min => "min"
  | .max => "max"
  | .all => "all"
  | .any => "any"
theorem run_one {b:Bt} {ds:List D} {d:D} (h:b.run ds = .ok d) (hb:∀ d1 d2,b.two d1 d2 = .no):∃ d0,ds = [d0] ∧ b.one d0 = .ok d:=by
  unfold Bt.run at h
  split at h
  · exact ⟨_,rfl,h⟩
  · rw [hb] at h;cases h
  · cases h
theorem run_oneOrTwo {b:Bt} {ds:List D} {d:D} (h:b.run ds = .ok d):(∃ d0,ds = [d0] ∧ b.one d0 = .ok d) ∨ ∃ d1 d2,ds = [d1,d2] ∧ b.two d1 d2 = .ok d:=by
  unfold Bt.run at h
  split at h
  · exact .inl ⟨_,rfl,h⟩
  · exact .inr ⟨_,_,rfl,h⟩
  · cases h
theorem rr2 {K:PySem.W.Frag} {H:Hp} {O:Addr → Prop} {d d':D} {vs:List V} (h:RRs K H O [d,d'] vs):∃ v v',vs = [v,v'] ∧ RR K H O d v ∧ RR K H O d' v':=by
  obtain ⟨v,r,rfl,h1,h2⟩:=h
  obtain ⟨v',rfl,h3⟩:=rr1 h2
  exact ⟨v,v',rfl,h1,h3⟩
theorem bt_len:CallR X (.builtin "len") (rB X.K (Bt.run .len) false):=by
  intro pins s σ H xs us Q I rv h
  obtain ⟨O,ds,d,rr,ev,tr,k⟩:=h
  obtain ⟨d0,rfl,ev⟩:=run_one ev (fun _ _=>rfl)
  obtain ⟨v,rfl,r1⟩:=rr1 rr
  have ev:D.len d0 = .ok d:=ev
  unfold D.len at ev
  split at ev
  · cases ev
    obtain ⟨a,ys,rfl,q1,w1⟩:=r1.lst
    exact call_len_seq pins s σ H _ us Q I rv ⟨a,ys,rfl,.inl q1,k _ H (Same.refl H) (by rw [w1.length];exact rfl) (fun z=>by cases z)⟩
  · cases ev
    obtain ⟨a,ys,rfl,q1,w1⟩:=r1.tup
    exact call_len_seq pins s σ H _ us Q I rv ⟨a,ys,rfl,.inr q1,k _ H (Same.refl H) (by rw [w1.length];exact rfl) (fun z=>by cases z)⟩
  · obtain ⟨c,ev⟩:=when_ok ev
    cases ev
    cases (show v = _ from r1.rd rfl)
    exact call_len_str pins s σ H _ us Q I rv ⟨_,rfl,by rw [← big_line];exact of_decide_eq_true c,k _ H (Same.refl H) rfl (fun z=>by cases z)⟩
  · cases ev
    obtain ⟨a,ps,rfl,q1,w1⟩:=r1.dct
    obtain ⟨u,rfl,ru⟩:=vals1 rv
    cases ru
    exact d_len I (.inl q1) fun t s' I'=>⟨.int _,H,I',⟨t,rfl⟩,k _ H (Same.refl H) (by rw [w1.length];exact rfl) (fun z=>by cases z)⟩
  · cases ev
theorem bt_list:CallR X (.type "list") (rB X.K (Bt.run .list) true):=by
  intro pins s σ H xs us Q I rv h
  obtain ⟨O,ds,d,rr,ev,tr,k⟩:=h
  obtain ⟨d0,rfl,ev⟩:=run_one ev (fun _ _=>rfl)
  obtain ⟨v,rfl,r1⟩:=rr1 rr
  have ev:D.list d0 = .ok d:=ev
  unfold D.list at ev
  split at ev
  · cases ev
    obtain ⟨a,ys,rfl,q1,w1⟩:=r1.lst
    refine call_list_of pins s σ H _ us Q I rv ⟨a,ys,rfl,.inl q1,fun l hl=>?_⟩
    have z:=new_lst w1 hl tr
    exact k _ _ (same_upd hl _) z.1 (fun _=>z.2)
  · cases ev
    obtain ⟨a,ys,rfl,q1,w1⟩:=r1.tup
    refine call_list_of pins s σ H _ us Q I rv ⟨a,ys,rfl,.inr q1,fun l hl=>?_⟩
    have z:=new_lst w1 hl tr
    exact k _ _ (same_upd hl _) z.1 (fun _=>z.2)
  · cases ev
theorem bt_min (hc:X.calm = true):CallR X (.builtin "min") (rB X.K (Bt.run .min) false):=by
  intro pins s σ H xs us Q I rv h
  obtain ⟨O,ds,d,rr,ev,tr,k⟩:=h
  rcases run_oneOrTwo ev with ⟨d0,rfl,ev⟩ | ⟨d1,d2,rfl,ev⟩
  · obtain ⟨v,rfl,r1⟩:=rr1 rr
    cases d0 with
    | lst a =>
      obtain ⟨ns,e1,ev⟩:=Res.bind_ok (show (intsOf a >>= _) = Res.ok d from ev)
      cases ns with
      | nil=>cases ev
      | cons n ns =>
        cases ev
        obtain ⟨a0,ys,rfl,q1,w1⟩:=r1.lst
        have e2:=ints_vals e1 w1
        subst e2
        exact call_minL hc pins s σ H _ us Q I rv ⟨a0,n,ns,rfl,q1,k _ H (Same.refl H) rfl (fun z=>by cases z)⟩
    | tup a =>
      obtain ⟨ns,e1,ev⟩:=Res.bind_ok (show (intsOf a >>= _) = Res.ok d from ev)
      cases ns with
      | nil=>cases ev
      | cons n ns =>
        cases ev
        obtain ⟨a0,ys,rfl,q1,w1⟩:=r1.tup
        have e2:=ints_vals e1 w1
        subst e2
        exact call_minT hc pins s σ H _ us Q I rv ⟨a0,n,ns,rfl,q1,k _ H (Same.refl H) rfl (fun z=>by cases z)⟩
    | _=>cases ev
  obtain ⟨v,v',rfl,r1,r2⟩:=rr2 rr
  have ev:D.min2 d1 d2 = .ok d:=ev
  unfold D.min2 at ev
  split at ev
  · cases ev
    cases (show v = _ from r1.rd rfl)
    cases (show v' = _ from r2.rd rfl)
    exact call_min2 hc pins s σ H _ us Q I rv ⟨_,_,rfl,k _ H (Same.refl H) rfl (fun z=>by cases z)⟩
  · cases ev
theorem bt_max (hc:X.calm = true):CallR X (.builtin "max") (rB X.K (Bt.run .max) false):=by
  intro pins s σ H xs us Q I rv h
  obtain ⟨O,ds,d,rr,ev,tr,k⟩:=h
  rcases run_oneOrTwo ev with ⟨d0,rfl,ev⟩ | ⟨d1,d2,rfl,ev⟩
  · obtain ⟨v,rfl,r1⟩:=rr1 rr
    cases d0 with
    | lst a =>
      obtain ⟨ns,e1,ev⟩:=Res.bind_ok (show (intsOf a >>= _) = Res.ok d from ev)
      cases ns with
      | nil=>cases ev
      | cons n ns =>
        cases ev
        obtain ⟨a0,ys,rfl,q1,w1⟩:=r1.lst
        have e2:=ints_vals e1 w1
        subst e2
        exact call_maxL hc pins s σ H _ us Q I rv ⟨a0,n,ns,rfl,q1,k _ H (Same.refl H) rfl (fun z=>by cases z)⟩
    | tup a =>
      obtain ⟨ns,e1,ev⟩:=Res.bind_ok (show (intsOf a >>= _) = Res.ok d from ev)
      cases ns with
      | nil=>cases ev
      | cons n ns =>
        cases ev
        obtain ⟨a0,ys,rfl,q1,w1⟩:=r1.tup
        have e2:=ints_vals e1 w1
        subst e2
        exact call_maxT hc pins s σ H _ us Q I rv ⟨a0,n,ns,rfl,q1,k _ H (Same.refl H) rfl (fun z=>by cases z)⟩
    | _=>cases ev
  obtain ⟨v,v',rfl,r1,r2⟩:=rr2 rr
  have ev:D.max2 d1 d2 = .ok d:=ev
  unfold D.max2 at ev
  split at ev
  · cases ev
    cases (show v = _ from r1.rd rfl)
    cases (show v' = _ from r2.rd rfl)
    exact call_max2 hc pins s σ H _ us Q I rv ⟨_,_,rfl,k _ H (Same.refl H) rfl (fun z=>by cases z)⟩
  · cases ev
theorem bls_vals {K:PySem.W.Frag} {H:Hp} {O:Addr → Prop}:∀ {ds:List D} {ns:List Bool} {xs:List V},blsOf ds = .ok ns → RDs K H O ds xs → xs = ns.map V.bl
  | [],ns,xs,h,w=>by
    rw [blsOf] at h;cases h
    rw [RDs] at w;subst w;rfl
  | .bl i :: r,ns,xs,h,w=>by
    rw [blsOf] at h
    obtain ⟨q,h1,h⟩:=Res.bind_ok h
    cases h
    obtain ⟨v,ys,rfl,e1,e2⟩:=w
    cases (show v = _ from e1)
    rw [bls_vals h1 e2];rfl
  | .non :: _,_,_,h,_ | .int _ :: _,_,_,h,_ | .str _ :: _,_,_,h,_ | .tup _ :: _,_,_,h,_ | .lst _ :: _,_,_,h,_ | .dct _ :: _,_,_,h,_ | .tdc _ :: _,_,_,h,_=>by
    rw [blsOf] at h <;> first | cases h | (intros;rename_i z;cases z)
theorem strs_valsD {K:PySem.W.Frag} {H:Hp} {O:Addr → Prop}:∀ {ds:List D} {ns:List Str} {xs:List V},strsOf ds = .ok ns → RDs K H O ds xs → xs = ns.map V.str
  | [],ns,xs,h,w=>by
    rw [strsOf] at h;cases h
    rw [RDs] at w;subst w;rfl
  | .str i :: r,ns,xs,h,w=>by
    rw [strsOf] at h
    obtain ⟨q,h1,h⟩:=Res.bind_ok h
    cases h
    obtain ⟨v,ys,rfl,e1,e2⟩:=w
    cases (show v = _ from e1)
    rw [strs_valsD h1 e2];rfl
  | .non :: _,_,_,h,_ | .int _ :: _,_,_,h,_ | .bl _ :: _,_,_,h,_ | .tup _ :: _,_,_,h,_ | .lst _ :: _,_,_,h,_ | .dct _ :: _,_,_,h,_ | .tdc _ :: _,_,_,h,_=>by
    rw [strsOf] at h <;> first | cases h | (intros;rename_i z;cases z)
theorem bt_all (hc:X.calm = true):CallR X (.builtin "all") (rB X.K (Bt.run .all) false):=by
  intro pins s σ H xs us Q I rv h
  obtain ⟨O,ds,d,rr,ev,tr,k⟩:=h
  obtain ⟨d0,rfl,ev⟩:=run_one ev (fun _ _=>rfl)
  obtain ⟨v,rfl,r1⟩:=rr1 rr
  have ev:D.all d0 = .ok d:=ev
  unfold D.all at ev
  split at ev
  · obtain ⟨ns,e1,ev⟩:=Res.bind_ok ev
    cases ev
    obtain ⟨a,ys,rfl,q1,w1⟩:=r1.lst
    have e:=bls_vals e1 w1
    subst e
    exact Tr.call_all pins s σ H _ us Q I rv ⟨a,ns,rfl,q1,hc,k _ H (Same.refl H) rfl (fun z=>by cases z)⟩
  · cases ev
theorem tcb_of {b:Bt} {H₀:Hp} {O₀:Addr → Prop} {σ:L2.St} {H:Hp} {Q:VK} (h:tE T cf X.K H₀ O₀ (.bt b x) σ H Q):tCB (rB X.K (Bt.run b) (freshE T (.bt b x))) (tAr T cf X.K H₀ O₀ x) σ H Q:=by
  obtain ⟨O,own,e,d,F,ev,k⟩:=h
  rw [xE_bt] at ev
  obtain ⟨ds,e1,ev⟩:=Res.bind_ok ev
  refine ⟨O,own,e,ds,F,e1,fun vs H1 s1 r1=>?_⟩
  refine ⟨O,ds,d,r1,ev,(F.grow s1).trk,fun v H' s2 r2 n2=>k v H' (s1.trans s2) r2 fun fr=>(n2 fr).back s1⟩
theorem se_maxd {pn kp:Pos} (hh:X.calm = true) (hm:X.mg "max" = none) (hg:Gl X "max") (hp:plainX p = true) (ha:SR T cf X x p) (hb:SE T cf X y q) :
    SE T cf X (.maxd x y) (.Call (.Name "max" pn) [p] [⟨some "default", q,kp⟩] pos):=fun H₀ O₀ pins s σ H Q I hq0=>by
  obtain ⟨O,own,e,d,F,ev,k⟩:=hq0
  (first | rw [xE_lst] at ev | rw [xE_maxd] at ev)
  obtain ⟨d1,e1,ev⟩:=Res.bind_ok ev
  obtain ⟨d2,e2,ev⟩:=Res.bind_ok ev
  refine wpAny_Call_Name_kw (ld_blt I hg hm (show bootBuiltins "max" = some (.builtin "max") by decide +kernel) (PyProof.Rows.callWith_kw (thn (pa_cons (ha H₀ O₀) pa_nil (plain_star hp) pos pins s σ H (fun vs H1=>∃ v,vs = [v] ∧ Same H H1 ∧ RR X.K H1 O d1 v) I ⟨O,own,e,d1,F,e1,fun v H' s' r=>⟨v,rfl,s',r⟩⟩) fun us s1 ⟨vs,H1,I1,r1,v,ev1,s1',rr⟩=>?_) (by rw [plain_star hp];rfl) (by rw [plain_star hp];rfl) rfl rfl))
  subst ev1
  obtain ⟨u,rfl,ru⟩:=vals1 r1
  refine PyProof.Rows.kws_cons (thn (hb H₀ O₀ pins s1 σ H1 (fun v2 H2=>Same H1 H2 ∧ RD X.K H2 O d2 v2) I1 ⟨O,own,e,d2,F.grow s1',e2,fun v2 H2 s2 r2 _=>⟨s2,r2⟩⟩) fun u2 s2 ⟨v2,H2,I2,r2,s12,rd2⟩=>PyProof.Rows.kws_nil ?_)
  cases d1 with
  | lst a =>
    cases d2 with
    | int dd =>
      obtain ⟨ns,e3,ev⟩:=Res.bind_ok (show (intsOf a >>= _) = Res.ok d from ev)
      obtain ⟨a0,ys,rfl,q1,w1⟩:=(rr.same s12).lst
      have e4:=ints_vals e3 w1
      subst e4
      cases (show v2 = .int dd from rd2)
      obtain ⟨t,rfl⟩:=r2
      cases ru
      refine maxd_val hh I2 q1 ?_
      cases ns with
      | nil=>cases ev;exact k _ H2 (s1'.trans s12) rfl (fun z=>by cases z)
      | cons n ns=>cases ev;exact k _ H2 (s1'.trans s12) rfl (fun z=>by cases z)
    | _=>cases ev
  | _=>cases ev
noncomputable def Bt.use:Bt → Bool
  | .sum=>false
  | .tuple=>false
  | .int=>false
  | .str=>false
  | .bool=>false
  | .abs=>false
  | .any=>false
  | _=>true
theorem se_bt {b:Bt} {n:Str} {pn:Pos} (hu:b.use = true) (hh:X.calm = true) (hn:n = b.nm) (hm:X.mg b.nm = none) (hg:Gl X n) (hp:(p :: es).all plainX = true) (ha:SAr T cf X x (p :: es)):SE T cf X (.bt b x) (.Call (.Name n pn) (p :: es) [] pos):=fun H₀ O₀=>by
  subst hn
  rw [List.all_cons,Bool.and_eq_true] at hp
  refine PE.imp (fun σ H Q h=>tcb_of h) ?_
  cases b with
  | len=>exact pe_callB bt_len hg hm PySem.boot_len (ha H₀ O₀) (by decide) (by decide) (plain_star hp.1) (plain_any hp.2)
  | sum=>cases hu
  | tuple=>cases hu
  | list=>exact pe_callTy bt_list hg hm PyProof.Rows.boot_list (ha H₀ O₀) (by decide) (by decide) (plain_star hp.1) (plain_any hp.2)
  | int=>cases hu
  | str=>cases hu
  | bool=>cases hu
  | abs=>cases hu
  | min=>exact pe_callB (bt_min hh) hg hm (by decide +kernel) (ha H₀ O₀) (by decide) (by decide) (plain_star hp.1) (plain_any hp.2)
  | max=>exact pe_callB (bt_max hh) hg hm (by decide +kernel) (ha H₀ O₀) (by decide) (by decide) (plain_star hp.1) (plain_any hp.2)
  | all=>exact pe_callB (bt_all hh) hg hm (by decide +kernel) (ha H₀ O₀) (by decide) (by decide) (plain_star hp.1) (plain_any hp.2)
  | any=>cases hu
noncomputable def Ty.nm:Ty → String
  | .int => "int"
  | .bool => "bool"
  | .str => "str"
  | .tuple => "tuple"
  | .list => "list"
theorem kit_non (K:PySem.W.Frag) (t:Ty):PySem.W.kitOne K (.type "NoneType") (.type t.nm) = some (D.isTy .non t):=by cases t <;> rfl
theorem kit_bl (K:PySem.W.Frag) (t:Ty) (b:Bool):PySem.W.kitOne K (.type "bool") (.type t.nm) = some (D.isTy (.bl b) t):=by cases t <;> rfl
theorem kit_int (K:PySem.W.Frag) (t:Ty) (i:Int):PySem.W.kitOne K (.type "int") (.type t.nm) = some (D.isTy (.int i) t):=by cases t <;> rfl
theorem kit_str (K:PySem.W.Frag) (t:Ty) (x:Str):PySem.W.kitOne K (.type "str") (.type t.nm) = some (D.isTy (.str x) t):=by cases t <;> rfl
theorem kit_tup (K:PySem.W.Frag) (t:Ty) (x:List D):PySem.W.kitOne K (.type "tuple") (.type t.nm) = some (D.isTy (.tup x) t):=by cases t <;> rfl
theorem kit_lst (K:PySem.W.Frag) (t:Ty) (x:List D):PySem.W.kitOne K (.type "list") (.type t.nm) = some (D.isTy (.lst x) t):=by cases t <;> rfl
theorem isi_D (t:Ty):CallR X (.builtin "isinstance") (fun xs H Q=>∃ O d v,xs = [v,.ty t.nm] ∧ RR X.K H O d v ∧ d.isDct = false ∧ Q (.bl (d.isTy t)) H):=by
  intro pins s σ H xs us Q I rv h
  obtain ⟨O,d,v,rfl,r,nd,q⟩:=h
  obtain ⟨u,w,rfl,r1,r2⟩:=vals2 rv
  cases (show w = _ from r2)
  have fin:∀ tk,EP X pins σ Q (.bool (d.isTy t)) { s with toks:=tk }:=fun tk=>⟨.bl (d.isTy t),H,I.tok tk,rfl,q⟩
  have sn:=sees I r.bare r1
  cases sn with
  | dct ds a ps q w=>cases nd
  | tdc ds a ps q w=>cases nd
  | non=>exact PySem.W.kia_one PySem.W.kitx_none I.kIn True.intro (kit_non _ t) (fun z=>nomatch z) fin
  | bl b=>exact PySem.W.kia_one PySem.W.kitx_bool I.kIn True.intro (kit_bl _ t b) (fun z=>nomatch z) fin
  | int i tk=>exact PySem.W.kia_one PySem.W.kitx_int I.kIn True.intro (kit_int _ t i) (fun z=>nomatch z) fin
  | str x tk=>exact PySem.W.kia_one PySem.W.kitx_str I.kIn True.intro (kit_str _ t x) (fun z=>nomatch z) fin
  | tup ds a xs its q w r p =>
    obtain ⟨o,h1,h2,_⟩:=p
    exact PySem.W.kia_one PySem.W.kitx_tuple I.kIn ⟨o,h1,h2⟩ (kit_tup _ t ds) (fun z=>nomatch z) fin
  | lst ds a xs its q w r p =>
    obtain ⟨o,h1,h2,_⟩:=p.isList
    exact PySem.W.kia_one PySem.W.kitx_list I.kIn ⟨o,h1,h2⟩ (kit_lst _ t ds) (fun z=>nomatch z) fin
theorem boot_ty (t:Ty):bootBuiltins (Str.ofString t.nm) = some (.type t.nm):=by
  cases t
  · exact PyProof.Rows.boot_int
  · exact PyProof.Rows.boot_bool
  · exact PyProof.Rows.boot_str
  · exact PyProof.Rows.boot_tuple
  · exact PyProof.Rows.boot_list
theorem se_isi {t:Ty} {n m:Str} {pn pm:Pos} (hn:n = "isinstance") (hm':m = Str.ofString t.nm) (h0:X.mg "isinstance" = none) (h1:X.mg (Str.ofString t.nm) = none) (hg:Gl X n) (hg':Gl X m) (hp:plainX p = true) (ha:SR T cf X x p) :
    SE T cf X (.isi x t) (.Call (.Name n pn) [p,.Name m pm] [] pos):=fun H₀ O₀=>by
  subst hn hm'
  have ht:PE X (.Name (Str.ofString t.nm) pm) (tC (.ty t.nm)):=pe_bltn hg' h1 (boot_ty t) rfl (by cases t <;> decide) (by cases t <;> decide)
  refine PE.imp (fun σ H Q hq=>?_) (pe_callB (isi_D t) hg h0 PyProof.Rows.boot_isinstance (pa_cons (ha H₀ O₀) (pa_cons ht pa_nil (plain_star rfl)) (plain_star hp)) (by decide) (by decide) (plain_star hp) (plain_any rfl))
  obtain ⟨O,own,e,d,F,ev,k⟩:=hq
  rw [xE_isi] at ev
  obtain ⟨d1,e1,ev⟩:=Res.bind_ok ev
  obtain ⟨c,ev⟩:=when_ok ev
  cases ev
  refine ⟨O,own,e,d1,F,e1,fun v1 H1 s1 r1=>?_⟩
  exact ⟨O,d1,v1,rfl,r1,by simpa using c,k _ H1 s1 rfl (fun z=>by cases z)⟩
noncomputable def Mt.nm:Mt → Str
  | .split => "split"
  | .join => "join"
  | .index => "index"
noncomputable def baseX:Expr → Bool
  | .Name _ _=>true
  | .Constant _ _ _=>true
  | .Subscript _ _ _=>true
  | .BinOp _ _ _ _=>true
  | _=>false
theorem base_of {e:Expr} {nm:Str} {env:Env} (h:baseX e = true) (hn:(nm == ("__class__" : Str)) = false):attributeBase e nm env (eval e env) = eval e env:=by
  cases e <;> first | (cases h;done) | rfl
theorem se_mth {m:Mt} {nm:Str} {apos cpos:Pos} (hnm:nm = m.nm) (hbase:attributeBase p nm X.env (eval p X.env) = eval p X.env) (hline:(apos.endLine == cpos.line) = true) (hp:plainX q = true) (ha:SE T cf X x p) (hb:SR T cf X y q) :
    SE T cf X (.mth m x y) (.Call (.Attribute p nm apos) [q] [] cpos):=fun H₀ O₀=>by
  subst hnm
  cases m with
  | split =>
    refine PE.imp (fun σ H Q hq=>?_) (pe_bm PySem.F.plainAttrs_str PySem.F.slot_str_split PySem.F.type_str_split mt_split (ha H₀ O₀) (pa_cons (hb H₀ O₀) pa_nil (plain_star hp)) hbase (by rw [plain_star hp];rfl) hline (plain_star hp) rfl)
    obtain ⟨O,own,e,d,F,ev,k⟩:=hq
    (first | rw [xE_rd] at ev | rw [xE_lst] at ev | rw [xE_mth] at ev)
    obtain ⟨d1,e1,ev⟩:=Res.bind_ok ev
    obtain ⟨d2,e2,ev⟩:=Res.bind_ok ev
    cases d1 with
    | str z =>
      cases d2 with
      | str w =>
        have ev:(match w.cps.toList with | [c]=>when (decide (z.length < big) && decide (c < 256)) (.ok (D.lst ((splitS z c).map D.str))) | _=>.no) = Res.ok d:=ev
        split at ev
        · rename_i c hc
          obtain ⟨cc,ev⟩:=when_ok ev
          rw [Bool.and_eq_true,decide_eq_true_eq,decide_eq_true_eq] at cc
          cases ev
          refine ⟨O,own,e,_,F,e1,fun v1 H1 s1 r1 _=>?_⟩
          cases (show v1 = _ from r1)
          refine ⟨rfl,O,own,e,_,F.grow s1,e2,fun v2 H2 s2 r2=>?_⟩
          cases (show v2 = .str w from r2.rd rfl)
          have ew:w = ⟨#[c]⟩:=str_ext (by rw [hc])
          refine ⟨z,c,rfl,by rw [ew],by rw [← big_line];exact cc.1,cc.2,fun p hp=>?_⟩
          have wd:∀ (l:List Str),RDs X.K H2 O (l.map D.str) (l.map V.str):=by
            intro l
            induction l with
            | nil=>exact rfl
            | cons a r ih=>exact ⟨_,_,rfl,rfl,ih⟩
          have zz:=new_lst (wd (splitS z c)) hp (F.grow (s1.trans s2)).trk
          exact k _ _ ((s1.trans s2).trans (same_upd hp _)) zz.1 fun _=>zz.2.back (s1.trans s2)
        · cases ev
      | _=>cases ev
    | _=>cases ev
  | join =>
    refine PE.imp (fun σ H Q hq=>?_) (pe_bm PySem.F.plainAttrs_str PySem.F.slot_str_join PySem.F.type_str_join mt_join (ha H₀ O₀) (pa_cons (hb H₀ O₀) pa_nil (plain_star hp)) hbase (by rw [plain_star hp];rfl) hline (plain_star hp) rfl)
    obtain ⟨O,own,e,d,F,ev,k⟩:=hq
    (first | rw [xE_rd] at ev | rw [xE_lst] at ev | rw [xE_mth] at ev)
    obtain ⟨d1,e1,ev⟩:=Res.bind_ok ev
    obtain ⟨d2,e2,ev⟩:=Res.bind_ok ev
    cases d1 with
    | str z =>
      cases d2 with
      | lst ds =>
        have ev:(do let xs ← strsOf ds;when (decide (z.length ≤ 64) && decide ((xs.map (·.length)).sum + xs.length * 64 ≤ big)) (.ok (D.str (joinS z xs)))) = Res.ok d:=ev
        obtain ⟨xs,e3,ev⟩:=Res.bind_ok ev
        obtain ⟨cc,ev⟩:=when_ok ev
        rw [Bool.and_eq_true,decide_eq_true_eq,decide_eq_true_eq] at cc
        cases ev
        refine ⟨O,own,e,_,F,e1,fun v1 H1 s1 r1 _=>?_⟩
        cases (show v1 = _ from r1)
        refine ⟨rfl,O,own,e,_,F.grow s1,e2,fun v2 H2 s2 r2=>?_⟩
        obtain ⟨a,ys,rfl,q1,w1⟩:=r2.lst
        have ey:=strs_valsD e3 w1
        subst ey
        exact ⟨z,a,xs,rfl,rfl,q1,cc.1,cc.2,k _ H2 (s1.trans s2) rfl fun z=>by cases z⟩
      | _=>cases ev
    | _=>cases ev
  | index =>
    refine PE.imp (fun σ H Q hq=>?_) (pe_bm PySem.F.plainAttrs_list PySem.F.slot_list_index PySem.F.type_list_index mt_lidx (ha H₀ O₀) (pa_cons (hb H₀ O₀) pa_nil (plain_star hp)) hbase (by rw [plain_star hp];rfl) hline (plain_star hp) rfl)
    obtain ⟨O,own,e,d,F,ev,k⟩:=hq
    (first | rw [xE_rd] at ev | rw [xE_lst] at ev | rw [xE_mth] at ev)
    obtain ⟨d1,e1,ev⟩:=Res.bind_ok ev
    obtain ⟨d2,e2,ev⟩:=Res.bind_ok ev
    cases d1 with
    | lst ds =>
      cases d2 with
      | int i =>
        have ev:(do let ns ← intsOf ds;when (ns.contains i) (.ok (.int (ns.idxOf i:Nat)))) = Res.ok d:=ev
        obtain ⟨ns,e3,ev⟩:=Res.bind_ok ev
        obtain ⟨cc,ev⟩:=when_ok ev
        cases ev
        refine ⟨O,own,e,_,F,e1,fun v1 H1 s1 r1 _=>?_⟩
        obtain ⟨a,xs,rfl,q1,w1⟩:=RR.lst (.inl r1)
        have ex:=ints_vals e3 w1
        subst ex
        refine ⟨.inl ⟨rfl,_,q1⟩,O,own,e,_,F.grow s1,e2,fun v2 H2 s2 r2=>?_⟩
        cases (show v2 = .int i from r2.rd rfl)
        obtain ⟨a',xs',e4,q2,w2⟩:=RR.lst (.inl (r1.same s2))
        cases e4
        have ex:=ints_vals e3 w2
        subst ex
        exact ⟨a,ns,i,rfl,rfl,q2,List.contains_iff_mem.mp cc,k _ H2 (s1.trans s2) rfl fun z=>by cases z⟩
      | _=>cases ev
    | _=>cases ev
end
end Tr
namespace Tr
open PySem PySem.Spec PyProof.Rows L2
noncomputable def Wk1 (K:PySem.W.Frag) (J:It) (d0:D) (v0:V) (ds:List D):Prop:=∀ i H O,RR K H O d0 v0 →
  (i < ds.length → J.go i H) ∧ (ds.length ≤ i → J.stop i H) ∧ ∀ x H' d,ds[i]? = some d → J.yld i H x H' → Same H H' ∧ RD K H' O d x
noncomputable def Wk (K:PySem.W.Frag) (J:It) (srs:List (D × V)) (ds:List D):Prop:=∀ i H O,(∀ t ∈ srs,RR K H O t.1 t.2) →
  (i < ds.length → J.go i H) ∧ (ds.length ≤ i → J.stop i H) ∧ ∀ x H' d,ds[i]? = some d → J.yld i H x H' → Same H H' ∧ RD K H' O d x
theorem Wk1.wk {K:PySem.W.Frag} {J:It} {d0:D} {v0:V} {ds:List D} (h:Wk1 K J d0 v0 ds):Wk K J [(d0,v0)] ds:=fun i H O r=>h i H O (r (d0,v0) (List.mem_singleton.mpr rfl))
theorem k1_of {K:PySem.W.Frag} {H:Hp} {O:Addr → Prop} {rd:Bool} {ds:List D} {R:It → Hp → Prop} (k:∀ J H' srs,Same H H' → (∀ t ∈ srs,RR K H' O t.1 t.2) → (rd = false → ∀ t ∈ srs,RD K H' O t.1 t.2) → Wk K J srs ds → R J H') :
    ∀ J H' d0 v0,Same H H' → RR K H' O d0 v0 → (rd = false → RD K H' O d0 v0) → Wk1 K J d0 v0 ds → R J H':=fun J H' d0 v0 s r rv w =>
  k J H' [(d0,v0)] s (fun t ht=>by rw [List.mem_singleton.mp ht];exact r) (fun z t ht=>by rw [List.mem_singleton.mp ht];exact rv z) w.wk
noncomputable def tI (T:Tab) (cf:Nat → List D → Res D) (K:PySem.W.Frag) (H₀:Hp) (O₀:Addr → Prop) (x:E) (rd:Bool):TI:=fun σ H R=>∃ O own e ds,Fm K H₀ O₀ H O own e σ ∧ evI T cf x e = .ok ds ∧
  ∀ J H' srs,Same H H' → (∀ t ∈ srs,RR K H' O t.1 t.2) → (rd = false → ∀ t ∈ srs,RD K H' O t.1 t.2) → Wk K J srs ds → R J H'
noncomputable def SI (T:Tab) (cf:Nat → List D → Res D) (X:Cx) (tg:Expr) (x:E) (rd:Bool) (p:Expr):Prop:=∀ H₀ O₀,PI X tg p (tI T cf X.K H₀ O₀ x rd)
section
variable {T:Tab} {cf:Nat → List D → Res D} {X:Cx} {x y z:E} {p q r tg:Expr} {pos pos':Pos} {es:List Expr}
theorem wk_list {K:PySem.W.Frag} {a:Addr} {ds:List D}:Wk1 K (Itl K a) (.lst ds) (.ref a) ds:=by
  intro i H O r
  obtain ⟨a',xs,e,q,w⟩:=r.lst
  cases e
  have hl:=w.length
  refine ⟨fun h=>?_,fun h=>⟨xs,q,by (first | lia | omega)⟩,fun x H' d hd y=>?_⟩
  · obtain ⟨v,h1,h2⟩:=w.get (List.getElem?_eq_getElem h)
    exact ⟨xs,v,q,h1⟩
  · obtain ⟨rfl,y⟩:=y
    refine ⟨Same.refl _,?_⟩
    obtain ⟨v,h1,h2⟩:=w.get hd
    have:=(y xs q).symm.trans h1
    cases this
    exact h2
theorem wk_tup {K:PySem.W.Frag} {a:Addr} {ds:List D}:Wk1 K (Itt K a) (.tup ds) (.ref a) ds:=by
  intro i H O r
  obtain ⟨a',xs,e,q,w⟩:=r.tup
  cases e
  have hl:=w.length
  refine ⟨fun h=>?_,fun h=>⟨xs,q,by (first | lia | omega)⟩,fun x H' d hd y=>?_⟩
  · obtain ⟨v,h1,h2⟩:=w.get (List.getElem?_eq_getElem h)
    exact ⟨xs,v,q,h1⟩
  · obtain ⟨rfl,y⟩:=y
    refine ⟨Same.refl _,?_⟩
    obtain ⟨v,h1,h2⟩:=w.get hd
    have:=(y xs q).symm.trans h1
    cases this
    exact h2
theorem rangeD_len (lo:Int):∀ n,(rangeD lo n).length = n
  | 0=>rfl
  | n + 1=>by rw [rangeD,List.length_cons,rangeD_len (lo + 1) n]
theorem rangeD_get:∀ (lo:Int) (n i:Nat),i < n → (rangeD lo n)[i]? = some (.int (lo + i))
  | lo,0,i,h=>absurd h (Nat.not_lt_zero _)
  | lo,n + 1,0,_=>by rw [rangeD];simp
  | lo,n + 1,i + 1,h=>by
    rw [rangeD,List.getElem?_cons_succ,rangeD_get (lo + 1) n i (by (first | lia | omega))]
    congr 2
    push_cast
    (first | lia | omega)
theorem wk_rng {K:PySem.W.Frag} {lo:Int} {n:Nat}:Wk1 K (Itr lo n) .non .non (rangeD lo n):=by
  intro i H O r
  rw [rangeD_len]
  refine ⟨fun h=>h,fun h=>h,fun x H' d hd y=>?_⟩
  obtain ⟨rfl,rfl⟩:=y
  refine ⟨Same.refl _,?_⟩
  by_cases hi:i < n
  · rw [rangeD_get lo n i hi] at hd
    cases hd
    exact rfl
  · rw [List.getElem?_eq_none (by rw [rangeD_len];(first | lia | omega))] at hd
    cases hd
theorem wk_str {K:PySem.W.Frag} {z:Str}:Wk1 K (Its z) (.str z) (.str z) (z.cps.toList.map fun c=>D.str (chr1 c)):=by
  intro i H O r
  rw [List.length_map]
  refine ⟨fun h=>by simpa [Its] using h,fun h=>by simpa [Its] using h,fun x H' d hd y=>?_⟩
  obtain ⟨rfl,c,hc,rfl⟩:=y
  refine ⟨Same.refl _,?_⟩
  rw [List.getElem?_map] at hd
  have hc':z.cps.toList[i]? = some c:=by simpa using hc
  rw [hc'] at hd
  cases hd
  exact rfl
theorem si_seq {rd:Bool} (ha:SR T cf X x p) (hv:rd = false → SE T cf X x p):SI T cf X tg (.seq x) rd p:=by
  intro H₀ O₀ pins s σ H R I h
  obtain ⟨O,own,e,ds,F,ev,k⟩:=h
  replace k:=k1_of k
  rw [xI_seq] at ev
  obtain ⟨d1,e1,ev⟩:=Res.bind_ok ev
  have main:∀ {u:Value} {s1:Shared} {v:V} {H1:Hp},Inv X pins σ H1 s1 → RelV v u → Same H H1 → RR X.K H1 O d1 v → (rd = false → RD X.K H1 O d1 v) → wpAny (model X.prog X.w) X.A (pyIter u) (PIE X pins σ tg R) X.xe s1:=by
    intro u s1 v H1 I1 r1 s1' rr rv
    unfold D.items at ev
    split at ev
    · cases ev
      obtain ⟨a,xs,e,q1,w1⟩:=rr.lst
      subst e
      cases r1
      obtain ⟨its,r',pl,hz⟩:=I1.list q1
      refine wpAny_pyIter_list pl.isList ?_
      refine ⟨s1.heap.objs.size,[s1.heap.objs.size],_,Itl X.K a,H1,rfl,I1.kept (t':=s1.toks) fun b u e=>Heap.get?_push_of_some _ e,turn_list a _,⟨_,Heap.get?_push_size _ rfl,rfl,rfl⟩,fun b hb=>?_,k _ H1 _ _ s1' rr rv wk_list⟩
      rcases List.mem_cons.mp hb with rfl | hb
      · exact I1.fpOk (Nat.le_refl _) (I1.hok.fresh (Nat.le_refl _))
      · cases hb
    · cases ev
      obtain ⟨a,xs,e,q1,w1⟩:=rr.tup
      subst e
      cases r1
      obtain ⟨its,r',pl,hz⟩:=I1.tuple q1
      refine wpAny_pyIter_tuple pl ?_
      refine ⟨s1.heap.objs.size,[s1.heap.objs.size],_,Itt X.K a,H1,rfl,I1.kept (t':=s1.toks) fun b u e=>Heap.get?_push_of_some _ e,turn_tuple a _,⟨_,Heap.get?_push_size _ rfl,rfl,rfl⟩,fun b hb=>?_,k _ H1 _ _ s1' rr rv wk_tup⟩
      rcases List.mem_cons.mp hb with rfl | hb
      · exact I1.fpOk (Nat.le_refl _) (I1.hok.fresh (Nat.le_refl _))
      · cases hb
    · cases ev
      rename_i z
      cases (show v = .str z from rr.rd rfl)
      obtain ⟨t,rfl⟩:=r1
      exact pi_str I1 (k _ H1 (.str z) (.str z) s1' rr rv wk_str)
    · cases ev
  cases rd with
  | true=>exact thn (ha H₀ O₀ pins s σ H (fun v H1=>Same H H1 ∧ RR X.K H1 O d1 v) I ⟨O,own,e,d1,F,e1,fun v H' s' r=>⟨s',r⟩⟩) fun u s1 ⟨v,H1,I1,r1,s1',rr⟩=>main I1 r1 s1' rr (fun z=>by cases z)
  | false=>exact thn (hv rfl H₀ O₀ pins s σ H (fun v H1=>Same H H1 ∧ RD X.K H1 O d1 v) I ⟨O,own,e,d1,F,e1,fun v H' s' r _=>⟨s',r⟩⟩) fun u s1 ⟨v,H1,I1,r1,s1',rr⟩=>main I1 r1 s1' rr.rr (fun _=>rr)
theorem si_rng {rd:Bool} {n:Str} {pn:Pos} (hn:n = "range") (hg:Gl X n) (hm:X.mg "range" = none) (hp:plainX p = true) (ha:SE T cf X x p):SI T cf X tg (.rng x) rd (.Call (.Name n pn) [p] [] pos):=by
  intro H₀ O₀ pins s σ H R I h
  subst hn
  obtain ⟨O,own,e,ds,F,ev,k⟩:=h
  replace k:=k1_of k
  rw [xI_rng] at ev
  obtain ⟨d1,e1,ev⟩:=Res.bind_ok ev
  refine pi_range1 hg hm (pa_cons (ha H₀ O₀) pa_nil (plain_star hp)) (plain_star hp) pins s σ H R I ⟨O,own,e,d1,F,e1,fun v H' s' r _=>?_⟩
  split at ev
  · obtain ⟨c,ev⟩:=when_ok ev
    cases ev
    cases (show v = _ from r)
    simp only [small62,Bool.and_eq_true,decide_eq_true_eq] at c
    exact ⟨_,rfl,c.1,c.2,k _ H' .non .non s' (.inl rfl) (fun _=>rfl) wk_rng⟩
  · cases ev
theorem si_rng2 {rd:Bool} {n:Str} {pn:Pos} (hn:n = "range") (hg:Gl X n) (hm:X.mg "range" = none) (hp:plainX p = true) (hq:plainX q = true) (ha:SE T cf X x p) (hb:SE T cf X y q):SI T cf X tg (.rng2 x y) rd (.Call (.Name n pn) [p,q] [] pos):=by
  intro H₀ O₀ pins s σ H R I h
  subst hn
  obtain ⟨O,own,e,ds,F,ev,k⟩:=h
  replace k:=k1_of k
  rw [xI_rng2] at ev
  obtain ⟨d1,e1,ev⟩:=Res.bind_ok ev
  split at ev
  · obtain ⟨d2,e2,ev⟩:=Res.bind_ok ev
    split at ev
    · obtain ⟨c,ev⟩:=when_ok ev
      cases ev
      simp only [small62,Bool.and_eq_true,decide_eq_true_eq] at c
      refine pi_range2 hg hm (pa_cons (ha H₀ O₀) (pa_cons (hb H₀ O₀) pa_nil (plain_star hq)) (plain_star hp)) (by rw [plain_star hp,plain_star hq];rfl) (plain_star hq) pins s σ H R I ⟨O,own,e,_,F,e1,fun v H1 s1 r1 _=>⟨O,own,e,_,F.grow s1,e2,fun v2 H2 s2 r2 _=>?_⟩⟩
      cases (show v = _ from r1)
      cases (show v2 = _ from r2)
      exact ⟨_,_,rfl,⟨c.1.1,c.1.2,c.2.1,c.2.2⟩,k _ H2 .non .non (s1.trans s2) (.inl rfl) (fun _=>rfl) wk_rng⟩
    · cases ev
  · cases ev
noncomputable def Ft (K:PySem.W.Frag) (H₀:Hp) (O₀:Addr → Prop) (ts:List (D × V)) (e:Nv) (σ:L2.St) (H:Hp):Prop:=∃ O own,Fm K H₀ O₀ H O own e σ ∧ ∀ t ∈ ts,RD K H O t.1 t.2
noncomputable def tG (K:PySem.W.Frag) (H₀:Hp) (O₀:Addr → Prop) (g:G):TG:=fun v σ H Q=>∃ O own e d e',Fm K H₀ O₀ H O own e σ ∧ RD K H O d v ∧ g.put d e = .ok e' ∧ ∀ σ' own',(∀ j a,own' j = some a → own j = some a) → Fm K H₀ O₀ H O own' e' σ' → Q σ' H
noncomputable def SG (X:Cx) (g:G) (tg:Expr):Prop:=∀ H₀ O₀,PG X tg (tG X.K H₀ O₀ g)
theorem PG.imp {t t':TG} (h:∀ v σ H Q,t' v σ H Q → t v σ H Q) (hp:PG X tg t):PG X tg t':=fun pins s σ H v u Q I r q=>hp pins s σ H v u Q I r (h v σ H Q q)
theorem own_less {own:Nat → Option Addr} {i:Nat}:∀ j a,(fun j=>if j = i then none else own j) j = some a → own j = some a:=fun j a h=>by
  dsimp only at h
  by_cases hj:j = i
  · rw [if_pos hj] at h;cases h
  · rw [if_neg hj] at h;exact h
theorem sg_one {i:Nat} {n:Str} (hN:X.N.Nodup) (hi:X.N[i]? = some n) (hx:Loc X.env.scope n) (hf:X.fn n = true ∨ X.env.scope.names.lookup n = some .local):SG X (.one i) (.Name n pos):=fun H₀ O₀ =>
  PG.imp (fun v σ H Q ⟨O,own,e,d,e',F,r,ev,k⟩=>by
    cases ev
    exact k _ _ own_less (F.setV i r)) (pg_name hN hi hx hf)
noncomputable def tGs (K:PySem.W.Frag) (H₀:Hp) (O₀:Addr → Prop) (is:List Nat):TGs:=fun vs σ H Q=>∃ O own e ds e',Fm K H₀ O₀ H O own e σ ∧ RDs K H O ds vs ∧ puts is ds e = .ok e' ∧ ∀ σ' own',(∀ j a,own' j = some a → own j = some a) → Fm K H₀ O₀ H O own' e' σ' → Q σ' H
noncomputable def SGs (X:Cx) (is:List Nat) (tgs:List Expr):Prop:=∀ H₀ O₀,PGs X tgs (tGs X.K H₀ O₀ is)
theorem PGs.imp {tgs:List Expr} {t t':TGs} (h:∀ v σ H Q,t' v σ H Q → t v σ H Q) (hp:PGs X tgs t):PGs X tgs t':=fun pins s σ H v u Q I r q=>hp pins s σ H v u Q I r (h v σ H Q q)
theorem sgs_nil:SGs X [] []:=fun H₀ O₀=>PGs.imp (fun vs σ H Q ⟨O,own,e,ds,e',F,r,ev,k⟩=>by
  cases ds with
  | nil =>
    simp only [puts] at ev
    cases ev
    rw [RDs] at r
    exact ⟨r,k _ _ (fun _ _ h=>h) F⟩
  | cons d ds=>simp only [puts] at ev;cases ev) pgs_nil
theorem each_name {n:Str} {pos:Pos} {es:List Expr} {env:Env}:(assignEach (.Name n pos :: es) env).map (·.2) = assign (.Name n pos) env :: (assignEach es env).map (·.2):=rfl
theorem sgs_cons {i:Nat} {is:List Nat} {n:Str} (hN:X.N.Nodup) (hi:X.N[i]? = some n) (hx:Loc X.env.scope n) (hf:X.fn n = true ∨ X.env.scope.names.lookup n = some .local) (h:SGs X is es):SGs X (i :: is) (.Name n pos :: es):=fun H₀ O₀ =>
  PGs.imp (fun vs σ H Q ⟨O,own,e,ds,e',F,r,ev,k⟩=>by
    cases ds with
    | nil=>simp only [puts] at ev;cases ev
    | cons d ds =>
      rw [puts] at ev
      obtain ⟨v,vr,rfl,r1,r2⟩:=r
      exact ⟨v,vr,rfl,O,_,_,ds,e',F.setV i r1,r2,ev,fun σ' own' h=>k σ' own' fun j a q=>own_less j a (h j a q)⟩) (pgs_cons (pg_name hN hi hx hf) (h H₀ O₀) each_name)
noncomputable def names1:List Expr → Bool
  | []=>true
  | .Name _ _ :: r=>names1 r
  | _=>false
theorem each_len {env:Env}:∀ {es:List Expr},names1 es = true → (assignEach es env).length = es.length:=by
  intro es
  induction es with
  | nil=>intro _;rfl
  | cons e es ih =>
    intro h
    cases e with
    | Name n pos =>
      show ((false,assign (.Name n pos) env) :: assignEach es env).length = _
      rw [List.length_cons,ih h,List.length_cons]
    | _=>exact absurd h Bool.false_ne_true
theorem each_star {env:Env}:∀ {es:List Expr},names1 es = true → (assignEach es env).findIdx? (·.1) = none:=by
  intro es
  induction es with
  | nil=>intro _;rfl
  | cons e es ih =>
    intro h
    cases e with
    | Name n pos =>
      show ((false,assign (.Name n pos) env) :: assignEach es env).findIdx? (·.1) = none
      rw [List.findIdx?_cons,ih h];rfl
    | _=>exact absurd h Bool.false_ne_true
theorem puts_len:∀ {is:List Nat} {ds:List D} {e e':Nv},puts is ds e = .ok e' → ds.length = is.length
  | [],[],_,_,_=>rfl
  | [],_ :: _,_,_,h=>by simp only [puts] at h;cases h
  | _ :: _,[],_,_,h=>by simp only [puts] at h;cases h
  | i :: is,d :: ds,e,e',h=>by
    rw [puts] at h
    rw [List.length_cons,List.length_cons,puts_len h]
theorem sg_many {is:List Nat} {k:Nat} (hc:X.calm = true) (hn:names1 es = true) (hl:es.length = is.length) (h:SGs X is es):SG X (.many is) (.Tuple es k pos):=fun H₀ O₀ =>
  PG.imp (fun v σ H Q ⟨O,own,e,d,e',F,r,ev,k⟩=>by
    cases d with
    | tup ds =>
      have ev:puts is ds e = .ok e':=ev
      obtain ⟨a,xs,rfl,q,w⟩:=r
      exact ⟨a,xs,rfl,q,by rw [w.length,puts_len ev,← hl],O,own,e,ds,e',F,w,ev,k⟩
    | non=>cases ev
    | bl _=>cases ev
    | int _=>cases ev
    | str _=>cases ev
    | lst _=>cases ev
    | dct _=>cases ev
    | tdc _=>cases ev) (pg_tup (n:=es.length) hc (h H₀ O₀) (each_len hn) (each_star hn))
noncomputable def Ends.to (K:PySem.W.Frag) (H₀:Hp) (O₀:Addr → Prop) (ts:List (D × V)) (D':Ends):Out → Prop
  | .nx e'=>∀ σ' H',Ft K H₀ O₀ ts e' σ' H' → D'.nx σ' H'
  | .bk e'=>∀ σ' H',Ft K H₀ O₀ ts e' σ' H' → D'.bk σ' H'
  | .ct e'=>∀ σ' H',Ft K H₀ O₀ ts e' σ' H' → D'.ct σ' H'
  | .rt d fr=>∀ v H',Same H₀ H' → RD K H' O₀ d v → (fr = true → NewR K H₀ H' O₀ d v) → D'.rt v H'
noncomputable def tS (T:Tab) (cf:Nat → List D → Res D) (K:PySem.W.Frag) (H₀:Hp) (O₀:Addr → Prop) (x:S):TS:=fun D' σ H=>∃ ts e out,Ft K H₀ O₀ ts e σ H ∧ exS T cf x e = .ok out ∧ Ends.to K H₀ O₀ ts D' out
noncomputable def SS (T:Tab) (cf:Nat → List D → Res D) (X:Cx) (x:S) (p:Stmt):Prop:=∀ H₀ O₀,PS X p (tS T cf X.K H₀ O₀ x)
noncomputable def SB (T:Tab) (cf:Nat → List D → Res D) (X:Cx) (x:S) (p:List Stmt):Prop:=∀ H₀ O₀,PSs X p (tS T cf X.K H₀ O₀ x)
theorem PS.imp {st:Stmt} {t t':TS} (h:∀ D' σ H,t' D' σ H → t D' σ H) (hp:PS X st t):PS X st t':=fun pins s σ H D' I q=>hp pins s σ H D' I (h D' σ H q)
theorem PSs.imp {st:List Stmt} {t t':TS} (h:∀ D' σ H,t' D' σ H → t D' σ H) (hp:PSs X st t):PSs X st t':=fun pins s σ H D' I q=>hp pins s σ H D' I (h D' σ H q)
variable {a b c:S} {st:Stmt} {sts:List Stmt}
theorem sb_nil:SB T cf X .nil []:=fun H₀ O₀=>PSs.imp (fun D' σ H ⟨ts,e,out,F,ev,k⟩=>by
  rw [xS_nil] at ev;cases ev
  exact k σ H F) pss_nil
theorem sb_cons (h1:SS T cf X a st) (h2:SB T cf X b sts):SB T cf X (.cons a b) (st :: sts):=fun H₀ O₀=>by
  refine PSs.imp (fun D' σ H hq=>?_) (pss_cons (h1 H₀ O₀) (h2 H₀ O₀))
  obtain ⟨ts,e,out,F,ev,k⟩:=hq
  rw [xS_cons] at ev
  obtain ⟨o1,e1,ev⟩:=Res.bind_ok ev
  refine ⟨ts,e,o1,F,e1,?_⟩
  cases o1 with
  | nx e'=>exact fun σ' H' F'=>⟨ts,e',out,F',ev,k⟩
  | rt d fr=>cases ev;exact k
  | bk e'=>cases ev;exact k
  | ct e'=>cases ev;exact k
theorem sb_seal {i:Nat} (h2:SB T cf X b sts):SB T cf X (.cons (.sealed i) b) sts:=fun H₀ O₀=>by
  refine PSs.imp (fun D' σ H hq=>?_) (h2 H₀ O₀)
  obtain ⟨ts,e,out,⟨O,own,F,tt⟩,ev,k⟩:=hq
  (first | rw [xS_cons] at ev | rw [xS_sealed] at ev)
  obtain ⟨o1,e1,ev⟩:=Res.bind_ok ev
  (first | rw [xS_cons] at e1 | rw [xS_sealed] at e1)
  obtain ⟨l,e2,e1⟩:=Res.bind_ok e1
  cases e1
  obtain ⟨O',own',F',sub⟩:=F.seal i (Sl.ownA_ok e2)
  exact ⟨ts,_,out,⟨O',own',F',fun t ht=>(tt t ht).weak sub⟩,ev,k⟩
theorem ss_ret (h:SE T cf X x p):SS T cf X (.ret x) (.Return (some p) pos):=fun H₀ O₀=>by
  refine PS.imp (fun D' σ H hq=>?_) (ps_ret (h H₀ O₀))
  obtain ⟨ts,e,out,⟨O,own,F,tt⟩,ev,k⟩:=hq
  rw [xS_ret] at ev
  obtain ⟨d,e1,ev⟩:=Res.bind_ok ev
  cases ev
  refine ⟨O,own,e,d,F,e1,fun v H' s' r n=>k v H' (F.same.trans s') (r.weak F.sub) fun fr=>?_⟩
  rw [Bool.and_eq_true,Bool.not_eq_true'] at fr
  exact NewR.of (((n fr.1).back F.same).weak F.sub) fr.2
theorem ss_retO {i:Nat} {n:Str} (hN:X.N[i]? = some n) (hv:Vis X.env.scope n) (hd:(n == ("__debug__" : Str)) = false) (hc:(n == ("__classdict__" : Str)) = false):SS T cf X (.retO i) (.Return (some (.Name n pos')) pos):=fun H₀ O₀=>by
  refine PS.imp (fun D' σ H hq=>?_) (ps_ret (pe_var hN hv hd hc))
  obtain ⟨ts,e,out,⟨O,own,F,tt⟩,ev,k⟩:=hq
  rw [xS_retO] at ev
  obtain ⟨l,e1,ev⟩:=Res.bind_ok ev
  cases ev
  have q:=F.sl i
  rw [Sl.ownA_ok e1] at q
  obtain ⟨p,e2,e3,h1⟩:=q
  have hn:=F.new i p e2
  have nO:¬ O₀ p:=fun z=>by
    obtain ⟨o,w⟩:=F.trk0 p z
    rw [hn.2] at w;cases w
  exact ⟨.ref p,st_get e3,k _ H F.same (OwnAt.rd nO (h1.weak F.sub)) fun _=>⟨fun _=>⟨p,rfl,hn.2,h1.weak fun b hb=>hb.elim (F.sub b) fun z=>z ▸ hn.1⟩,fun a r z=>by subst z;exact h1.elim⟩⟩
noncomputable def notComp:Expr → Bool
  | .ListComp _ _ _ _=>false
  | .SetComp _ _ _ _=>false
  | .DictComp _ _ _ _ _=>false
  | _=>true
noncomputable def notTup:Expr → Bool
  | .Tuple _ _ _=>false
  | _=>true
theorem swaps_no {e:Expr} {t:Option Expr} {l:Nat} {env:Env} (h:notComp e = true):swapsWith e t l env = pure false:=by
  cases e <;> first | rfl | (cases h)
theorem stores_no {e tg:Expr} {env:Env} (h:notTup e = true):swappedStores [tg] e env = pure none:=by
  cases e <;> first | (cases h;done) | (cases tg <;> rfl)
theorem each_one {tg:Expr} {env:Env} (h:plainX tg = true):(assignEach [tg] env).map (·.2) = [assign tg env]:=by
  cases tg <;> first | rfl | (cases h)
theorem ss_asg {g:G} (hx:notComp p = true) (ht:notTup p = true) (hq:plainX tg = true) (h:SE T cf X x p) (hg:SG X g tg):SS T cf X (.asg g x) (.Assign [tg] p pos):=fun H₀ O₀=>by
  refine PS.imp (fun D' σ H hq=>?_) (ps_asg (h H₀ O₀) (hg H₀ O₀) (swaps_no hx) (stores_no ht) (each_one hq))
  obtain ⟨ts,e,out,⟨O,own,F,tt⟩,ev,k⟩:=hq
  rw [xS_asg] at ev
  obtain ⟨d,e1,ev⟩:=Res.bind_ok ev
  obtain ⟨e2,e3,ev⟩:=Res.bind_ok ev
  cases ev
  refine ⟨O,own,e,d,F,e1,fun v H' s' r n=>⟨O,own,e,d,e2,F.grow s',r,e3,fun σ' own' _ F'=>?_⟩⟩
  exact k σ' H' ⟨O,own',F',fun t ht=>(tt t ht).same s'⟩
theorem ss_asgO {i:Nat} {n:Str} (hx:notComp p = true) (hN:X.N.Nodup) (hi:X.N[i]? = some n) (hl:Loc X.env.scope n) (hf:X.fn n = true ∨ X.env.scope.names.lookup n = some .local) (h:SE T cf X x p):SS T cf X (.asgO i x) (.Assign [.Name n pos'] p pos):=fun H₀ O₀=>by
  refine PS.imp (fun D' σ H hq=>?_) (ps_set hN hi hl (h H₀ O₀) (swaps_no hx) hf)
  obtain ⟨ts,e,out,⟨O,own,F,tt⟩,ev,k⟩:=hq
  rw [xS_asgO] at ev
  obtain ⟨d,e1,ev⟩:=Res.bind_ok ev
  split at ev
  · obtain ⟨c,ev⟩:=when_ok ev
    cases ev
    refine ⟨O,own,e,_,F,e1,fun v H' s' r n=>?_⟩
    obtain ⟨p,rfl,h2,h3⟩:=n c rfl
    exact k _ H' ⟨_,_,F.setO s' i h2 h3,fun t ht=>((tt t ht).new h2).same s'⟩
  · obtain ⟨c,ev⟩:=when_ok ev
    cases ev
    refine ⟨O,own,e,_,F,e1,fun v H' s' r n=>?_⟩
    obtain ⟨p,rfl,h2,h3⟩:=n c rfl
    exact k _ H' ⟨_,_,F.setO s' i h2 h3,fun t ht=>((tt t ht).new h2).same s'⟩
  · obtain ⟨c,ev⟩:=when_ok ev
    cases ev
    refine ⟨O,own,e,_,F,e1,fun v H' s' r n=>?_⟩
    obtain ⟨p,rfl,h2,h3⟩:=n c rfl
    exact k _ H' ⟨_,_,F.setO s' i h2 h3,fun t ht=>((tt t ht).new h2).same s'⟩
  · cases ev
theorem ss_ite {ps qs:List Stmt} (hc:ST T cf X x p) (ha:SB T cf X a ps) (hb:SB T cf X b qs):SS T cf X (.ite x a b) (.If p ps qs pos):=fun H₀ O₀=>by
  refine PS.imp (fun D' σ H hq=>?_) (ps_if (hc H₀ O₀) (ha H₀ O₀) (hb H₀ O₀))
  obtain ⟨ts,e,out,⟨O,own,F,tt⟩,ev,k⟩:=hq
  rw [xS_ite] at ev
  obtain ⟨d,e1,ev⟩:=Res.bind_ok ev
  obtain ⟨c,e2,ev⟩:=Res.bind_ok ev
  refine ⟨O,own,e,d,c,F,e1,e2,fun H1 s1=>?_⟩
  cases c with
  | true=>rw [if_pos rfl] at ev ⊢;exact ⟨ts,e,out,⟨O,own,F.grow s1,fun t ht=>(tt t ht).same s1⟩,ev,k⟩
  | false=>rw [if_neg Bool.false_ne_true] at ev ⊢;exact ⟨ts,e,out,⟨O,own,F.grow s1,fun t ht=>(tt t ht).same s1⟩,ev,k⟩
theorem ss_for {g:G} {ps:List Stmt} (hp:PassesOwn (model X.prog X.w) X.A X.env X.xe) (hc:X.calm = true) (hq:plainX p = true) (hi:SI T cf X tg x false p) (hg:SG X g tg) (hb:SB T cf X b ps):SS T cf X (.forS g x b) (.For tg p ps [] pos):=fun H₀ O₀=>by
  refine PS.imp (fun D' σ H hq=>?_) (ps_for hp hc (hi H₀ O₀) (hg H₀ O₀) (hb H₀ O₀) (plain_fold hq))
  obtain ⟨ts,e,out,⟨O,own,F,tt⟩,ev,k⟩:=hq
  rw [xS_forS] at ev
  obtain ⟨ds,e1,ev⟩:=Res.bind_ok ev
  refine ⟨O,own,e,ds,F,e1,fun J H1 srs s1 rr rv wk=>?_⟩
  refine ⟨fun i m σ H=>m = ds.length - i ∧ i ≤ ds.length ∧ ∃ e',Ft X.K H₀ O₀ (srs ++ ts) e' σ H ∧ forL (fun d e0=>do let e1 ← g.put d e0;exS T cf b e1) (ds.drop i) e' = .ok out,⟨ds.length,by simp,Nat.zero_le _,e,⟨O,own,F.grow s1,fun t ht=>?_⟩,by simpa using ev⟩,?_⟩
  · rcases List.mem_append.mp ht with ht | ht
    · exact rv rfl t ht
    · exact (tt t ht).same s1
  rintro i m σ2 H2 ⟨rfl,hi',e',⟨O2,own2,F2,t2⟩,ev2⟩
  obtain ⟨w1,w2,w3⟩:=wk i H2 O2 fun t ht=>(t2 t (List.mem_append_left _ ht)).rr
  by_cases hlt:i < ds.length
  · refine .inr ⟨w1 hlt,fun σ' H'=>∃ e',Ft X.K H₀ O₀ (srs ++ ts) e' σ' H' ∧ forL (fun d e0=>do let e1 ← g.put d e0;exS T cf b e1) (ds.drop (i + 1)) e' = .ok out,fun σ' H' n=>⟨ds.length - (i + 1),by (first | lia | omega),rfl,hlt,n⟩,fun v H' y=>?_⟩
    obtain ⟨s3,r3⟩:=w3 v H' _ (List.getElem?_eq_getElem hlt) y
    rw [List.drop_eq_getElem_cons hlt,forL] at ev2
    obtain ⟨o1,ev3,ev4⟩:=Res.bind_ok ev2
    obtain ⟨e3,ev5,ev6⟩:=Res.bind_ok ev3
    refine ⟨O2,own2,e',_,e3,F2.grow s3,r3,ev5,fun σ' own' _ F'=>?_⟩
    refine ⟨srs ++ ts,e3,o1,⟨O2,own',F',fun t ht=>(t2 t ht).same s3⟩,ev6,?_⟩
    have down:∀ {e'':Nv} {σ'':L2.St} {H'':Hp},Ft X.K H₀ O₀ (srs ++ ts) e'' σ'' H'' → Ft X.K H₀ O₀ ts e'' σ'' H'':=fun ⟨O',own',F',t'⟩=>⟨O',own',F',fun t ht=>t' t (List.mem_append_right _ ht)⟩
    cases o1 with
    | nx e4=>exact fun σ'' H'' F''=>⟨e4,F'',ev4⟩
    | ct e4=>exact fun σ'' H'' F''=>⟨e4,F'',ev4⟩
    | bk e4=>cases ev4;exact fun σ'' H'' F''=>k σ'' H'' (down F'')
    | rt d fr=>cases ev4;exact k
  · have e4:i = ds.length:=by (first | lia | omega)
    subst e4
    refine .inl ⟨w2 (Nat.le_refl _),?_⟩
    rw [List.drop_length,forL] at ev2
    cases ev2
    exact k σ2 H2 ⟨O2,own2,F2,fun t ht=>t2 t (List.mem_append_right _ ht)⟩
theorem ss_whl {n:Nat} {ps:List Stmt} (hp:PassesOwn (model X.prog X.w) X.A X.env X.xe) (hc:ST T cf X x p) (hb:SB T cf X b ps):SS T cf X (.whl n x b) (.While p ps [] pos):=fun H₀ O₀=>by
  refine PS.imp (fun D' σ H hq=>?_) (ps_while hp (hc H₀ O₀) (hb H₀ O₀))
  obtain ⟨ts,e,out,F,ev,k⟩:=hq
  rw [xS_whl] at ev
  refine ⟨fun m σ H=>∃ e',Ft X.K H₀ O₀ ts e' σ H ∧ whileL (fun e0=>do let x ← evE T cf x e0;x.truth) (fun e0=>exS T cf b e0) m e' = .ok out,⟨n,e,F,ev⟩,?_⟩
  rintro m σ2 H2 ⟨e',⟨O2,own2,F2,t2⟩,ev2⟩
  cases m with
  | zero=>rw [whileL] at ev2;cases ev2
  | succ m =>
    rw [whileL] at ev2
    obtain ⟨c,ev3,ev4⟩:=Res.bind_ok ev2
    obtain ⟨d,ev5,ev6⟩:=Res.bind_ok ev3
    refine ⟨O2,own2,e',d,c,F2,ev5,ev6,fun H3 s3=>?_⟩
    have F3:Ft X.K H₀ O₀ ts e' σ2 H3:=⟨O2,own2,F2.grow s3,fun t ht=>(t2 t ht).same s3⟩
    cases c with
    | true =>
      dsimp only
      rw [if_pos rfl] at ev4 ⊢
      obtain ⟨o1,ev7,ev8⟩:=Res.bind_ok ev4
      refine ⟨fun σ' H'=>∃ e',Ft X.K H₀ O₀ ts e' σ' H' ∧ whileL (fun e0=>do let x ← evE T cf x e0;x.truth) (fun e0=>exS T cf b e0) m e' = .ok out,fun σ' H' n=>⟨m,Nat.lt_succ_self m,n⟩,?_⟩
      refine ⟨ts,e',o1,F3,ev7,?_⟩
      cases o1 with
      | nx e4=>exact fun σ'' H'' F''=>⟨e4,F'',ev8⟩
      | ct e4=>exact fun σ'' H'' F''=>⟨e4,F'',ev8⟩
      | bk e4=>cases ev8;exact k
      | rt d fr=>cases ev8;exact k
    | false =>
      dsimp only
      rw [if_neg Bool.false_ne_true] at ev4 ⊢
      cases ev4
      exact k σ2 H3 F3
theorem ss_app {i:Nat} {n nm:Str} {px apos cpos:Pos} (hN:X.N[i]? = some n) (hv:Vis X.env.scope n) (hd:(n == ("__debug__" : Str)) = false) (hc:(n == ("__classdict__" : Str)) = false) (hnm:nm = "append") (hline:(apos.endLine == cpos.line) = true) (hp:plainX p = true) (h:SE T cf X x p) :
    SS T cf X (.app i x) (.Expr (.Call (.Attribute (.Name n px) nm apos) [p] [] cpos) pos):=fun H₀ O₀=>by
  subst hnm
  refine PS.imp (fun D' σ H hq=>?_) (ps_expr (pe_bm PySem.F.plainAttrs_list PySem.F.slot_list_append PySem.F.type_list_append mt_append (pe_var hN hv hd hc) (pa_cons (h H₀ O₀) pa_nil (plain_star hp)) rfl (by rw [plain_star hp];rfl) hline (plain_star hp) rfl) rfl)
  obtain ⟨ts,e,out,⟨O,own,F,tt⟩,ev,k⟩:=hq
  rw [xS_app] at ev
  obtain ⟨d,e1,ev⟩:=Res.bind_ok ev
  obtain ⟨l,e2,ev⟩:=Res.bind_ok ev
  obtain ⟨c,ev⟩:=when_ok ev
  cases ev
  obtain ⟨q0,xs0,f1,f2,f3,f4,f5⟩:=F.mut i (Sl.own_ok e2)
  refine ⟨.ref q0,st_get f1,.inl ⟨rfl,xs0,.of f2⟩,O,own,e,d,F,e1,fun v H' s' r _=>?_⟩
  obtain ⟨q1,xs1,g1,g2,g3,g4,g5⟩:=(F.grow s').mut i (Sl.own_ok e2)
  have eq:q1 = q0:=by rw [f1] at g1;cases g1;rfl
  subst eq
  refine ⟨q1,xs1,v,rfl,rfl,g2,by rw [g3.length,← big_line];exact of_decide_eq_true c,?_⟩
  exact k _ _ ⟨O,own,g5 _ _ (g3.append ⟨v,[],rfl,r,rfl⟩),fun t ht=>((tt t ht).same s').upd g4 g2⟩
theorem ss_rev {i:Nat} {n nm:Str} {px apos cpos:Pos} (hN:X.N[i]? = some n) (hv:Vis X.env.scope n) (hd:(n == ("__debug__" : Str)) = false) (hc:(n == ("__classdict__" : Str)) = false) (hnm:nm = "reverse") (hline:(apos.endLine == cpos.line) = true) :
    SS T cf X (.rev i) (.Expr (.Call (.Attribute (.Name n px) nm apos) [] [] cpos) pos):=fun H₀ O₀=>by
  subst hnm
  refine PS.imp (fun D' σ H hq=>?_) (ps_expr (pe_bm0 PySem.F.plainAttrs_list PySem.F.slot_list_reverse PySem.F.type_list_reverse mt_reverse (pe_var hN hv hd hc) rfl hline) rfl)
  obtain ⟨ts,e,out,⟨O,own,F,tt⟩,ev,k⟩:=hq
  rw [xS_rev] at ev
  obtain ⟨l,e2,ev⟩:=Res.bind_ok ev
  cases ev
  obtain ⟨q0,xs0,f1,f2,f3,f4,f5⟩:=F.mut i (Sl.own_ok e2)
  refine ⟨.ref q0,st_get f1,.inl ⟨rfl,xs0,.of f2⟩,q0,xs0,rfl,rfl,f2,?_⟩
  exact k _ _ ⟨O,own,f5 _ _ f3.reverse,fun t ht=>(tt t ht).upd f4 f2⟩
theorem ss_never:SS T cf X .never st:=fun H₀ O₀=>PS.imp (fun D' σ H ⟨ts,e,out,F,ev,k⟩=>by
  rw [xS_never] at ev;cases ev) ps_never
theorem seq_of_ixN {n:Nat} {i:Int} {j:Nat} (h:Tr.ixN n i = some j):seqIndex? i n = some j:=(ixN_seq (by rw [← ixN_eq];exact h)).1
theorem RDs.eraseIdx {K:PySem.W.Frag} {H:Hp} {O:Addr → Prop}:∀ {ds:List D} {vs:List V} (n:Nat),RDs K H O ds vs → RDs K H O (ds.eraseIdx n) (vs.eraseIdx n)
  | [],_,n,h=>by rw [RDs] at h;subst h;exact rfl
  | d :: ds,vs,0,h=>by
    obtain ⟨v,r,rfl,h1,h2⟩:=h
    exact h2
  | d :: ds,vs,n + 1,h=>by
    obtain ⟨v,r,rfl,h1,h2⟩:=h
    exact ⟨v,r.eraseIdx n,rfl,h1,RDs.eraseIdx n h2⟩
noncomputable def tPop (T:Tab) (cf:Nat → List D → Res D) (K:PySem.W.Frag) (H₀:Hp) (O₀:Addr → Prop) (i:Nat) (k:E):TE:=fun σ H Q=>∃ O own e a dk j y,Fm K H₀ O₀ H O own e σ ∧ e.at i = .o (.lst a) ∧ evE T cf k e = .ok dk ∧ popAt a.length k dk = .ok j ∧ a[j]? = some y ∧
  ∀ v p H1 xs xs',Same H H1 → stAt σ i = some (.ref p) → O p → H1 p = some (.lst xs) → RD K (upd H1 p (.lst xs')) O y v → Fm K H₀ O₀ (upd H1 p (.lst xs')) O own (e.set i (.o (.lst (a.eraseIdx j)))) σ → Q v (upd H1 p (.lst xs'))
theorem erase_last' (xs:List V):xs.eraseIdx (xs.length - 1) = xs.dropLast:=by
  rw [List.eraseIdx_eq_take_drop_succ,List.dropLast_eq_take]
  cases xs with
  | nil=>rfl
  | cons a r=>simp
theorem pe_pop0 {i:Nat} {n nm:Str} {px apos cpos:Pos} (hN:X.N[i]? = some n) (hv:Vis X.env.scope n) (hd:(n == ("__debug__" : Str)) = false) (hc:(n == ("__classdict__" : Str)) = false) (hnm:nm = "pop") (hline:(apos.endLine == cpos.line) = true) (H₀:Hp) (O₀:Addr → Prop) :
    PE X (.Call (.Attribute (.Name n px) nm apos) [] [] cpos) (tPop T cf X.K H₀ O₀ i .omit):=by
  subst hnm
  refine PE.imp (fun σ H Q hq=>?_) (pe_bm0 PySem.F.plainAttrs_list PySem.F.slot_list_pop PySem.F.type_list_pop mt_pop (pe_var hN hv hd hc) rfl hline)
  obtain ⟨O,own,e,a,dk,j,y,F,ha,ek,ej,ey,k⟩:=hq
  have ej:(if a.length = 0 then Res.no else .ok (a.length - 1)) = Res.ok j:=ej
  split at ej
  · cases ej
  · cases ej
    obtain ⟨p,xs,f1,f2,f3,f4,f5⟩:=F.mut i ha
    obtain ⟨v,hv1,hv2⟩:=f3.get ey
    have hl:=f3.length
    refine ⟨.ref p,st_get f1,.inl ⟨rfl,xs,.of f2⟩,p,xs,v,rfl,rfl,f2,by rw [hl];exact hv1,?_⟩
    have z:=f5 _ _ (f3.eraseIdx (a.length - 1))
    rw [show xs.eraseIdx (a.length - 1) = xs.dropLast by rw [← hl,erase_last']] at z
    exact k v p H _ _ (Same.refl H) f1 f4 f2 (hv2.upd f4 f2) z
theorem pe_pop1 {i:Nat} {n nm:Str} {px apos cpos:Pos} (hN:X.N[i]? = some n) (hv:Vis X.env.scope n) (hd:(n == ("__debug__" : Str)) = false) (hc:(n == ("__classdict__" : Str)) = false) (hnm:nm = "pop") (hline:(apos.endLine == cpos.line) = true) (hp:plainX p = true) (ho:∀ d m,popAt m x d = popIx m d) (h:SE T cf X x p) (H₀:Hp) (O₀:Addr → Prop) :
    PE X (.Call (.Attribute (.Name n px) nm apos) [p] [] cpos) (tPop T cf X.K H₀ O₀ i x):=by
  subst hnm
  refine PE.imp (fun σ H Q hq=>?_) (pe_bm PySem.F.plainAttrs_list PySem.F.slot_list_pop PySem.F.type_list_pop mt_popAt (pe_var hN hv hd hc) (pa_cons (h H₀ O₀) pa_nil (plain_star hp)) rfl (by rw [plain_star hp];rfl) hline (plain_star hp) rfl)
  obtain ⟨O,own,e,a,dk,j,y,F,ha,ek,ej,ey,k⟩:=hq
  rw [ho] at ej
  obtain ⟨p0,xs0,g1,g2,_⟩:=F.mut i ha
  refine ⟨.ref p0,st_get g1,.inl ⟨rfl,xs0,.of g2⟩,O,own,e,dk,F,ek,fun vk H1 s1 r1 _=>?_⟩
  cases dk with
  | int m =>
    have ej:when (small62 m) (Res.of (Tr.ixN a.length m)) = .ok j:=ej
    obtain ⟨c,ej⟩:=when_ok ej
    simp only [small62,Bool.and_eq_true,decide_eq_true_eq] at c
    have ej:=seq_of_ixN (of_ok ej)
    cases (show vk = _ from r1)
    obtain ⟨p,xs,f1,f2,f3,f4,f5⟩:=(F.grow s1).mut i ha
    have eqp:p = p0:=by rw [g1] at f1;cases f1;rfl
    subst eqp
    obtain ⟨v,hv1,hv2⟩:=f3.get ey
    have hl:=f3.length
    refine ⟨p,xs,m,j,v,rfl,rfl,f2,by (first | lia | omega),by (first | lia | omega),by rw [hl];exact ej,hv1,?_⟩
    exact k v p H1 _ _ s1 f1 f4 f2 (hv2.upd f4 f2) (f5 _ _ (f3.eraseIdx j))
  | non=>cases ej
  | bl _=>cases ej
  | str _=>cases ej
  | tup _=>cases ej
  | lst _=>cases ej
  | dct _=>cases ej
  | tdc _=>cases ej
theorem ss_asgP {g:G} {i:Nat} {q:Expr} (hx:notComp q = true) (ht:notTup q = true) (hq:plainX tg = true) (h:∀ H₀ O₀,PE X q (tPop T cf X.K H₀ O₀ i x)) (hg:SG X g tg):SS T cf X (.asgP g i x) (.Assign [tg] q pos):=fun H₀ O₀=>by
  refine PS.imp (fun D' σ H hq=>?_) (ps_asg (h H₀ O₀) (hg H₀ O₀) (swaps_no hx) (stores_no ht) (each_one hq))
  obtain ⟨ts,e,out,⟨O,own,F,tt⟩,ev,k⟩:=hq
  rw [xS_asgP] at ev
  obtain ⟨a,e1,ev⟩:=Res.bind_ok ev
  obtain ⟨dk,e2,ev⟩:=Res.bind_ok ev
  obtain ⟨j,e3,ev⟩:=Res.bind_ok ev
  obtain ⟨y,e4,ev⟩:=Res.bind_ok ev
  obtain ⟨e5,e6,ev⟩:=Res.bind_ok ev
  cases ev
  refine ⟨O,own,e,a,dk,j,y,F,Sl.own_ok e1,e2,e3,of_ok e4,fun v p H1 xs xs' s1 hp hO hH r F'=>?_⟩
  refine ⟨O,own,_,y,e5,F',r,e6,fun σ' own' _ F''=>?_⟩
  exact k σ' _ ⟨O,own',F'',fun t ht=>((tt t ht).same s1).upd hO hH⟩
theorem ss_aug {i:Nat} {n:Str} {o:Operator} (hN:X.N.Nodup) (hi:X.N[i]? = some n) (hl:Loc X.env.scope n) (hf:X.fn n = true ∨ X.env.scope.names.lookup n = some .local) (h:SE T cf X x p) (ho:o = .Add ∨ o = .Sub) :
    SS T cf X (.aug i o x) (.AugAssign (.Name n pos') o p pos):=fun H₀ O₀=>by
  have main:∀ (g:Int → Int → Int),PIp X o (rI0 fun a b=>.int (g a b)) → (∀ a b,D.aug o (.int a) (.int b) = .ok (.int (g a b))) → PS X (.AugAssign (.Name n pos') o p pos) (tS T cf X.K H₀ O₀ (.aug i o x)):=by
    intro g hg hx
    refine PS.imp (fun D' σ H hq=>?_) (ps_aug hN hi hl (h H₀ O₀) hg hf)
    obtain ⟨ts,e,out,⟨O,own,F,tt⟩,ev,k⟩:=hq
    rw [xS_aug] at ev
    obtain ⟨d,e1,ev⟩:=Res.bind_ok ev
    obtain ⟨dy,e2,ev⟩:=Res.bind_ok ev
    obtain ⟨dz,e3,ev⟩:=Res.bind_ok ev
    cases ev
    have q:=F.sl i
    cases hs:e.at i with
    | no=>rw [hs] at e1;cases e1
    | o _=>rw [hs] at e1;cases e1
    | t _=>rw [hs] at e1;cases e1
    | v d0 =>
      rw [hs] at e1 q
      cases e1
      obtain ⟨v,f1,f2⟩:=q
      cases d with
      | int a =>
        cases dy with
        | int b =>
          rw [hx] at e3
          cases e3
          cases (show v = .int a from f2)
          refine ⟨.int a,st_get f1,O,own,e,_,F,e2,fun v2 H1 s1 r1 _=>?_⟩
          cases (show v2 = .int b from r1)
          exact ⟨a,b,rfl,rfl,k _ H1 ⟨O,_,(F.grow s1).setV i (d:=.int (g a b)) rfl,fun t ht=>(tt t ht).same s1⟩⟩
        | _=>rcases ho with rfl | rfl <;> cases e3
      | _=>rcases ho with rfl | rfl <;> cases e3
  rcases ho with rfl | rfl
  · exact main (· + ·) (fun pins s σ H x y v u Q I rx ry q=>iop_add pins s σ H x y v u Q I rx ry q) (fun _ _=>rfl)
  · exact main (· - ·) (fun pins s σ H x y v u Q I rx ry q=>iop_sub pins s σ H x y v u Q I rx ry q) (fun _ _=>rfl)
theorem ss_exp (hs:swapsWith p none pos.line X.env = pure false) (h:SE T cf X x p):SS T cf X (.exp x) (.Expr p pos):=fun H₀ O₀=>by
  refine PS.imp (fun D' σ H hq=>?_) (ps_expr (h H₀ O₀) hs)
  obtain ⟨ts,e,out,⟨O,own,F,tt⟩,ev,k⟩:=hq
  rw [xS_exp] at ev
  obtain ⟨d,e1,ev⟩:=Res.bind_ok ev
  cases ev
  exact ⟨O,own,e,d,F,e1,fun v H' s' r _=>k _ _ ⟨O,own,F.grow s',fun t ht=>(tt t ht).same s'⟩⟩
end
end Tr
namespace Tr
open PySem PySem.Spec PyProof.Rows L2
section
variable {T:Tab} {cf:Nat → List D → Res D} {X:Cx} {x y z:E} {p q r tg:Expr} {pos pos':Pos} {es:List Expr} {a b c:S} {st:Stmt} {sts:List Stmt}
end
end Tr
namespace Tr
open PySem PySem.Spec PyProof.Rows L2
noncomputable def freeCells (cells:List (Str × Addr)):List (Str × NameKind) → List (Str × Addr) → List (Str × Addr)
  | [],cs=>cs
  | (n,k) :: r,cs=>freeCells cells r (if (k == .free) = true then (match cells.lookup n with | some c=>(n,c) :: cs | none=>cs) else cs)
theorem closure_go {env:Env}:∀ (names:List (Str × NameKind)) (cs:List (Str × Addr)),(∀ x ∈ names,x.2 = .free → ∃ c,env.cells.lookup x.1 = some c) →
    (forIn names cs (fun (x:Str × NameKind) (r:List (Str × Addr))=>(if (x.2 == .free) = true then (do let c ← cellOf env x.1;pure (ForInStep.yield ((x.1,c) :: r))) else pure (ForInStep.yield r):Sem _))) = pure (freeCells env.cells names cs)
  | [],cs,_=>rfl
  | (n,k) :: r,cs,h=>by
    rw [List.forIn_cons]
    have ih:=closure_go (env:=env) r
    by_cases hk:(k == NameKind.free) = true
    · have hk':k = .free:=by simpa using hk
      obtain ⟨c,hc⟩:=h (n,k) (List.mem_cons_self ..) hk'
      simp only at hc
      simp only [hk,if_true]
      unfold cellOf
      rw [hc]
      show (do let r ← (pure (ForInStep.yield ((n,c) :: cs)):Sem _);_) = _
      rw [freeCells,if_pos hk,hc]
      exact ih _ fun x hx=>h x (List.mem_cons_of_mem _ hx)
    · simp only [hk,if_false,Bool.false_eq_true]
      rw [freeCells,if_neg hk]
      exact ih _ fun x hx=>h x (List.mem_cons_of_mem _ hx)
theorem closure_eq {scope:Scope} {env:Env} (h:∀ x ∈ scope.names,x.2 = .free → ∃ c,env.cells.lookup x.1 = some c):closureFor scope env = pure (freeCells env.cells scope.names []):=by
  have:=closure_go (env:=env) scope.names [] h
  unfold closureFor
  rw [← this]
  first | rfl | simp
theorem freeCells_mem {cells:List (Str × Addr)}:∀ {names:List (Str × NameKind)} {cs:List (Str × Addr)} {n:Str} {c:Addr},(n,c) ∈ freeCells cells names cs → (n,c) ∈ cs ∨ ((n,NameKind.free) ∈ names ∧ cells.lookup n = some c)
  | [],_,_,_,h=>.inl h
  | (m,k) :: r,cs,n,c,h=>by
    rw [freeCells] at h
    rcases freeCells_mem h with g | ⟨h1,h2⟩
    · clear h
      split at g
      · rename_i hk
        have hk':k = .free:=by simpa using hk
        subst hk'
        split at g
        · rename_i c' hc
          rcases List.mem_cons.mp g with e | g
          · cases e
            exact .inr ⟨List.mem_cons_self ..,hc⟩
          · exact .inl g
        · exact .inl g
      · exact .inl g
    · exact .inr ⟨List.mem_cons_of_mem _ h1,h2⟩
theorem freeCells_keep {cells:List (Str × Addr)}:∀ {names:List (Str × NameKind)} {cs:List (Str × Addr)} {x:Str × Addr},x ∈ cs → x ∈ freeCells cells names cs
  | [],_,_,h=>h
  | (m,k) :: r,cs,x,h=>by
    rw [freeCells]
    refine freeCells_keep ?_
    split
    · split
      · exact List.mem_cons_of_mem _ h
      · exact h
    · exact h
theorem freeCells_has {cells:List (Str × Addr)}:∀ {names:List (Str × NameKind)} {cs:List (Str × Addr)} {n:Str} {c:Addr},(n,NameKind.free) ∈ names → cells.lookup n = some c → (n,c) ∈ freeCells cells names cs
  | [],_,_,_,h,_=>by cases h
  | (m,k) :: r,cs,n,c,h,hc=>by
    rw [freeCells]
    rcases List.mem_cons.mp h with e | h
    · cases e
      refine freeCells_keep ?_
      rw [if_pos (by simp),hc]
      exact List.mem_cons_self ..
    · exact freeCells_has h hc
theorem lookup_of_mem {l:List (Str × Addr)} {n:Str} {c:Addr} (h:(n,c) ∈ l):∃ c',l.lookup n = some c':=by
  induction l with
  | nil=>cases h
  | cons x l ih =>
    obtain ⟨m,d⟩:=x
    rw [List.lookup_cons]
    by_cases e:(n == m) = true
    · rw [e];exact ⟨d,rfl⟩
    · have e':(n == m) = false:=by simpa using e
      rw [e']
      rcases List.mem_cons.mp h with z | z
      · cases z;simp at e
      · exact ih z
theorem relabel_free {env:Env}:∀ {names:List (Str × NameKind)} {x:Str},(∀ y ∈ names,y.2 ≠ .cell) →
    ((names.map fun (n,k)=>if (k == NameKind.free && env.scope.kind == .function && env.kindOf n == some .cell) then (n,NameKind.cell) else (n,k)).lookup x = some .cell ∨
     (names.map fun (n,k)=>if (k == NameKind.free && env.scope.kind == .function && env.kindOf n == some .cell) then (n,NameKind.cell) else (n,k)).lookup x = some .free) → (x,NameKind.free) ∈ names
  | [],_,_,h=>by rcases h with h | h <;> cases h
  | (n,k) :: r,x,hc,h=>by
    have hk:=hc (n,k) (List.mem_cons_self ..)
    have ih:=@relabel_free env r x fun y hy=>hc y (List.mem_cons_of_mem _ hy)
    rw [List.map_cons] at h
    dsimp only at h
    by_cases hx:(x == n) = true
    · have hx':x = n:=by simpa using hx
      subst hx'
      refine List.mem_cons.mpr (.inl ?_)
      by_cases z:(k == NameKind.free && env.scope.kind == .function && env.kindOf x == some .cell) = true
      · have:k = .free:=by
          cases k <;> first | rfl | (exact absurd z (by simp))
        rw [this]
      · rw [if_neg z] at h
        simp only [List.lookup_cons,beq_self_eq_true] at h
        rcases h with h | h
        · cases h;exact absurd rfl hk
        · cases h;rfl
    · have hx':(x == n) = false:=by simpa using hx
      refine List.mem_cons_of_mem _ (ih ?_)
      by_cases z:(k == NameKind.free && env.scope.kind == .function && env.kindOf n == some .cell) = true
      · rw [if_pos z] at h
        simpa only [List.lookup_cons,hx'] using h
      · rw [if_neg z] at h
        simpa only [List.lookup_cons,hx'] using h
end Tr
namespace Tr
open PySem PySem.Spec PyProof.Rows L2
theorem relabel_local {env:Env}:∀ {names:List (Str × NameKind)} {x:Str},
    (names.map fun (n,k)=>if (k == NameKind.free && env.scope.kind == .function && env.kindOf n == some .cell) then (n,NameKind.cell) else (n,k)).lookup x = some .local → names.lookup x = some .local
  | [],_,h=>by cases h
  | (n,k) :: r,x,h=>by
    have ih:=@relabel_local env r x
    rw [List.map_cons] at h
    dsimp only at h
    by_cases z:(k == NameKind.free && env.scope.kind == .function && env.kindOf n == some .cell) = true
    · rw [if_pos z] at h
      by_cases hx:(x == n) = true
      · simp only [List.lookup_cons,hx] at h;cases h
      · have hx':(x == n) = false:=by simpa using hx
        simp only [List.lookup_cons,hx'] at h ⊢
        exact ih h
    · rw [if_neg z] at h
      by_cases hx:(x == n) = true
      · simp only [List.lookup_cons,hx] at h ⊢;exact h
      · have hx':(x == n) = false:=by simpa using hx
        simp only [List.lookup_cons,hx'] at h ⊢
        exact ih h
noncomputable def cxC (X:Cx) (scope:Scope) (C:Addr) (Nc:List Str) (s2:Shared) (H2:Hp) (fp:List Addr):Cx where
  prog:=X.prog
  w:=X.w
  K:=X.K
  mg:=X.mg
  base:=X.base
  A:=X.A
  N:=Nc
  s₀:=s2
  H₀:=H2
  env:=compEnvC scope (freeCells X.env.cells scope.names []) C X.env
  outer:=X.stack
  stack:=X.stack
  ex:=fp
  fn:=fun n=>scope.names.lookup n == some .local
  calm:=X.calm
  pn:=[]
  xe:=fun _ _=>False
set_option genInjectivity false in
structure ScopeC (X:Cx) (scope:Scope):Prop where
  kind:scope.kind = .function
  cell:∀ y ∈ scope.names,y.2 ≠ .cell
  names:∀ x ∈ scope.names,x.2 = .local → scope.names.lookup x.1 = some .local
  nd:∀ x ∈ scope.names,x.2 = .free → scope.names.lookup x.1 ≠ some .local
  free:∀ x ∈ scope.names,x.2 = .free → X.env.kindOf x.1 = some .cell ∨ X.env.kindOf x.1 = some .free
section
variable {X:Cx} {scope:Scope} {C:Addr} {Nc:List Str} {s2:Shared} {H2:Hp} {fp:List Addr} {pins:List (Addr × Obj)} {σ:L2.St}
theorem cl_get {x:Str} {c:Addr} (h:(freeCells X.env.cells scope.names []).lookup x = some c):(x,NameKind.free) ∈ scope.names ∧ X.env.cells.lookup x = some c:=by
  rcases freeCells_mem (PySem.mem_of_lookup h) with z | z
  · cases z
  · exact z
theorem ScopeC.cells (S:ScopeC X scope) (ok:X.Ok):∀ x ∈ scope.names,x.2 = .free → ∃ c,X.env.cells.lookup x.1 = some c:=fun x hx hf=>ok.has x.1 (S.free x hx hf)
theorem cxC_ok (I:Inv X pins σ H2 s2) (S:ScopeC X scope) (hfp:∀ b ∈ fp,FpOk X pins H2 b) (hfo:∀ b ∈ fp,b < s2.heap.objs.size) (hC:s2.heap.objs.size ≤ C):(cxC X scope C Nc s2 H2 fp).Ok where
  mod:=I.ok.mod
  kind:=S.kind
  glob:=I.ok.glob
  blt:=I.ok.blt
  above:=hC
  inj:=fun x y c h1 h2=>I.ok.inj x y c (cl_get h1).2 (cl_get h2).2
  has:=fun x h=>by
    have hf:=relabel_free (env:=X.env) S.cell h
    obtain ⟨c,hc⟩:=S.cells I.ok (x,.free) hf rfl
    exact lookup_of_mem (freeCells_has hf hc)
  cab:=fun x c h1 h2=>by
    have h1':scope.names.lookup x = some .local:=by simpa [cxC] using h1
    exact absurd h1' (S.nd (x,.free) (cl_get h2).1 rfl)
  hd:=I.ok.hd
  frames:=I.ok.frames
  stk:=.inl rfl
  exf:=fun b hb=>⟨Nat.ne_of_lt (Nat.lt_of_lt_of_le (hfo b hb) hC),fun x c h=>(hfp b hb).2.2.2.2.1 x c (cl_get h).2⟩
  bs:=I.bs
  bsz:=Nat.le_trans I.ok.bsz I.sz
  noex:=fun b o e hb=>by
    rcases (hfp b hb).2.2.2.1 with z | z
    · exact I.ok.noex b o e z
    · exact absurd (Nat.lt_of_lt_of_le (Heap.lt_size e) (Nat.le_trans I.ok.bsz z)) (Nat.lt_irrefl _)
  exfs:=fun b hb z=>by
    rcases List.mem_cons.mp (I.stkSub b z) with z | z
    · exact (hfp b hb).2.1 z
    · exact (hfp b hb).2.2.1 z
  funs:=I.stack
  frf:=I.stkFree
noncomputable def stC (own:Nat) (caps:List Nat) (σ:L2.St):L2.St:=List.replicate own none ++ caps.map fun i=>stAt σ i
set_option genInjectivity false in
structure CapsOk (X:Cx) (scope:Scope) (own:Nat) (caps:List Nat) (Nc:List Str):Prop where
  len:Nc.length = own + caps.length
  nd:caps.Nodup
  cap:∀ j i,caps[j]? = some i → ∃ n,X.N[i]? = some n ∧ Nc[own + j]? = some n ∧ (n,NameKind.free) ∈ scope.names
theorem stC_get {own:Nat} {caps:List Nat} {j:Nat} {v:V} (h:(stC own caps σ)[j]? = some (some v)):∃ k i,j = own + k ∧ caps[k]? = some i ∧ stAt σ i = some v:=by
  unfold stC at h
  by_cases hj:j < own
  · rw [List.getElem?_append_left (by rw [List.length_replicate];exact hj),List.getElem?_replicate,if_pos hj] at h
    cases h
  · rw [List.getElem?_append_right (by rw [List.length_replicate];(first | lia | omega)),List.length_replicate,List.getElem?_map] at h
    cases e:caps[j - own]? with
    | none=>rw [e] at h;cases h
    | some i =>
      rw [e] at h
      exact ⟨j - own,i,by (first | lia | omega),e,Option.some.inj h⟩
theorem vis_of (I:Inv X pins σ H2 s2) (S:ScopeC X scope) {n:Str} (h:(n,NameKind.free) ∈ scope.names):Vis X.env.scope n:=by
  rcases S.free _ h rfl with z | z
  · exact .inr (.inl z)
  · exact .inr (.inr z)
theorem invC {own:Nat} {caps:List Nat} {h1:Heap} {t1:Nat} (I:Inv X pins σ H2 s2) (S:ScopeC X scope) (P:CapsOk X scope own caps Nc) (ok:(cxC X scope C Nc s2 H2 fp).Ok)
    (keep:∀ b o,s2.heap.get? b = some o → h1.get? b = some o) (hC:s2.heap.objs.size < C) (ns:h1.Ns C fun _=>none) (acc:h1.get? s2.heap.objs.size = some { cls:=.type "list", data:=.seq #[] }) :
    Inv (cxC X scope C Nc s2 H2 fp) [] (stC own caps σ) (upd H2 s2.heap.objs.size (.lst [])) { s2 with heap:=h1,toks:=t1 }:=by
  have fr:H2 s2.heap.objs.size = none:=I.hok.fresh (Nat.le_refl _)
  have cellK:∀ x c v,X.env.cells.lookup x = some c → s2.heap.IsCell c v → h1.IsCell c v:=fun x c v _ ⟨o,ho,hd⟩=>⟨o,keep c o ho,hd⟩
  refine ⟨ok,rfl,I.bare,Un.laid keep (Nat.le_refl _) fr,⟨_,ns,fun i x v e1 e2 e3=>?_⟩,fun x c h=>?_,?_,fun x c h=>?_,fun p hp=>absurd hp (by simp [cxC]),I.hok.laid keep (Nat.le_refl _) ?_,?_⟩
  · obtain ⟨k,i',rfl,hk,hv⟩:=stC_get e2
    obtain ⟨n,hn1,hn2,hn3⟩:=P.cap k i' hk
    have e1':Nc[own + k]? = some x:=e1
    rw [hn2] at e1';cases e1'
    obtain ⟨m,hm,hl⟩:=I.loc
    obtain ⟨u,ru,lk⟩:=hl i' _ v hn1 (st_get hv) (vis_of I S hn3)
    refine ⟨u,ru,?_⟩
    rcases lk with ⟨kl,_⟩ | ⟨_,c,hc,hcell⟩
    · rcases S.free _ hn3 rfl with z | z
      · rw [kl] at z;cases z
      · rw [kl] at z;cases z
    · refine .inr ⟨?_,?_⟩
      · rcases e3 with z | z
        · exact absurd (relabel_local (env:=X.env) z) (S.nd _ hn3 rfl)
        · exact z
      · obtain ⟨c',hc'⟩:=lookup_of_mem (freeCells_has (cs:=[]) hn3 hc)
        have:=(cl_get hc').2
        rw [hc] at this;cases this
        exact ⟨c,hc',cellK _ c _ hc hcell⟩
  · obtain ⟨v,z⟩:=I.cell x c (cl_get h).2
    exact ⟨v,cellK x c v (cl_get h).2 z⟩
  · show upd H2 s2.heap.objs.size (.lst []) C = none
    rw [upd_ne (Nat.ne_of_gt hC)]
    exact I.hok.fresh (Nat.le_of_lt hC)
  · obtain ⟨v,z⟩:=I.cell x c (cl_get h).2
    rw [upd_ne (Nat.ne_of_lt z.lt)]
    exact I.freeC x c (cl_get h).2
  · exact ⟨Nat.zero_le _,[],0,.nil,acc⟩
  · show (stC own caps σ).length = Nc.length
    unfold stC
    rw [List.length_append,List.length_replicate,List.length_map,P.len]
theorem Un.but {fs ex:List Addr} {H H':Hp} {h h1 h2:Heap} {C:Addr} (u:Un fs ex H H' h h1) (hC:h.objs.size ≤ C) (s:Heap.SameBut C h1 h2):Un fs ex H H' h h2 where
  keep:=fun b o e n hb hx=>(s.2 b (Nat.ne_of_lt (Nat.lt_of_lt_of_le (Heap.lt_size e) hC))).trans (u.keep b o e n hb hx)
  slot:=fun b o e n hb hx=>let ⟨sl,q⟩:=u.slot b o e n hb hx;⟨sl,(s.2 b (Nat.ne_of_lt (Nat.lt_of_lt_of_le (Heap.lt_size e) hC))).trans q⟩
  free:=u.free
  there:=fun b o e hx=>let ⟨o',q⟩:=u.there b o e hx;⟨o',(s.2 b (Nat.ne_of_lt (Nat.lt_of_lt_of_le (Heap.lt_size e) hC))).trans q⟩
  tups:=u.tups
  frzs:=u.frzs
  tbls:=u.tbls
theorem HOk.but {P:Program} {w:World} {H:Hp} {h1 h2:Heap} {C:Addr} (x:HOk P w H h1) (hC:H C = none) (s:Heap.SameBut C h1 h2):HOk P w H h2:=fun b ob e=>by
  refine (x b ob e).stay (fun c w' hc q=>(s.2 c ?_).trans q) (fun _ q=>q) fun _ _ q=>q
  rintro rfl
  rcases hc with rfl | hc
  · rw [hC] at e;cases e
  · rw [hC] at hc;cases hc
theorem outC {σi:L2.St} {Hi:Hp} {s':Shared} {h':Heap} (I:Inv X pins σ H2 s2) (Ic:Inv (cxC X scope C Nc s2 H2 fp) [] σi Hi s') (hfp:∀ b ∈ fp,FpOk X pins H2 b) (hC:s2.heap.objs.size ≤ C) (sb:Heap.SameBut C s'.heap h'):Inv X pins σ Hi { s' with heap:=h' }:=by
  refine I.call' (s':={ s' with heap:=h' }) (ch:=fp) Ic.os ?_ ?_ Ic.bare fun b hb=>?_
  · exact Un.but (show Un (frs X.stack) fp H2 Hi s2.heap s'.heap from Ic.base) hC sb
  · exact HOk.but (show HOk X.prog X.w Hi s'.heap from Ic.hok) (show Hi C = none from Ic.free) sb
  · obtain ⟨_,a1,_,a3,a4,a5⟩:=hfp b hb
    exact ⟨a3,a1,a4,a5⟩
end
end Tr
namespace Tr
open PySem PySem.Spec PyProof.Rows L2
section
variable {prog:Program} {w:World} {A:Around} {R:Result → Shared → Prop} {s:Shared}
theorem compLoop_gen {elt target iter:Expr} {ifs:List Expr} {scope:Scope} {pos:Pos} {it acc:Value} {env:Env} (I:Nat → Shared → Prop)
    (turn:∀ n s,I n s → wpAny (model prog w) A (pyNext it) (fun r s₁=>match r with
      | none=>R (.ok .next) s₁
      | some v=>wpAny (model prog w) A (letOwnedTupleGo target it v) (fun _ s₀=>wpAny (model prog w) A (assign target env v) (fun _ s₂ =>
          wpAny (model prog w) A (forIn ifs true fun c r=>if r = true then do let ok ← isTrue c env (eval c env);pure (ForInStep.yield ok) else pure (ForInStep.yield r)) (fun ok s₃ =>
            if ok = true then wpAny (model prog w) A (eval elt env) (fun x s₄ =>
              wpAny (model prog w) A (call (.builtin "list.append") [acc,x]) (fun _ s₅=>∃ m,m < n ∧ I m s₅) (fun _ _=>False) s₄) (fun _ _=>False) s₃
            else ∃ m,m < n ∧ I m s₃) (fun _ _=>False) s₂) (fun _ _=>False) s₀) (fun _ _=>False) s₁) (fun _ _=>False) s)
    (n:Nat) (h:I n s) :
    codeAny (model prog w) A (.compLoop (.ListComp elt [⟨target,iter,ifs,0⟩] scope pos) 0 it acc env) R s:=by
  refine codeAny_loop rfl I (fun n s hI=>?_) n h
  show wpAny _ A ((compTurn (.ListComp elt [⟨target,iter,ifs,0⟩] scope pos) 0 it acc env).onRaise (fun x=>do noteFrame x env;theTreesLotGoes x)) _ _ s
  refine wpAny_noted ?_
  rw [compTurn_list]
  refine wpAny_bind (wpAny_standAt (wpAny_bind (wpAny_mono (turn n s hI) (fun r s₁ h₁=>?_) fun _ _ h'=>h'.elim)))
  cases r with
  | none=>exact wpAny_pure h₁
  | some v =>
    refine wpAny_bind (wpAny_mono h₁ (fun _ s₀ h₀=>?_) fun _ _ h'=>h'.elim)
    refine wpAny_bind (wpAny_mono h₀ (fun _ s₂ h₂=>wpAny_bind (wpAny_mono h₂ (fun ok s₃ h₃=>?_) fun _ _ h'=>h'.elim)) fun _ _ h'=>h'.elim)
    cases ok with
    | false=>exact wpAny_pure ⟨rfl,h₃⟩
    | true =>
      exact wpAny_bind (wpAny_bind (wpAny_mono h₃ (fun x s₄ h₄=>wpAny_bind (wpAny_mono h₄ (fun _ s₅ h₅=>wpAny_pure (wpAny_pure ⟨rfl,h₅⟩)) fun _ _ h'=>h'.elim)) fun _ _ h'=>h'.elim))
end
section
variable {K:PySem.W.Frag} {H₀ H H':Hp} {O₀ O O':Addr → Prop} {own:Nat → Option Addr} {e e':Nv} {σ:L2.St}
theorem Fm.updO (F:Fm K H₀ O₀ H O own e σ) {p:Addr} {ys zs:List V} (hO:O p) (hp:H p = some (.lst ys)) (h0:H₀ p = none) (hn:∀ j,own j ≠ some p):Fm K H₀ O₀ (upd H p (.lst zs)) O own e σ where
  len:=F.len
  sl:=fun j=>RS.map (fun q=>q.upd hO hp) (fun q=>q.upd hO hp) (fun q=>q.updM hO hp trivial) (fun q=>q.updM hO hp trivial) (fun a ys ea _ q=>by
    have:a ≠ p:=fun z=>hn j (z ▸ ea)
    rw [upd_ne this];exact q) (F.sl j) (upd_map (K:=K) hO hp trivial).1
  inj:=F.inj
  same:=fun b o hb=>by rw [upd_ne (fun z=>by rw [z,h0] at hb;cases hb)];exact F.same b o hb
  sub:=F.sub
  trk0:=F.trk0
  trk:=fun a ha=>by
    by_cases h:a = p
    · subst h;exact ⟨_,upd_same⟩
    · obtain ⟨ys,q⟩:=F.trk a ha
      exact ⟨ys,by rw [upd_ne h];exact q⟩
  new:=F.new
theorem Fm.back (F:Fm K H₀ O₀ H O own e σ) (hl:e'.length = e.length) (h:∀ j,e'.at j = .no ∨ e'.at j = e.at j):Fm K H₀ O₀ H O own e' σ where
  len:=hl.trans F.len
  sl:=fun j=>by
    rcases h j with z | z
    · rw [z];trivial
    · rw [z];exact F.sl j
  inj:=F.inj
  same:=F.same
  sub:=F.sub
  trk0:=F.trk0
  trk:=F.trk
  new:=F.new
theorem compEnv_at {n:Nat} {caps:List Nat} {e:Nv} (j:Nat):(compEnv n caps e).at j = .no ∨ ∃ k i,j = n + k ∧ caps[k]? = some i ∧ (compEnv n caps e).at j = e.at i:=by
  unfold compEnv
  by_cases hj:j < n
  · left
    unfold Nv.at
    rw [List.getElem?_append_left (by rw [List.length_replicate];exact hj),List.getElem?_replicate,if_pos hj];rfl
  · cases q:caps[j - n]? with
    | none =>
      left
      unfold Nv.at
      rw [List.getElem?_append_right (by rw [List.length_replicate];(first | lia | omega)),List.length_replicate,List.getElem?_map,q];rfl
    | some i =>
      right
      refine ⟨j - n,i,by (first | lia | omega),q,?_⟩
      show (((List.replicate n Sl.no ++ caps.map fun i=>e.at i))[j]?).getD .no = _
      rw [List.getElem?_append_right (by rw [List.length_replicate];(first | lia | omega)),List.length_replicate,List.getElem?_map,q];rfl
theorem nodup_get {l:List Nat} (h:l.Nodup) {j k i:Nat} (h1:l[j]? = some i) (h2:l[k]? = some i):j = k:=by
  obtain ⟨a,e1⟩:=List.getElem?_eq_some_iff.mp h1
  obtain ⟨b,e2⟩:=List.getElem?_eq_some_iff.mp h2
  exact (List.getElem_inj h).mp (e1.trans e2.symm)
theorem Fm.comp (F:Fm K H₀ O₀ H O own e σ) (n:Nat) {caps:List Nat} (hc:caps.Nodup) {p:Addr} (hp:H p = none) {xs:List V} :
    ∃ own',Fm K H₀ O₀ (upd H p (.lst xs)) (plus O p) own' (compEnv n caps e) (stC n caps σ) ∧ ∀ j,own' j ≠ some p:=by
  have np:∀ j,own j ≠ some p:=fun j q=>by
    obtain ⟨ys,w⟩:=F.trk p (F.new j p q).1
    rw [hp] at w;cases w
  have sm:=same_upd hp (.lst xs)
  refine ⟨fun j=>if j < n then none else (caps[j - n]?).bind own,⟨?_,fun j=>?_,fun j k a h1 h2=>?_,F.same.trans sm,fun a h=>.inl (F.sub a h),F.trk0,fun a h=>?_,fun j a h1=>?_⟩,fun j h1=>?_⟩
  · unfold compEnv stC
    simp
  · rcases compEnv_at (n:=n) (caps:=caps) (e:=e) j with z | ⟨k,i,rfl,hk,z⟩
    · rw [z];trivial
    · rw [z,if_neg (by (first | lia | omega)),show n + k - n = k by (first | lia | omega),hk]
      have e1:stAt (stC n caps σ) (n + k) = stAt σ i:=by
        unfold stC
        unfold stAt
        rw [List.getElem?_append_right (by rw [List.length_replicate];(first | lia | omega)),List.length_replicate,List.getElem?_map,show n + k - n = k by (first | lia | omega),hk]
        rfl
      rw [e1]
      exact RS.map (fun q=>(q.new hp).same sm) (fun q=>(q.new hp).same sm) (fun q=>(q.new hp).same sm) (fun q=>(q.new hp).same sm) (fun a ys _ _ q=>sm _ _ q) (F.sl i)
  · by_cases hj:j < n
    · rw [if_pos hj] at h1;cases h1
    · by_cases hk:k < n
      · rw [if_pos hk] at h2;cases h2
      · rw [if_neg hj] at h1
        rw [if_neg hk] at h2
        cases q1:caps[j - n]? with
        | none=>rw [q1] at h1;cases h1
        | some i1 =>
          cases q2:caps[k - n]? with
          | none=>rw [q2] at h2;cases h2
          | some i2 =>
            rw [q1] at h1
            rw [q2] at h2
            have:=F.inj i1 i2 a h1 h2
            subst this
            have:=nodup_get hc q1 q2
            (first | lia | omega)
  · rcases h with h | h
    · obtain ⟨ys,q⟩:=F.trk a h
      exact ⟨ys,sm _ _ q⟩
    · subst h;exact ⟨_,upd_same⟩
  · by_cases hj:j < n
    · rw [if_pos hj] at h1;cases h1
    · rw [if_neg hj] at h1
      cases q1:caps[j - n]? with
      | none=>rw [q1] at h1;cases h1
      | some i1 =>
        rw [q1] at h1
        exact ⟨.inl (F.new i1 a h1).1,(F.new i1 a h1).2⟩
  · dsimp only at h1
    by_cases hj:j < n
    · rw [if_pos hj] at h1;cases h1
    · rw [if_neg hj] at h1
      cases q1:caps[j - n]? with
      | none=>rw [q1] at h1;cases h1
      | some i1 =>
        rw [q1] at h1
        exact np i1 h1
noncomputable def G.below (n:Nat):G → Bool
  | .one i=>decide (i < n)
  | .many is=>is.all fun i=>decide (i < n)
theorem puts_back {n:Nat}:∀ {is:List Nat} {ds:List D} {e e':Nv},(is.all fun i=>decide (i < n)) = true → puts is ds e = .ok e' → e'.length = e.length ∧ ∀ j,n ≤ j → e'.at j = e.at j
  | [],[],e,e',_,h=>by rw [puts] at h;cases h;exact ⟨rfl,fun _ _=>rfl⟩
  | [],_ :: _,_,_,_,h=>by simp only [puts] at h;cases h
  | _ :: _,[],_,_,_,h=>by simp only [puts] at h;cases h
  | i :: is,d :: ds,e,e',hb,h=>by
    rw [puts] at h
    rw [List.all_cons,Bool.and_eq_true] at hb
    obtain ⟨h1,h2⟩:=puts_back hb.2 h
    have hi:=of_decide_eq_true hb.1
    exact ⟨by rw [h1,List.length_set],fun j hj=>by rw [h2 j hj,at_set_ne (by (first | lia | omega))]⟩
theorem put_back {n:Nat} {g:G} {d:D} {e e':Nv} (hb:g.below n = true) (h:g.put d e = .ok e'):e'.length = e.length ∧ ∀ j,n ≤ j → e'.at j = e.at j:=by
  cases g with
  | one i =>
    have h:Res.ok (e.set i (.v d)) = .ok e':=h
    cases h
    have hi:i < n:=of_decide_eq_true hb
    exact ⟨List.length_set,fun j hj=>at_set_ne (by (first | lia | omega))⟩
  | many is =>
    cases d with
    | tup ds=>exact puts_back hb h
    | non=>cases h
    | bl _=>cases h
    | int _=>cases h
    | str _=>cases h
    | lst _=>cases h
    | dct _=>cases h
    | tdc _=>cases h
end
end Tr
namespace Tr
open PySem PySem.Spec PyProof.Rows L2
section
variable {T:Tab} {cf:Nat → List D → Res D} {X:Cx} {x y z:E} {p q r tg iter:Expr} {pos:Pos}
noncomputable def Src (K:PySem.W.Frag) (H:Hp) (O:Addr → Prop) (p:Addr) (d:D) (v:V):Prop:=RD K H O d v ∨ ∃ a,v = .ref a ∧ a ≠ p ∧ OwnAt K H O a d
theorem Src.rr {K:PySem.W.Frag} {H:Hp} {O:Addr → Prop} {p:Addr} {d:D} {v:V} (h:Src K H O p d v):RR K H O d v:=by
  rcases h with z | ⟨al,z1,z2,z3⟩
  · exact .inl z
  · exact .inr ⟨al,z1,z3⟩
theorem Src.same {K:PySem.W.Frag} {H H':Hp} {O:Addr → Prop} {p:Addr} {d:D} {v:V} (h:Src K H O p d v) (s:Same H H'):Src K H' O p d v:=by
  rcases h with z | ⟨al,z1,z2,z3⟩
  · exact .inl (z.same s)
  · exact .inr ⟨al,z1,z2,z3.same s⟩
theorem Src.upd {K:PySem.W.Frag} {H:Hp} {O:Addr → Prop} {p:Addr} {d:D} {v:V} {ys zs:List V} (h:Src K H O p d v) (hO:O p) (hp:H p = some (.lst ys)):Src K (L2.upd H p (.lst zs)) O p d v:=by
  rcases h with z | ⟨al,z1,z2,z3⟩
  · exact .inl (z.upd hO hp)
  · exact .inr ⟨al,z1,z2,z3.updM hO hp trivial z2⟩
noncomputable def testsIs (ifs:List Expr) (cond:E) (P:Expr → Prop):Prop:=(ifs = [] ∧ cond = .con (.bl true)) ∨ ∃ c,ifs = [c] ∧ P c
theorem comp_run {n:Nat} {caps:List Nat} {g:G} {elt src cond:E} {pe:Expr} {ifs:List Expr} {scope:Scope} {Nc:List Str} (hc:X.calm = true) (S:ScopeC X scope) (P:CapsOk X scope n caps Nc) (hb:g.below n = true)
    (hplain:plainX iter = true) (hsrc:SI T cf X tg src true iter)
    (body:∀ C s2 H2 fp,(cxC X scope C Nc s2 H2 fp).Ok → SG (cxC X scope C Nc s2 H2 fp) g tg ∧ SE T cf (cxC X scope C Nc s2 H2 fp) elt pe ∧ testsIs ifs cond (ST T cf (cxC X scope C Nc s2 H2 fp) cond))
    {use:Option (Value → Sem Unit)} {H₀:Hp} {O₀:Addr → Prop} {pins:List (Addr × Obj)} {s:Shared} {σ:L2.St} {H:Hp} {O:Addr → Prop} {own:Nat → Option Addr} {e:Nv} {d:D} {Q:Value → Shared → Prop} (I:Inv X pins σ H s) (F:Fm X.K H₀ O₀ H O own e σ)
    (ev:evE T cf (.comp n caps g elt src cond) e = .ok d)
    (fin:∀ C s2 H2 Hi s' a,Inv X pins σ H2 s2 → Same H H2 → s2.heap.objs.size < C → (∀ h',Heap.SameBut C s'.heap h' → Inv X pins σ Hi { s' with heap:=h' }) → (∃ m,s'.heap.Ns C m) → Hi C = none → Same H Hi → Fm X.K H₀ O₀ Hi O own e σ → RD X.K Hi O d (.ref a) → NewL X.K H Hi O d (.ref a) → a ≠ C →
      compPost (model X.prog X.w) X.A X.xe use Q (.ref a) C (.ok .next) s') :
    wpAny (model X.prog X.w) X.A (comprehension (.ListComp pe [⟨tg,iter,ifs,0⟩] scope pos) scope X.env (firstIterPos [⟨tg,iter,ifs,0⟩] pos) (newList []) false (eval iter X.env) use) Q X.xe s:=by
  (first | rw [xE_con] at ev | rw [xE_lst] at ev | rw [xE_comp] at ev)
  obtain ⟨ds,e1,ev⟩:=Res.bind_ok ev
  obtain ⟨ys,e2,ev⟩:=Res.bind_ok ev
  obtain ⟨cz,ev⟩:=when_ok ev
  cases ev
  have hz:=of_decide_eq_true cz
  refine wpAny_comprehension_free rfl (plain_fold hplain) (closure_eq (S.cells I.ok)) S.kind S.names ?_
  refine thn (hsrc H₀ O₀ pins s σ H (fun J H2=>∃ srs,Same H H2 ∧ (∀ t ∈ srs,RR X.K H2 O t.1 t.2) ∧ Wk X.K J srs ds) I ⟨O,own,e,ds,F,e1,fun J H' srs s' rr _ wk=>⟨srs,s',rr,wk⟩⟩) fun v s1 h1=>thn h1 fun itv s2 h2=>?_
  obtain ⟨it,fp,tn,J,H2,rfl,I2,Tn,tn0,hfp,srs,s12,rr0,wk⟩:=h2
  refine wpAny_newObj_type (wpAny_newFunctionEnv S.cell (by intro y hy;simp at hy) (fun h₁ hns₁ hsb₁=>?_) S.kind)
  dsimp only at hns₁ hsb₁ ⊢
  generalize hH2:s2.heap.push { cls:=.type "list", dict:=none,data:=.seq ([]:List Value).toArray } = HP at hns₁ hsb₁ ⊢
  have hC:HP.objs.size = s2.heap.objs.size + 1:=by rw [← hH2,Heap.size_push]
  have hCl:s2.heap.objs.size < HP.objs.size:=by rw [hC];exact Nat.lt_succ_self _
  have below:∀ b,b < s2.heap.objs.size → b ≠ HP.objs.size:=fun b hb=>by rw [hC];exact Nat.ne_of_lt (Nat.lt_succ_of_lt hb)
  have old:∀ b o,s2.heap.get? b = some o → h₁.get? b = some o:=fun b o e=>hsb₁.extBut b o (below b (Heap.lt_size e)) (Heap.get?_push_of_some _ (hH2 ▸ Heap.get?_push_of_some _ e))
  have hacc:h₁.get? s2.heap.objs.size = some { cls:=.type "list", data:=.seq #[] }:=hsb₁.extBut _ _ (Nat.ne_of_lt hCl) (Heap.get?_push_of_some _ (hH2 ▸ Heap.get?_push_size _ rfl))
  have hfo:∀ b ∈ fp,b < s2.heap.objs.size:=fun b hb=>let ⟨o,q,_⟩:=Tn.obj 0 _ tn0 b hb;Heap.lt_size q
  have ok:=cxC_ok (Nc:=Nc) I2 S hfp hfo (Nat.le_of_lt hCl)
  have fr:H2 s2.heap.objs.size = none:=I2.hok.fresh (Nat.le_refl _)
  have F2:=F.grow s12
  obtain ⟨ownc,Fc,nown⟩:=F2.comp n (caps:=caps) P.nd fr (xs:=[])
  obtain ⟨bg,be,bt⟩:=body HP.objs.size s2 H2 fp ok
  have I0:=invC (t1:=s2.toks + ([]:List (Str × Value)).length) (fp:=fp) I2 S P ok old hCl (by simpa using hns₁) hacc
  have fpn:∀ {Hi:Hp} {pins':List (Addr × Obj)},(∀ b ∈ fp,Hi b = none) → (∀ b ∈ fp,∀ p ∈ pins',p.1 ≠ b) → ∀ b ∈ fp,FpOk (cxC X scope HP.objs.size Nc s2 H2 fp) pins' Hi b:=fun hn hpp b hb=>by
    refine ⟨hn b hb,(ok.exf b hb).1,ok.exfs b hb,.inl hb,(ok.exf b hb).2,fun p hp=>hpp b hb p (by simpa [cxC] using hp)⟩
  let f : D → Res (Option D) := fun d => do
      let e1 ← g.put d (compEnv n caps e)
      let c ← evE T cf cond e1
      let k ← c.truth
      if k then do let y ← evE T cf elt e1;.ok (some y) else .ok none
  have loop:∀ s₃:Shared,s₃ = { s2 with heap:=h₁,toks:=s2.toks + ([]:List (Str × Value)).length } →
      codeAny (model X.prog X.w) X.A (.compLoop (.ListComp pe [⟨tg,iter,ifs,0⟩] scope pos) 0 (.ref it) (.ref s2.heap.objs.size) (compEnvC scope (freeCells X.env.cells scope.names []) HP.objs.size X.env))
        (compPost (model X.prog X.w) X.A X.xe use Q (.ref s2.heap.objs.size) HP.objs.size) s₃:=by
    rintro s₃ rfl
    refine compLoop_gen (fun k s'=>∃ i σi Hi own' as bs,k = ds.length + 1 - i ∧ i ≤ ds.length ∧ Inv (cxC X scope HP.objs.size Nc s2 H2 fp) [] σi Hi s' ∧ tn i s'.heap ∧ (∀ b ∈ fp,Hi b = none) ∧ Same H2 Hi ∧
      Fm X.K H₀ O₀ Hi (plus O s2.heap.objs.size) own' (compEnv n caps e) σi ∧ (∀ j,own' j ≠ some s2.heap.objs.size) ∧ compL f (ds.drop i) = .ok bs ∧ ys = as ++ bs ∧ as.length ≤ i ∧
      (∃ xs,Hi s2.heap.objs.size = some (.lst xs) ∧ RDs X.K Hi (plus O s2.heap.objs.size) as xs) ∧ ∀ t ∈ srs,Src X.K Hi (plus O s2.heap.objs.size) s2.heap.objs.size t.1 t.2) ?_ (ds.length + 1) ?_
    · rintro k s' ⟨i,σi,Hi,own',as,bs,rfl,hi,Ii,tni,fri,smi,Fi,noi,evd,rfl,hal,⟨xs,hx,wx⟩,rri⟩
      have stat:∀ b ∈ fp,FpOk (cxC X scope HP.objs.size Nc s2 H2 fp) [] Hi b:=fpn fri (fun b _ p hp=>by cases hp)
      obtain ⟨w1,w2,w3⟩:=wk i Hi (plus O s2.heap.objs.size) fun t ht=>(rri t ht).rr
      by_cases hlt:i < ds.length
      · refine thn (Tn.item (cxC X scope HP.objs.size Nc s2 H2 fp) rfl rfl rfl hc i [] s' σi Hi (fun _ _=>False) Ii stat tni (w1 hlt)) fun r s4 ⟨u,hr,h4⟩=>?_
        subst hr
        refine thn h4 fun _ s5 ⟨v,H5,I5,r5,y5,tn5,fr5⟩=>?_
        obtain ⟨s35,rv⟩:=w3 v H5 _ (List.getElem?_eq_getElem hlt) y5
        have I5':=I5.pinned (fpn fr5 (fun b _ p hp=>by cases hp)) (Tn.obj _ _ tn5)
        rw [List.drop_eq_getElem_cons hlt,compL] at evd
        obtain ⟨o,ef,evd⟩:=Res.bind_ok evd
        obtain ⟨b',eb,evd⟩:=Res.bind_ok evd
        obtain ⟨e3,ep,ef⟩:=Res.bind_ok ef
        obtain ⟨dc,ec,ef⟩:=Res.bind_ok ef
        obtain ⟨kc,et,ef⟩:=Res.bind_ok ef
        have F5:=Fi.grow s35
        refine thn (bg H₀ O₀ _ s5 σi H5 v u (fun σ' H'=>H' = H5 ∧ ∃ own'',Fm X.K H₀ O₀ H5 (plus O s2.heap.objs.size) own'' e3 σ' ∧ ∀ j,own'' j ≠ some s2.heap.objs.size) I5' r5 ⟨_,own',_,_,e3,F5,rv,ep,fun σ' own'' hle F'=>⟨rfl,own'',F',fun j q=>noi j (hle j _ q)⟩⟩) fun _ s6 ⟨σ6,H6,I6,q6⟩=>?_
        obtain ⟨rfl,own6,F6,no6⟩:=q6
        have tests:wpAny (model X.prog X.w) X.A (forIn ifs true fun c r=>if r = true then do let ok ← isTrue c (compEnvC scope (freeCells X.env.cells scope.names []) HP.objs.size X.env) (eval c (compEnvC scope (freeCells X.env.cells scope.names []) HP.objs.size X.env));pure (ForInStep.yield ok) else pure (ForInStep.yield r))
            (fun ok s7=>ok = kc ∧ ∃ H7,Inv (cxC X scope HP.objs.size Nc s2 H2 fp) ([] ++ pinsAt fp s5.heap) σ6 H7 s7 ∧ Same H6 H7) (fun _ _=>False) s6:=by
          rcases bt with ⟨hi0,hc0⟩ | ⟨c0,hi0,st0⟩
          · subst hi0 hc0
            (first | rw [xE_con] at ec | rw [xE_lst] at ec | rw [xE_comp] at ec);cases ec;cases et
            exact wpAny_tests_nil ⟨rfl,H6,I6,Same.refl _⟩
          · subst hi0
            refine wpAny_tests_one (thn (st0 H₀ O₀ _ s6 σ6 H6 (fun b H'=>b = kc ∧ Same H6 H') I6 ⟨_,own6,e3,dc,kc,F6,ec,et,fun H' s=>⟨rfl,s⟩⟩) fun b s7 ⟨H7,I7,q1,q2⟩=>⟨q1,H7,I7,q2⟩)
        refine thn tests fun ok s7 ⟨hok,H7,I7,s57⟩=>?_
        subst hok
        have F7:=F6.grow s57
        obtain ⟨pl1,pl2⟩:=put_back hb ep
        have bk:∀ j,(compEnv n caps e).at j = .no ∨ (compEnv n caps e).at j = e3.at j:=fun j=>by
          by_cases hj:n ≤ j
          · exact .inr (pl2 j hj).symm
          · rcases compEnv_at (n:=n) (caps:=caps) (e:=e) j with z | ⟨k,i,rfl,_,_⟩
            · exact .inl z
            · exact absurd (Nat.le_add_right n k) hj
        have keepT:∀ {H8:Hp} {s8:Shared} {σ8:L2.St},Inv (cxC X scope HP.objs.size Nc s2 H2 fp) ([] ++ pinsAt fp s5.heap) σ8 H8 s8 → tn (i + 1) s8.heap ∧ ∀ b ∈ fp,H8 b = none:=fun I8 =>
          ⟨Tn.keep _ _ _ tn5 fun b hb o q=>(I8.pin (b,o) (List.mem_append_right _ (List.mem_append_right _ (mem_pinsAt hb q)))).1,fun b hb=>by
            obtain ⟨o,q,_⟩:=Tn.obj _ _ tn5 b hb
            exact (I8.pin (b,o) (List.mem_append_right _ (List.mem_append_right _ (mem_pinsAt hb q)))).2.1⟩
        cases ok with
        | false =>
          rw [if_neg Bool.false_ne_true] at ef ⊢
          cases ef
          cases evd
          obtain ⟨t1,t2⟩:=keepT I7
          exact ⟨ds.length + 1 - (i + 1),by (first | lia | omega),i + 1,σ6,H7,own6,as,bs,rfl,hlt,I7.unpinned,t1,t2,smi.trans (s35.trans s57),F7.back pl1.symm bk,no6,eb,rfl,Nat.le_succ_of_le hal,⟨xs,s57 _ _ (s35 _ _ hx),(wx.same s35).same s57⟩,fun t ht=>((rri t ht).same s35).same s57⟩
        | true =>
          rw [if_pos rfl] at ef ⊢
          obtain ⟨dy,ey,ef⟩:=Res.bind_ok ef
          cases ef
          cases evd
          refine thn (be H₀ O₀ _ s7 σ6 H7 (fun v H'=>Same H7 H' ∧ RD X.K H' (plus O s2.heap.objs.size) dy v) I7 ⟨_,own6,e3,dy,F7,ey,fun v H' s r _=>⟨s,r⟩⟩) fun wv s8 ⟨vy,H8,I8,r8,s78,rd8⟩=>?_
          have sm8:=s35.trans (s57.trans s78)
          have hx8:=sm8 _ _ hx
          have F8:=F7.grow s78
          have wx8:=wx.same sm8
          have h0:H₀ s2.heap.objs.size = none:=(F.same.trans s12).free fr
          refine thn (mt_append (X:=cxC X scope HP.objs.size Nc s2 H2 fp) _ s8 σ6 H8 (.ref s2.heap.objs.size) [vy] (.ref s2.heap.objs.size) [wv] (fun _ H'=>H' = upd H8 s2.heap.objs.size (.lst (xs ++ [vy]))) I8 rfl (.cons r8 .nil) ⟨_,xs,vy,rfl,rfl,hx8,by rw [wx.length,← big_line];(first | lia | omega),rfl⟩) fun _ s9 ⟨v9,H9,I9,r9,e9⟩=>?_
          subst e9
          obtain ⟨t1,t2⟩:=keepT I9
          have smU:Same H2 (upd H8 s2.heap.objs.size (.lst (xs ++ [vy]))):=fun b o q=>by
            rw [upd_ne (ne_of_none q fr)]
            exact sm8 _ _ (smi _ _ q)
          refine ⟨ds.length + 1 - (i + 1),by (first | lia | omega),i + 1,σ6,_,own6,as ++ [dy],b',rfl,hlt,I9.unpinned,t1,t2,smU,(F8.updO (.inr rfl) hx8 h0 no6).back pl1.symm bk,no6,eb,by simp,?_,⟨xs ++ [vy],upd_same,?_⟩,fun t ht=>((rri t ht).same sm8).upd (.inr rfl) hx8⟩
          · rw [List.length_append,List.length_singleton];(first | lia | omega)
          · exact (wx8.append (RDs.cons rd8 RDs.nil)).upd (.inr rfl) hx8
      · have hii:i = ds.length:=by (first | lia | omega)
        subst hii
        refine thn (Tn.done (cxC X scope HP.objs.size Nc s2 H2 fp) rfl rfl rfl hc _ [] s' σi Hi (fun _ _=>False) Ii stat tni (w2 (Nat.le_refl _))) fun r s4 ⟨hr,I4⟩=>?_
        subst hr
        rw [List.drop_length,compL] at evd
        cases evd
        have nO:¬ O s2.heap.objs.size:=fun z=>by
          obtain ⟨o,q⟩:=F2.trk _ z
          rw [fr] at q;cases q
        refine fin HP.objs.size s2 H2 Hi s4 s2.heap.objs.size I2 s12 hCl (fun h' sb=>outC I2 I4 hfp (Nat.le_of_lt hCl) sb) ?_ I4.free (s12.trans smi) (F.grow (s12.trans smi)) ?_ ?_ (Nat.ne_of_lt hCl)
        · obtain ⟨m,hn,_⟩:=I4.loc
          exact ⟨m,hn⟩
        · exact ⟨_,xs,rfl,.inl ⟨nO,.inl hx⟩,by rw [List.append_nil];exact wx.weak fun _ z=>.inl z⟩
        · exact fun _=>⟨_,rfl,s12.free fr,xs,hx,by rw [List.append_nil];exact wx⟩
    · refine ⟨0,_,_,ownc,[],ys,rfl,Nat.zero_le _,I0,Tn.keep _ _ _ tn0 fun b _ o q=>old b o q,fun b hb=>?_,same_upd fr _,Fc,nown,by simpa using e2,rfl,Nat.le_refl _,⟨[],upd_same,rfl⟩,?_⟩
      · rw [upd_ne (Nat.ne_of_lt (hfo b hb))];exact (hfp b hb).1
      · intro t ht
        rcases rr0 t ht with z | ⟨al,z1,z2⟩
        · exact .inl ((z.new fr).same (same_upd fr _))
        · obtain ⟨ob,hob,_⟩:=z2.obj
          exact .inr ⟨al,z1,ne_of_none hob fr,(z2.new fr).same (same_upd fr _)⟩
  exact codeAny_compStart_list (loop _ rfl) (Tn.self _ 0 _ _ _ (Tn.keep _ _ _ tn0 fun b _ o q=>old b o q) (loop _ rfl))
end
end Tr
namespace Tr
open PySem PySem.Spec PyProof.Rows L2
section
variable {T:Tab} {cf:Nat → List D → Res D} {X:Cx} {x y z:E} {p q r tg iter:Expr} {pos pos' pos'':Pos}
theorem se_comp {n:Nat} {caps:List Nat} {g:G} {elt src cond:E} {pe:Expr} {ifs:List Expr} {scope:Scope} {Nc:List Str} (hc:X.calm = true) (S:ScopeC X scope) (P:CapsOk X scope n caps Nc) (hb:g.below n = true)
    (hplain:plainX iter = true) (hsrc:SI T cf X tg src true iter)
    (body:∀ C s2 H2 fp,(cxC X scope C Nc s2 H2 fp).Ok → SG (cxC X scope C Nc s2 H2 fp) g tg ∧ SE T cf (cxC X scope C Nc s2 H2 fp) elt pe ∧ testsIs ifs cond (ST T cf (cxC X scope C Nc s2 H2 fp) cond)) :
    SE T cf X (.comp n caps g elt src cond) (.ListComp pe [⟨tg,iter,ifs,0⟩] scope pos):=by
  intro H₀ O₀ pins s σ H Q I ⟨O,own,e,d,F,ev,k⟩
  rw [eval_ListComp]
  refine comp_run (use:=none) hc S P hb hplain hsrc body I F ev ?_
  intro C s2 H2 Hi s' a I2 s12 hC hI ns hn sm Fi rd nl hne
  obtain ⟨m,ns⟩:=ns
  exact ⟨m,ns,fun h' sb=>⟨.ref a,Hi,hI h' sb,rfl,k _ Hi sm rd fun _=>nl⟩⟩
theorem comp_asg {i:Nat} {nm:Str} {n:Nat} {caps:List Nat} {g:G} {elt src cond:E} {pe:Expr} {ifs:List Expr} {scope:Scope} {Nc:List Str} (hN:X.N.Nodup) (hi:X.N[i]? = some nm) (hl:Loc X.env.scope nm) (hf:X.fn nm = true ∨ X.env.scope.names.lookup nm = some .local)
    (hsw:swapsWith (.ListComp pe [⟨tg,iter,ifs,0⟩] scope pos) (some (.Name nm pos')) pos''.line X.env = pure true)
    (hc:X.calm = true) (S:ScopeC X scope) (P:CapsOk X scope n caps Nc) (hb:g.below n = true)
    (hplain:plainX iter = true) (hsrc:SI T cf X tg src true iter)
    (body:∀ C s2 H2 fp,(cxC X scope C Nc s2 H2 fp).Ok → SG (cxC X scope C Nc s2 H2 fp) g tg ∧ SE T cf (cxC X scope C Nc s2 H2 fp) elt pe ∧ testsIs ifs cond (ST T cf (cxC X scope C Nc s2 H2 fp) cond)) :
    ∀ H₀ O₀,PS X (.Assign [.Name nm pos'] (.ListComp pe [⟨tg,iter,ifs,0⟩] scope pos) pos'') (fun D' σ H=>∃ O own e d,Fm X.K H₀ O₀ H O own e σ ∧ evE T cf (.comp n caps g elt src cond) e = .ok d ∧ ∀ v H',Same H H' → RD X.K H' O d v → NewL X.K H H' O d v → D'.nx (σ.set i (some v)) H'):=by
  intro H₀ O₀ pins s σ H D' I ⟨O,own,e,d,F,ev,k⟩
  rw [exec_Assign_Name_used _ _ _ _ hsw]
  refine wpAny_bind (wpAny_standAt (wpAny_bind ?_))
  show wpAny _ X.A (do let _ ← comprehension (.ListComp pe [⟨tg,iter,ifs,0⟩] scope pos) scope X.env _ (newList []) false (eval iter X.env) (some (assign (.Name nm pos') X.env))) _ _ s
  refine wpAny_bind (wpAny_mono (comp_run (use:=some (assign (.Name nm pos') X.env)) (Q:=fun _ s'=>SP X pins D' .next s') hc S P hb hplain hsrc body I F ev ?_) (fun _ s' hq=>wpAny_pure (wpAny_pure hq)) fun _ _ e=>e)
  intro C s2 H2 Hi s' a I2 s12 hC hI ns hn sm Fi rd nl hne
  obtain ⟨m,ns⟩:=ns
  have I':Inv X pins σ Hi s':=by
    have:=hI s'.heap (.refl ..)
    exact this
  show wpAny _ X.A (assign (.Name nm pos') X.env (.ref a)) _ _ _
  refine wpAny_assign_Name (store_ok2 (v:=.ref a) I' hN hi hl rfl (fun s'' I'' ⟨a0,sb,ha0⟩=>?_) hf)
  have lt0:a0 < s2.heap.objs.size:=by
    rcases ha0 with z | z
    · rw [z];exact I2.lt
    · obtain ⟨v,w⟩:=I2.cell nm a0 z
      exact w.lt
  have neC:C ≠ a0:=Nat.ne_of_gt (Nat.lt_trans lt0 hC)
  refine ⟨m,ns.sameBut sb neC,fun h' sb'=>?_⟩
  refine ⟨σ.set i (some (.ref a)),Hi,?_,k _ Hi sm rd nl⟩
  refine I''.turned (t':=s''.toks) (it:=C) (fun b o hb' e=>(sb'.2 b hb').trans e) hn (Nat.ne_of_gt (Nat.lt_trans I2.lt hC)) (.inr (Nat.le_trans I2.sz (Nat.le_of_lt hC))) (fun x c e z=>?_) (fun p hp z=>?_)
  · obtain ⟨v,w⟩:=I2.cell x c e
    exact absurd (Nat.lt_trans w.lt hC) (by rw [z];exact Nat.lt_irrefl _)
  · exact absurd (Nat.lt_trans (Heap.lt_size (I2.pin p hp).1) hC) (by rw [z];exact Nat.lt_irrefl _)
theorem ss_asg_comp {i:Nat} {nm:Str} {n:Nat} {caps:List Nat} {g:G} {elt src cond:E} {pe:Expr} {ifs:List Expr} {scope:Scope} {Nc:List Str} (hN:X.N.Nodup) (hi:X.N[i]? = some nm) (hl:Loc X.env.scope nm) (hf:X.fn nm = true ∨ X.env.scope.names.lookup nm = some .local)
    (hc:X.calm = true) (S:ScopeC X scope) (P:CapsOk X scope n caps Nc) (hb:g.below n = true)
    (hplain:plainX iter = true) (hsrc:SI T cf X tg src true iter) (o:Bool)
    (body:∀ C s2 H2 fp,(cxC X scope C Nc s2 H2 fp).Ok → SG (cxC X scope C Nc s2 H2 fp) g tg ∧ SE T cf (cxC X scope C Nc s2 H2 fp) elt pe ∧ testsIs ifs cond (ST T cf (cxC X scope C Nc s2 H2 fp) cond)) :
    SS T cf X (if o then .asgO i (.comp n caps g elt src cond) else .asg (.one i) (.comp n caps g elt src cond)) (.Assign [.Name nm pos'] (.ListComp pe [⟨tg,iter,ifs,0⟩] scope pos) pos''):=by
  intro H₀ O₀
  have main:PS X (.Assign [.Name nm pos'] (.ListComp pe [⟨tg,iter,ifs,0⟩] scope pos) pos'') (fun D' σ H=>∃ O own e d,Fm X.K H₀ O₀ H O own e σ ∧ evE T cf (.comp n caps g elt src cond) e = .ok d ∧ ∀ v H',Same H H' → RD X.K H' O d v → NewL X.K H H' O d v → D'.nx (σ.set i (some v)) H'):=by
    have hsw:∃ b:Bool,swapsWith (.ListComp pe [⟨tg,iter,ifs,0⟩] scope pos) (some (.Name nm pos')) pos''.line X.env = pure b:=⟨_,rfl⟩
    obtain ⟨b,hsw⟩:=hsw
    cases b with
    | true=>exact comp_asg hN hi hl hf hsw hc S P hb hplain hsrc body H₀ O₀
    | false =>
      refine PS.imp (fun D' σ H hq=>?_) (ps_set hN hi hl (se_comp hc S P hb hplain hsrc body H₀ O₀) hsw hf)
      obtain ⟨O,own,e,d,F,ev,k⟩:=hq
      exact ⟨O,own,e,d,F,ev,fun v H' s' r n=>k v H' s' r (n rfl)⟩
  refine PS.imp (fun D' σ H hq=>?_) main
  obtain ⟨ts,e,out,⟨O,own,F,tt⟩,ev,k⟩:=hq
  cases o with
  | true =>
    rw [if_pos rfl] at ev
    (first | rw [xS_asg] at ev | rw [xS_asgO] at ev)
    obtain ⟨d,e1,ev⟩:=Res.bind_ok ev
    split at ev
    · obtain ⟨c,ev⟩:=when_ok ev
      cases ev
      refine ⟨O,own,e,_,F,e1,fun v H' s' r n=>?_⟩
      obtain ⟨p,rfl,h2,h3⟩:=n rfl
      exact k _ H' ⟨_,_,F.setO s' i h2 h3,fun t ht=>((tt t ht).new h2).same s'⟩
    · obtain ⟨c,ev⟩:=when_ok ev
      cases ev
      refine ⟨O,own,e,_,F,e1,fun v H' s' r n=>?_⟩
      obtain ⟨p,rfl,h2,h3⟩:=n rfl
      exact k _ H' ⟨_,_,F.setO s' i h2 h3,fun t ht=>((tt t ht).new h2).same s'⟩
    · obtain ⟨c,ev⟩:=when_ok ev
      cases ev
      refine ⟨O,own,e,_,F,e1,fun v H' s' r n=>?_⟩
      obtain ⟨p,rfl,h2,h3⟩:=n rfl
      exact k _ H' ⟨_,_,F.setO s' i h2 h3,fun t ht=>((tt t ht).new h2).same s'⟩
    · cases ev
  | false =>
    rw [if_neg Bool.false_ne_true] at ev
    (first | rw [xS_asg] at ev | rw [xS_asgO] at ev)
    obtain ⟨d,e1,ev⟩:=Res.bind_ok ev
    obtain ⟨e2,e3,ev⟩:=Res.bind_ok ev
    cases ev
    cases e3
    exact ⟨O,own,e,d,F,e1,fun v H' s' r n=>k _ H' ⟨O,_,(F.grow s').setV i r,fun t ht=>(tt t ht).same s'⟩⟩
theorem turned2 {pins:List (Addr × Obj)} {σ:L2.St} {H:Hp} {s:Shared} {h':Heap} {t':Nat} {a b:Addr} (I:Inv X pins σ H s) (k:∀ c o,c ≠ a → c ≠ b → s.heap.get? c = some o → h'.get? c = some o) (na:H a = none) (nb:H b = none)
    (fa:a ≠ X.env.locals ∧ (a ∈ X.ex ∨ X.s₀.heap.objs.size ≤ a) ∧ (∀ x c,X.env.cells.lookup x = some c → c ≠ a) ∧ ∀ p ∈ X.pn ++ pins,p.1 ≠ a)
    (fb:b ≠ X.env.locals ∧ (b ∈ X.ex ∨ X.s₀.heap.objs.size ≤ b) ∧ (∀ x c,X.env.cells.lookup x = some c → c ≠ b) ∧ ∀ p ∈ X.pn ++ pins,p.1 ≠ b):Inv X pins σ H { s with heap:=h',toks:=t' }:=by
  have nn:∀ c u,H c = some u → c ≠ a ∧ c ≠ b:=fun c u e=>⟨fun z=>(by rw [z,na] at e;cases e),fun z=>(by rw [z,nb] at e;cases e)⟩
  have no2:∀ {c},c ∉ [a,b] → c ≠ a ∧ c ≠ b:=fun hc=>⟨fun z=>hc (by simp [z]),fun z=>hc (by simp [z])⟩
  refine I.step (g':=s.gens) (d':=s.drawn) (ch:=[a,b]) (fun c hc=>?_) (fun c o _ _ hc e _=>k c o (no2 hc).1 (no2 hc).2 e) (fun c o _ _ hc e _=>⟨o.slots,k c o (no2 hc).1 (no2 hc).2 e⟩) (fun _ _ _ _ n=>n)
    (fun c o hc e=>⟨o,k c o (no2 hc).1 (no2 hc).2 e⟩) (fun _ _ e=>e) (fun _ _ _ e=>e) (fun b ps e=>⟨#[],by rw [e];simp⟩) (fun m hm=>?_) (fun c u e=>?_) I.bare
  · rcases List.mem_cons.mp hc with rfl | hc
    · exact ⟨fa.2.1,fa.1,fa.2.2.1,fa.2.2.2⟩
    · have e:c = b:=by simpa using hc
      subst e
      exact ⟨fb.2.1,fb.1,fb.2.2.1,fb.2.2.2⟩
  · obtain ⟨o,es,ep,ho,r⟩:=hm
    exact ⟨o,es,ep,k _ o (Ne.symm fa.1) (Ne.symm fb.1) ho,r⟩
  · refine (I.hok c u e).stay (fun c' v hc q=>?_) (fun _ q=>q) fun _ _ q=>q
    have:c' ≠ a ∧ c' ≠ b:=by
      rcases hc with z | z
      · rw [z];exact nn c u e
      · exact nn c' _ z
    exact k c' v this.1 this.2 q
noncomputable def Ite (K:PySem.W.Frag) (a:Addr):It :=
  ⟨fun i H=>∃ xs x,SqL K H a xs ∧ xs[i]? = some x,fun i H x H'=>∃ p y,H p = none ∧ x = .ref p ∧ H' = upd H p (.tup [.int i,y]) ∧ ∀ xs,SqL K H a xs → xs[i]? = some y,fun i H=>∃ xs,SqL K H a xs ∧ xs.length ≤ i⟩
theorem turn_enum {Pg:Program} {w:World} {K:PySem.W.Frag} {es:List Expr} {kk:Nat} {pos:Pos} (a en it:Addr) (hne:en ≠ it):Turn Pg w K (.Tuple es kk pos) (Ite K a) [en,it] en (fun i h=>∃ old,IsEnum h en it i old ∧ h.IsListIter it a i) where
  mem:=by simp
  obj:=fun i h st b hb=>by
    obtain ⟨old,st1,o,e,c,d⟩:=st
    rcases List.mem_cons.mp hb with rfl | hb
    · exact ⟨_,st1,fun v z=>by
        have z':Data.fields _ = Data.cell v:=z
        cases z'⟩
    · have e':b = it:=by simpa using hb
      subst e'
      exact ⟨o,e,fun v z=>by rw [d] at z;cases z⟩
  keep:=fun i h h' st k=>by
    obtain ⟨old,st1,st2⟩:=st
    exact ⟨old,k en (by simp) _ st1,st2.at fun o e=>k it (by simp) o e⟩
  item:=by
    intro X hP hw hK hc i pins s σ H E I hf st hg
    subst hP hw hK
    obtain ⟨xs,x,hq,hx⟩:=hg
    obtain ⟨old,st1,st2⟩:=st
    obtain ⟨its,rv,p,hz⟩:=I.list hq
    obtain ⟨u,hu,ru⟩:=rv.get hx
    obtain ⟨f0,f1,f2,f3,f4,f5⟩:=hf en (by simp)
    obtain ⟨g0,g1,g2,g3,g4,g5⟩:=hf it (by simp)
    refine wpAny_pyNext_enum_item st1 st2 p.isList (x:=u) (by simpa using hu) hne fun h₁ heo hit₁ ht₁ hz₁ hk₁=>?_
    refine ⟨_,rfl,wpAny_letOwnedTupleGo_enum heo fun h₂ he₂ hs₂=>?_⟩
    replace hs₂:Heap.SameBut en h₁ h₂:=hs₂
    have enl:en < s.heap.objs.size:=Heap.lt_size st1
    have itl:it < s.heap.objs.size:=by
      obtain ⟨o,q,_⟩:=id st2
      exact Heap.lt_size q
    have fr:H s.heap.objs.size = none:=I.hok.fresh (Nat.le_refl _)
    have hm:∃ hm:Heap,hm = s.heap.push { cls:=.type "tuple", data:=.seq #[.int i s.toks,u] }:=⟨_,rfl⟩
    obtain ⟨hm,ehm⟩:=hm
    have I1:Inv X pins σ (upd H s.heap.objs.size (.tup [.int i,x])) { s with heap:=hm }:=by
      rw [ehm]
      refine I.laid (t':=s.toks) (fun b o q=>Heap.get?_push_of_some _ q) (Nat.le_refl _) ?_
      exact ⟨by show 2 ≤ sizeLine;decide,[.int i s.toks,u],.cons ⟨_,rfl⟩ (.cons ru .nil),⟨_,Heap.get?_push_size _ rfl,rfl,_,rfl⟩⟩
    have kept:∀ b o,b ≠ en → b ≠ it → hm.get? b = some o → h₂.get? b = some o:=fun b o hb1 hb2 q=>by
      refine (hs₂.2 b hb1).trans ?_
      rw [ehm] at q
      rcases Heap.get?_push_cases q with ⟨e1,e2⟩ | q
      · rw [e1,e2];exact ht₁
      · exact hk₁ b o hb1 hb2 q
    have up:∀ {c:Addr},c < s.heap.objs.size → H c = none → upd H s.heap.objs.size (.tup [.int i,x]) c = none:=fun hl hn=>by rw [upd_ne (Nat.ne_of_lt hl)];exact hn
    have I2:Inv X pins σ (upd H s.heap.objs.size (.tup [.int i,x])) { s with heap:=h₂,toks:=s.toks + 1 }:=turned2 (s:={ s with heap:=hm }) (t':=s.toks + 1) I1 kept (up enl f0) (up itl g0) ⟨f1,f3,f4,f5⟩ ⟨g1,g3,g4,g5⟩
    refine ⟨.ref s.heap.objs.size,_,I2,rfl,⟨_,x,fr,rfl,rfl,fun ys hy=>by rw [I.list_inj hy hq];exact hx⟩,⟨u,?_,hit₁.extBut hs₂.extBut (Ne.symm hne)⟩,fun b hb=>?_⟩
    · have:((i + 1:Nat):Int) = (i:Int) + 1:=by push_cast;rfl
      rw [this];exact he₂
    · rcases List.mem_cons.mp hb with rfl | hb
      · exact up enl f0
      · have e':b = it:=by simpa using hb
        subst e'
        exact up itl g0
  done:=by
    intro X hP hw hK hc i pins s σ H E I hf st hg
    subst hP hw hK
    obtain ⟨xs,hq,hx⟩:=hg
    obtain ⟨old,st1,st2⟩:=st
    obtain ⟨its,rv,p,hz⟩:=I.list hq
    obtain ⟨g0,g1,g2,g3,g4,g5⟩:=hf it (by simp)
    have hl:=rv.length
    exact wpAny_pyNext_enum_end (I.ok.hd hc) st1 st2 p.isList (by simp;(first | lia | omega)) fun h' eb=>⟨rfl,I.turned (t':=s.toks) (fun b o hb e=>eb b o hb e) g0 g1 g3 g4 g5⟩
  self:=fun _ _ _ _ _ st h=>by
    obtain ⟨old,st1,_⟩:=st
    exact wpAny_pyIter_enum st1 h
noncomputable def IteT (K:PySem.W.Frag) (a:Addr):It :=
  ⟨fun i H=>∃ xs x,SqT K H a xs ∧ xs[i]? = some x,fun i H x H'=>∃ p y,H p = none ∧ x = .ref p ∧ H' = upd H p (.tup [.int i,y]) ∧ ∀ xs,SqT K H a xs → xs[i]? = some y,fun i H=>∃ xs,SqT K H a xs ∧ xs.length ≤ i⟩
theorem apart_tup {h:Heap} {a b:Addr} {its:Array Value} {o:Obj} (ht:h.IsTuple a its) (ho:h.get? b = some o) (hc:o.cls ≠ .type "tuple"):a ≠ b:=fun e=>by
  subst e
  obtain ⟨o',h1,h2,_⟩:=ht
  rw [ho] at h1;cases h1
  exact hc h2
theorem turn_enumT {Pg:Program} {w:World} {K:PySem.W.Frag} {es:List Expr} {kk:Nat} {pos:Pos} (a en it:Addr) (hne:en ≠ it):Turn Pg w K (.Tuple es kk pos) (IteT K a) [en,it] en (fun i h=>∃ old,IsEnum h en it i old ∧ h.IsTupleIter it a i) where
  mem:=by simp
  obj:=fun i h st b hb=>by
    obtain ⟨old,st1,o,e,c,d⟩:=st
    rcases List.mem_cons.mp hb with rfl | hb
    · exact ⟨_,st1,fun v z=>by
        have z':Data.fields _ = Data.cell v:=z
        cases z'⟩
    · have e':b = it:=by simpa using hb
      subst e'
      exact ⟨o,e,fun v z=>by rw [d] at z;cases z⟩
  keep:=fun i h h' st k=>by
    obtain ⟨old,st1,st2⟩:=st
    exact ⟨old,k en (by simp) _ st1,st2.at fun o e=>k it (by simp) o e⟩
  item:=by
    intro X hP hw hK hc i pins s σ H E I hf st hg
    subst hP hw hK
    obtain ⟨xs,x,hq,hx⟩:=hg
    obtain ⟨old,st1,st2⟩:=st
    obtain ⟨its,rv,p,hz⟩:=I.tuple hq
    obtain ⟨u,hu,ru⟩:=rv.get hx
    obtain ⟨f0,f1,f2,f3,f4,f5⟩:=hf en (by simp)
    obtain ⟨g0,g1,g2,g3,g4,g5⟩:=hf it (by simp)
    have n1:a ≠ it:=by
      obtain ⟨o,q1,q2,_⟩:=id st2
      exact apart_tup p q1 (by rw [q2];show Value.type "tuple_iterator" ≠ Value.type "tuple"; decide)
    have n2:a ≠ en:=apart_tup p st1 (show Value.type "enumerate" ≠ Value.type "tuple" by decide)
    have hlt:i < its.toArray.size:=by rw [List.size_toArray];exact (List.getElem?_eq_some_iff.mp hu).1
    refine wpAny_pyNext_enum_itemD (draws_tup (A:=X.A.in1) (I.ok.hd hc) it a n1 its.toArray) st1 ⟨st2,p⟩ hlt hne (by simp [hne,Ne.symm n2]) fun u' h₁ tk hu' heo hit₁ ht₁ hz₁ hk₁=>?_
    have eu:u' = u:=by
      have h1:its[i]? = some u':=by simpa using hu'
      rw [hu] at h1;cases h1;rfl
    subst eu
    refine ⟨_,rfl,wpAny_letOwnedTupleGo_enum heo fun h₂ he₂ hs₂=>?_⟩
    replace hs₂:Heap.SameBut en h₁ h₂:=hs₂
    have enl:en < s.heap.objs.size:=Heap.lt_size st1
    have itl:it < s.heap.objs.size:=by
      obtain ⟨o,q,_⟩:=id st2
      exact Heap.lt_size q
    have fr:H s.heap.objs.size = none:=I.hok.fresh (Nat.le_refl _)
    have hm:∃ hm:Heap,hm = s.heap.push { cls:=.type "tuple", data:=.seq #[.int i tk,u'] }:=⟨_,rfl⟩
    obtain ⟨hm,ehm⟩:=hm
    have I1:Inv X pins σ (upd H s.heap.objs.size (.tup [.int i,x])) { s with heap:=hm }:=by
      rw [ehm]
      refine I.laid (t':=s.toks) (fun b o q=>Heap.get?_push_of_some _ q) (Nat.le_refl _) ?_
      exact ⟨by show 2 ≤ sizeLine;decide,[.int i tk,u'],.cons ⟨_,rfl⟩ (.cons ru .nil),⟨_,Heap.get?_push_size _ rfl,rfl,_,rfl⟩⟩
    have kept:∀ b o,b ≠ en → b ≠ it → hm.get? b = some o → h₂.get? b = some o:=fun b o hb1 hb2 q=>by
      refine (hs₂.2 b hb1).trans ?_
      rw [ehm] at q
      rcases Heap.get?_push_cases q with ⟨e1,e2⟩ | q
      · rw [e1,e2];exact ht₁
      · exact hk₁ b o hb1 hb2 q
    have up:∀ {c:Addr},c < s.heap.objs.size → H c = none → upd H s.heap.objs.size (.tup [.int i,x]) c = none:=fun hl hn=>by rw [upd_ne (Nat.ne_of_lt hl)];exact hn
    have I2:Inv X pins σ (upd H s.heap.objs.size (.tup [.int i,x])) { s with heap:=h₂,toks:=tk + 1 }:=turned2 (s:={ s with heap:=hm }) (t':=tk + 1) I1 kept (up enl f0) (up itl g0) ⟨f1,f3,f4,f5⟩ ⟨g1,g3,g4,g5⟩
    refine ⟨.ref s.heap.objs.size,_,I2,rfl,⟨_,x,fr,rfl,rfl,fun ys hy=>by rw [I.tuple_inj hy hq];exact hx⟩,⟨u',?_,hit₁.1.extBut hs₂.extBut (Ne.symm hne)⟩,fun b hb=>?_⟩
    · have:((i + 1:Nat):Int) = (i:Int) + 1:=by push_cast;rfl
      rw [this];exact he₂
    · rcases List.mem_cons.mp hb with rfl | hb
      · exact up enl f0
      · have e':b = it:=by simpa using hb
        subst e'
        exact up itl g0
  done:=by
    intro X hP hw hK hc i pins s σ H E I hf st hg
    subst hP hw hK
    obtain ⟨xs,hq,hx⟩:=hg
    obtain ⟨old,st1,st2⟩:=st
    obtain ⟨its,rv,p,hz⟩:=I.tuple hq
    obtain ⟨g0,g1,g2,g3,g4,g5⟩:=hf it (by simp)
    have hl:=rv.length
    have hT:s.TypeIs (.ref en) "enumerate" := ⟨_,st1,rfl⟩
    unfold pyNext
    refine wpAny_bind (wpAny_attempt (wpAny_callSpecial?_slot (name:=Str.ofString "__next__") hT F.slot_enumerate_next
      (wpAny_call_entry F.slot_enumerate_next hT F.entry_enumerate_next ?_ (F.args_enumerate_next_1 _))))
    show wpAny _ _ (field (.ref en) 2 >>= _) _ _ _
    refine wpAny_bind (wpAny_field st1 rfl (x:=.ref it) rfl ?_)
    refine wpAny_bind (nextOf_tup_end (I.ok.hd hc) st2 p (by simp;(first | lia | omega)) fun h' x he' hx'=>?_)
    obtain ⟨o,ho,hc'⟩:=hx'
    refine wpAny_bind (wpAny_isInstance (T := "StopIteration") (b:=true) ⟨o,ho,hc'⟩ isSubtype_stop ?_)
    exact wpAny_pure ⟨rfl,I.turned (t':=s.toks) (fun b o hb e=>he' b o hb e) g0 g1 g3 g4 g5⟩
  self:=fun _ _ _ _ _ st h=>by
    obtain ⟨old,st1,_⟩:=st
    exact wpAny_pyIter_enum st1 h
theorem enumD_len (k:Int):∀ ds:List D,(enumD k ds).length = ds.length
  | []=>rfl
  | d :: ds=>by rw [enumD,List.length_cons,List.length_cons,enumD_len (k + 1) ds]
theorem enumD_get:∀ (k:Int) (ds:List D) (i:Nat) (d:D),ds[i]? = some d → (enumD k ds)[i]? = some (.tup [.int (k + i),d])
  | k,[],i,d,h=>by simp at h
  | k,d0 :: ds,0,d,h=>by simp at h;subst h;rw [enumD];simp
  | k,d0 :: ds,i + 1,d,h=>by
    rw [enumD,List.getElem?_cons_succ,enumD_get (k + 1) ds i d (by simpa using h)]
    congr 4
    push_cast
    (first | lia | omega)
theorem wk_enum {K:PySem.W.Frag} {a:Addr} {ds:List D}:Wk1 K (Ite K a) (.lst ds) (.ref a) (enumD 0 ds):=by
  intro i H O r
  obtain ⟨a',xs,e,q,w⟩:=r.lst
  cases e
  have hl:=w.length
  rw [enumD_len]
  refine ⟨fun h=>?_,fun h=>⟨xs,q,by (first | lia | omega)⟩,fun x H' d hd y=>?_⟩
  · obtain ⟨v,h1,h2⟩:=w.get (List.getElem?_eq_getElem h)
    exact ⟨xs,v,q,h1⟩
  · obtain ⟨p,yv,hp,rfl,rfl,hy⟩:=y
    refine ⟨same_upd hp _,?_⟩
    have hi:i < ds.length:=by
      have:=(List.getElem?_eq_some_iff.mp hd).1
      rwa [enumD_len] at this
    obtain ⟨v,h1,h2⟩:=w.get (List.getElem?_eq_getElem hi)
    have:=(hy xs q).symm.trans h1
    cases this
    rw [enumD_get 0 ds i _ (List.getElem?_eq_getElem hi)] at hd
    cases hd
    refine new_tup (RDs.cons ?_ (RDs.cons h2 RDs.nil)) hp
    show V.int (i:Int) = V.int (0 + (i:Int))
    rw [Int.zero_add]
theorem wk_enumT {K:PySem.W.Frag} {a:Addr} {ds:List D}:Wk1 K (IteT K a) (.tup ds) (.ref a) (enumD 0 ds):=by
  intro i H O r
  obtain ⟨a',xs,e,q,w⟩:=r.tup
  cases e
  have hl:=w.length
  rw [enumD_len]
  refine ⟨fun h=>?_,fun h=>⟨xs,q,by (first | lia | omega)⟩,fun x H' d hd y=>?_⟩
  · obtain ⟨v,h1,h2⟩:=w.get (List.getElem?_eq_getElem h)
    exact ⟨xs,v,q,h1⟩
  · obtain ⟨p,yv,hp,rfl,rfl,hy⟩:=y
    refine ⟨same_upd hp _,?_⟩
    have hi:i < ds.length:=by
      have:=(List.getElem?_eq_some_iff.mp hd).1
      rwa [enumD_len] at this
    obtain ⟨v,h1,h2⟩:=w.get (List.getElem?_eq_getElem hi)
    have:=(hy xs q).symm.trans h1
    cases this
    rw [enumD_get 0 ds i _ (List.getElem?_eq_getElem hi)] at hd
    cases hd
    refine new_tup (RDs.cons ?_ (RDs.cons h2 RDs.nil)) hp
    show V.int (i:Int) = V.int (0 + (i:Int))
    rw [Int.zero_add]
theorem si_enum {rd:Bool} {n:Str} {pn:Pos} {es:List Expr} {kk:Nat} {tpos:Pos} (hn:n = "enumerate") (hg:Gl X n) (hm:X.mg "enumerate" = none) (hp:plainX p = true) (ha:SR T cf X x p) (hv:rd = false → SE T cf X x p) :
    SI T cf X (.Tuple es kk tpos) (.enum x) rd (.Call (.Name n pn) [p] [] pos):=by
  intro H₀ O₀ pins s σ H R I h
  subst hn
  obtain ⟨O,own,e,ds,F,ev,k⟩:=h
  replace k:=k1_of k
  rw [xI_enum] at ev
  obtain ⟨d1,e1,ev⟩:=Res.bind_ok ev
  have main:∀ {u:Value} {s1:Shared} {v:V} {H1:Hp},Inv X pins σ H1 s1 → RelV v u → Same H H1 → RR X.K H1 O d1 v → (rd = false → RD X.K H1 O d1 v) → wpAny (model X.prog X.w) X.A (call (.type "enumerate") [u]) (fun v s1=>wpAny (model X.prog X.w) X.A (pyIter v) (PIE X pins σ (.Tuple es kk tpos) R) X.xe s1) X.xe s1:=by
    intro u s1 v H1 I1 r1 s1' rr rv
    cases d1 with
    | lst dl =>
      cases ev
      obtain ⟨a,xs,e,q1,w1⟩:=rr.lst
      subst e
      cases r1
      obtain ⟨its,r',pl,hz⟩:=I1.list q1
      refine call_enumerate_list pl.isList fun h' he hit hz' hk=>?_
      refine wpAny_pyIter_enum he ?_
      have I2:Inv X pins σ H1 { s1 with heap:=h' }:=I1.kept (t':=s1.toks) hk
      refine ⟨s1.heap.objs.size + 1,[s1.heap.objs.size + 1,s1.heap.objs.size],_,Ite X.K a,H1,rfl,I2,turn_enum a _ _ (Nat.succ_ne_self _),⟨_,he,hit⟩,fun b hb=>?_,k _ H1 _ _ s1' rr rv wk_enum⟩
      rcases List.mem_cons.mp hb with rfl | hb
      · exact I1.fpOk (Nat.le_succ _) (I1.hok.fresh (Nat.le_succ _))
      · have e':b = s1.heap.objs.size:=by simpa using hb
        subst e'
        exact I1.fpOk (Nat.le_refl _) (I1.hok.fresh (Nat.le_refl _))
    | tup dl =>
      cases ev
      obtain ⟨a,xs,e,q1,w1⟩:=rr.tup
      subst e
      cases r1
      obtain ⟨its,r',pl,hz⟩:=I1.tuple q1
      refine call_enum_tup pl fun h' he hit hz' hk=>?_
      refine wpAny_pyIter_enum he ?_
      have I2:Inv X pins σ H1 { s1 with heap:=h' }:=I1.kept (t':=s1.toks) hk
      refine ⟨s1.heap.objs.size + 1,[s1.heap.objs.size + 1,s1.heap.objs.size],_,IteT X.K a,H1,rfl,I2,turn_enumT a _ _ (Nat.succ_ne_self _),⟨_,he,hit⟩,fun b hb=>?_,k _ H1 _ _ s1' rr rv wk_enumT⟩
      rcases List.mem_cons.mp hb with rfl | hb
      · exact I1.fpOk (Nat.le_succ _) (I1.hok.fresh (Nat.le_succ _))
      · have e':b = s1.heap.objs.size:=by simpa using hb
        subst e'
        exact I1.fpOk (Nat.le_refl _) (I1.hok.fresh (Nat.le_refl _))
    | non=>cases ev
    | bl _=>cases ev
    | int _=>cases ev
    | str _=>cases ev
    | dct _=>cases ev
    | tdc _=>cases ev
  cases rd with
  | true =>
    refine Call_ (ld_blt I hg hm PyProof.Rows.boot_enumerate (PyProof.Rows.callWith_type1 (thn (pa_cons (ha H₀ O₀) pa_nil (plain_star hp) pos pins s σ H (fun vs H1=>∃ v,vs = [v] ∧ Same H H1 ∧ RR X.K H1 O d1 v) I ⟨O,own,e,d1,F,e1,fun v H' s' r=>⟨v,rfl,s',r⟩⟩) fun us s1 ⟨vs,H1,I1,r1,v,ev1,s1',rr⟩=>?_) (plain_star hp) rfl))
    subst ev1
    obtain ⟨u,rfl,ru⟩:=vals1 r1
    exact main I1 ru s1' rr (fun z=>by cases z)
  | false =>
    refine Call_ (ld_blt I hg hm PyProof.Rows.boot_enumerate (PyProof.Rows.callWith_type1 (thn (pa_cons (hv rfl H₀ O₀) pa_nil (plain_star hp) pos pins s σ H (fun vs H1=>∃ v,vs = [v] ∧ Same H H1 ∧ RD X.K H1 O d1 v) I ⟨O,own,e,d1,F,e1,fun v H' s' r _=>⟨v,rfl,s',r⟩⟩) fun us s1 ⟨vs,H1,I1,r1,v,ev1,s1',rr⟩=>?_) (plain_star hp) rfl))
    subst ev1
    obtain ⟨u,rfl,ru⟩:=vals1 r1
    exact main I1 ru s1' rr.rr (fun _=>rr)
end
end Tr
namespace Tr
open PySem PySem.Spec PyProof.Rows L2
section
variable {K:PySem.W.Frag} {H₀ H H':Hp} {O₀ O O':Addr → Prop} {own:Nat → Option Addr} {e:Nv} {σ:L2.St}
end
section
variable {T:Tab} {cf:Nat → List D → Res D} {X:Cx} {x y z:E} {p q r tg:Expr} {pos pos':Pos} {es:List Expr}
end
end Tr
namespace Tr
open PySem PySem.Spec PyProof.Rows L2
set_option genInjectivity false in
structure Txt where
  gn:List Str
  dn:List Str
  tf:List (Str × List Nat):=[]
  ts:List (Str × List Str):=[]
  cls:List Str:=[]
noncomputable def nodupB {α:Type} [BEq α]:List α → Bool
  | []=>true
  | a :: r=>!r.contains a && nodupB r
theorem nodup_of {α:Type} [BEq α] [LawfulBEq α]:∀ {l:List α},nodupB l = true → l.Nodup
  | [],_=>List.nodup_nil
  | a :: r,h=>by
    rw [nodupB,Bool.and_eq_true] at h
    refine List.nodup_cons.mpr ⟨fun m=>?_,nodup_of h.2⟩
    have:r.contains a = true:=List.contains_iff_mem.mpr m
    rw [this] at h
    exact absurd h.1 (by simp)
noncomputable def isRd:E → Bool
  | .rd _=>true
  | _=>false
noncomputable def visB (sc:Scope) (n:Str):Bool:=(sc.names.lookup n == some .local) || (sc.names.lookup n == some .cell) || (sc.names.lookup n == some .free)
noncomputable def glB (sc:Scope) (n:Str):Bool:=sc.names.lookup n == some .globalImplicit
noncomputable def dbgB (n:Str):Bool:=!(n == ("__debug__" : Str)) && !(n == ("__classdict__" : Str))
noncomputable def nameB (N:List Str) (sc:Scope) (i:Nat) (n:Str):Bool:=(N[i]? == some n) && visB sc n && dbgB n
noncomputable def relS (scope sc:Scope):Scope:={ scope with names:=scope.names.map fun (n,k)=>if (k == .free && sc.kind == .function && sc.names.lookup n == some .cell) then (n,.cell) else (n,k) }
noncomputable def tgNames:Expr → List Str
  | .Name n _=>[n]
  | .Tuple es _ _=>es.filterMap fun | .Name n _=>some n | _=>none
  | _=>[]
noncomputable def mGs (loc:Bool) (N:List Str) (sc:Scope):List Nat → List Expr → Bool
  | [],[]=>true
  | i :: is,.Name n _ :: es=>(N[i]? == some n) && ((sc.names.lookup n == some .local) || (!loc && sc.names.lookup n == some .cell)) && mGs loc N sc is es
  | _,_=>false
noncomputable def mG (loc:Bool) (N:List Str) (sc:Scope):G → Expr → Bool
  | .one i,.Name n _=>(N[i]? == some n) && ((sc.names.lookup n == some .local) || (!loc && sc.names.lookup n == some .cell))
  | .many is,.Tuple es _ _=>mGs loc N sc is es
  | _,_=>false
noncomputable def scB (sc scope:Scope):Bool:=(scope.kind == .function) && scope.names.all (fun x=>!(x.2 == .cell)) && scope.names.all (fun x=>!(x.2 == .local) || (scope.names.lookup x.1 == some .local)) &&
  scope.names.all (fun x=>!(x.2 == .free) || (!(scope.names.lookup x.1 == some .local) && ((sc.names.lookup x.1 == some .cell) || (sc.names.lookup x.1 == some .free))))
noncomputable def capNames (N:List Str) (caps:List Nat):List Str:=caps.map fun i=>(N[i]?).getD ""
noncomputable def capB (N:List Str) (scope:Scope) (caps:List Nat):Bool:=caps.all fun i=>match N[i]? with | some n=>scope.names.contains (n,.free) | none=>false
noncomputable def isTrueC:E → Bool
  | .con (.bl true)=>true
  | _=>false
noncomputable def isOmit:E → Bool
  | .omit=>true
  | _=>false
noncomputable def isTupX:Expr → Bool
  | .Tuple _ _ _=>true
  | _=>false
section
variable (Tx:Txt)
mutual
noncomputable def mE:E → List Str → Scope → Expr → Bool
  | .var i,N,sc,.Name n _=>nameB N sc i n
  | .rd i,N,sc,.Name n _=>nameB N sc i n
  | .con d,_,_,.Constant c _ _=>cstIs d c
  | .bin o a b,N,sc,.BinOp l o' r _=>(o == o') && mE a N sc l && mE b N sc r
  | .cmp o a b,N,sc,.Compare l [o'] [r] _=>(o == o') && mE a N sc l && mE b N sc r
  | .chain o p a b c,N,sc,.Compare l [o',p'] [m,r] _=>(o == o') && (p == p') && mE a N sc l && mE b N sc m && mE c N sc r
  | .neg a,N,sc,.UnaryOp .USub l _=>mE a N sc l
  | .and a b,N,sc,.BoolOp .And [l,r] _=>!isRd a && !isRd b && mE a N sc l && mE b N sc r
  | .and a b,N,sc,.BoolOp .And (l :: r :: r' :: rest) pos=>!isRd a && !isRd b && mE a N sc l && mE b N sc (.BoolOp .And (r :: r' :: rest) pos)
  | .or a b,N,sc,.BoolOp .Or [l,r] _=>!isRd a && !isRd b && mE a N sc l && mE b N sc r
  | .or a b,N,sc,.BoolOp .Or (l :: r :: r' :: rest) pos=>!isRd a && !isRd b && mE a N sc l && mE b N sc (.BoolOp .Or (r :: r' :: rest) pos)
  | .not a,N,sc,.UnaryOp .Not l _=>mE a N sc l
  | .ife c a b,N,sc,.IfExp l m r _=>!isRd a && !isRd b && mE c N sc l && mE a N sc m && mE b N sc r
  | .ix a b,N,sc,.Subscript l r _=>mE a N sc l && mE b N sc r
  | .sl a lo hi,N,sc,.Subscript l (.Slice p q none _) _=>mE a N sc l && (match p with | none=>isOmit lo | some p'=>!isRd lo && mE lo N sc p') && (match q with | none=>isOmit hi | some q'=>!isRd hi && mE hi N sc q')
  | .tup a,N,sc,.Tuple es _ _=>mA a false N sc es
  | .lst a,N,sc,.List es _=>mA a false N sc es
  | .call f a,N,sc,.Call (.Name n _) es [] _=>(Tx.dn[f]? == some n) && glB sc n && dbgB n && mA a false N sc es
  | .bt b a,N,sc,.Call (.Name n _) (e :: es) [] _=>b.use && (n == b.nm) && glB sc n && mA a true N sc (e :: es)
  | .mth m a b,N,sc,.Call (.Attribute o nm apos) [q] [] cpos=>(nm == m.nm) && baseX o && (apos.endLine == cpos.line) && !isRd a && mE a N sc o && mE b N sc q
  | .sset a,N,sc,.Call (.Name n _) [.Call (.Name m _) [q] [] _] [] _=>(n == "sorted") && (m == "set") && glB sc n && glB sc m && mE a N sc q
  | .lrng a,N,sc,.Call (.Name n _) [.Call (.Name m _) [q] [] _] [] _=>(n == "list") && (m == "range") && glB sc n && glB sc m && !isRd a && mE a N sc q
  | .maxd a b,N,sc,.Call (.Name n _) [q] [⟨some kn,r,_⟩] _=>(n == "max") && (kn == "default") && glB sc n && !isRd b && mE a N sc q && mE b N sc r
  | .isi a t,N,sc,.Call (.Name n _) [l,.Name m _] [] _=>(n == "isinstance") && (m == Str.ofString t.nm) && glB sc n && glB sc m && mE a N sc l
  | .comp own caps g elt src cond,N,sc,.ListComp pe [⟨tg,iter,ifs,isa⟩] scope _ =>
    (isa == 0) && scB sc scope && capB N scope caps && nodupB caps && nodupB (tgNames tg ++ capNames N caps) && (own == (tgNames tg).length) && g.below own && mG true (tgNames tg ++ capNames N caps) (relS scope sc) g tg &&
    mI src true N sc tg iter && !isRd elt && mE elt (tgNames tg ++ capNames N caps) (relS scope sc) pe &&
    (match ifs with
      | []=>isTrueC cond
      | [c]=>mE cond (tgNames tg ++ capNames N caps) (relS scope sc) c
      | _=>false)
  | _,_,_,_=>false
termination_by structural x=>x
noncomputable def mA:E → Bool → List Str → Scope → List Expr → Bool
  | .anil,_,_,_,[]=>true
  | .acons a r,rd,N,sc,p :: ps=>(rd || !isRd a) && mE a N sc p && mA r rd N sc ps
  | _,_,_,_,_=>false
termination_by structural x=>x
noncomputable def mI:E → Bool → List Str → Scope → Expr → Expr → Bool
  | .seq a,rd,N,sc,_,p=>(rd || !isRd a) && mE a N sc p
  | .rng a,_,N,sc,_,.Call (.Name n _) [p] [] _=>(n == "range") && glB sc n && !isRd a && mE a N sc p
  | .rng2 a b,_,N,sc,_,.Call (.Name n _) [p,q] [] _=>(n == "range") && glB sc n && !isRd a && !isRd b && mE a N sc p && mE b N sc q
  | .enum a,rd,N,sc,tg,.Call (.Name n _) [p] [] _=>(n == "enumerate") && glB sc n && isTupX tg && (rd || !isRd a) && mE a N sc p
  | _,_,_,_,_,_=>false
termination_by structural x=>x
end
end
end Tr
namespace Tr
open PySem PySem.Spec PyProof.Rows L2
section
variable {Tx:Txt} {N:List Str} {sc:Scope} {p tg:Expr}
theorem nof {P:Prop} (h:false = true):P:=absurd h Bool.false_ne_true
theorem and2 {a b:Bool} (h:(a && b) = true):a = true ∧ b = true:=by rw [Bool.and_eq_true] at h;exact h
theorem not1 {a:Bool} (h:(!a) = true):a = false:=by rw [Bool.not_eq_true'] at h;exact h
theorem beq1 {α:Type} [BEq α] [LawfulBEq α] {a b:α} (h:(a == b) = true):a = b:=eq_of_beq h
theorem i_var {i:Nat} (h:mE Tx (.var i) N sc p = true):∃ n pos,p = .Name n pos ∧ nameB N sc i n = true:=by
  cases p <;> first | exact nof h | exact ⟨_,_,rfl,h⟩
theorem i_rd {i:Nat} (h:mE Tx (.rd i) N sc p = true):∃ n pos,p = .Name n pos ∧ nameB N sc i n = true:=by
  cases p <;> first | exact nof h | exact ⟨_,_,rfl,h⟩
theorem i_con {d:D} (h:mE Tx (.con d) N sc p = true):∃ c k pos,p = .Constant c k pos ∧ cstIs d c = true:=by
  cases p <;> first | exact nof h | exact ⟨_,_,_,rfl,h⟩
theorem i_bin {o:Operator} {a b:E} (h:mE Tx (.bin o a b) N sc p = true):∃ l r pos,p = .BinOp l o r pos ∧ mE Tx a N sc l = true ∧ mE Tx b N sc r = true:=by
  cases p with
  | BinOp l o' r pos =>
    have h:=and2 (show ((o == o') && mE Tx a N sc l && mE Tx b N sc r) = true from h)
    have h1:=and2 h.1
    have e:o = o':=beq1 h1.1
    subst e
    exact ⟨l,r,pos,rfl,h1.2,h.2⟩
  | _=>exact nof h
theorem i_cmp {o:CmpOp} {a b:E} (h:mE Tx (.cmp o a b) N sc p = true):∃ l r pos,p = .Compare l [o] [r] pos ∧ mE Tx a N sc l = true ∧ mE Tx b N sc r = true:=by
  cases p with
  | Compare l os rs pos =>
    rcases os with _ | ⟨o',_ | ⟨o'',os⟩⟩
    · exact nof h
    · rcases rs with _ | ⟨r,_ | ⟨r',rs⟩⟩
      · exact nof h
      · have h:=and2 (show ((o == o') && mE Tx a N sc l && mE Tx b N sc r) = true from h)
        have h1:=and2 h.1
        have e:o = o':=beq1 h1.1
        subst e
        exact ⟨l,r,pos,rfl,h1.2,h.2⟩
      · exact nof h
    · exact nof h
  | _=>exact nof h
theorem i_chain {o o':CmpOp} {a b c:E} (h:mE Tx (.chain o o' a b c) N sc p = true):∃ l m r pos,p = .Compare l [o,o'] [m,r] pos ∧ mE Tx a N sc l = true ∧ mE Tx b N sc m = true ∧ mE Tx c N sc r = true:=by
  cases p with
  | Compare l os rs pos =>
    rcases os with _ | ⟨p1,_ | ⟨p2,_ | ⟨p3,os⟩⟩⟩
    · exact nof h
    · exact nof h
    · rcases rs with _ | ⟨r1,_ | ⟨r2,_ | ⟨r3,rs⟩⟩⟩
      · exact nof h
      · exact nof h
      · have h:=and2 (show ((o == p1) && (o' == p2) && mE Tx a N sc l && mE Tx b N sc r1 && mE Tx c N sc r2) = true from h)
        have h1:=and2 h.1
        have h2:=and2 h1.1
        have h3:=and2 h2.1
        have e:o = p1:=beq1 h3.1
        have e2:o' = p2:=beq1 h3.2
        subst e e2
        exact ⟨l,r1,r2,pos,rfl,h2.2,h1.2,h.2⟩
      · exact nof h
    · exact nof h
  | _=>exact nof h
theorem i_neg {a:E} (h:mE Tx (.neg a) N sc p = true):∃ l pos,p = .UnaryOp .USub l pos ∧ mE Tx a N sc l = true:=by
  cases p with
  | UnaryOp op l pos=>cases op <;> first | exact nof h | exact ⟨_,_,rfl,h⟩
  | _=>exact nof h
theorem i_and {a b:E} (h:mE Tx (.and a b) N sc p = true):∃ l r rest pos,p = .BoolOp .And (l :: r :: rest) pos ∧ isRd a = false ∧ isRd b = false ∧ mE Tx a N sc l = true ∧ ((rest = [] ∧ mE Tx b N sc r = true) ∨ (∃ r' rs,rest = r' :: rs ∧ mE Tx b N sc (.BoolOp .And (r :: rest) pos) = true)):=by
  cases p with
  | BoolOp op vs pos =>
    cases op with
    | Or=>exact nof h
    | And =>
      rcases vs with _ | ⟨l,_ | ⟨r,_ | ⟨r',rest⟩⟩⟩
      · exact nof h
      · exact nof h
      · have h:=and2 (show (!isRd a && !isRd b && mE Tx a N sc l && mE Tx b N sc r) = true from h)
        have h1:=and2 h.1
        have h2:=and2 h1.1
        exact ⟨l,r,[],pos,rfl,not1 h2.1,not1 h2.2,h1.2,.inl ⟨rfl,h.2⟩⟩
      · have h:=and2 (show (!isRd a && !isRd b && mE Tx a N sc l && mE Tx b N sc (.BoolOp .And (r :: r' :: rest) pos)) = true from h)
        have h1:=and2 h.1
        have h2:=and2 h1.1
        exact ⟨l,r,r' :: rest,pos,rfl,not1 h2.1,not1 h2.2,h1.2,.inr ⟨r',rest,rfl,h.2⟩⟩
  | _=>exact nof h
theorem i_or {a b:E} (h:mE Tx (.or a b) N sc p = true):∃ l r rest pos,p = .BoolOp .Or (l :: r :: rest) pos ∧ isRd a = false ∧ isRd b = false ∧ mE Tx a N sc l = true ∧ ((rest = [] ∧ mE Tx b N sc r = true) ∨ (∃ r' rs,rest = r' :: rs ∧ mE Tx b N sc (.BoolOp .Or (r :: rest) pos) = true)):=by
  cases p with
  | BoolOp op vs pos =>
    cases op with
    | And=>exact nof h
    | Or =>
      rcases vs with _ | ⟨l,_ | ⟨r,_ | ⟨r',rest⟩⟩⟩
      · exact nof h
      · exact nof h
      · have h:=and2 (show (!isRd a && !isRd b && mE Tx a N sc l && mE Tx b N sc r) = true from h)
        have h1:=and2 h.1
        have h2:=and2 h1.1
        exact ⟨l,r,[],pos,rfl,not1 h2.1,not1 h2.2,h1.2,.inl ⟨rfl,h.2⟩⟩
      · have h:=and2 (show (!isRd a && !isRd b && mE Tx a N sc l && mE Tx b N sc (.BoolOp .Or (r :: r' :: rest) pos)) = true from h)
        have h1:=and2 h.1
        have h2:=and2 h1.1
        exact ⟨l,r,r' :: rest,pos,rfl,not1 h2.1,not1 h2.2,h1.2,.inr ⟨r',rest,rfl,h.2⟩⟩
  | _=>exact nof h
theorem i_not {a:E} (h:mE Tx (.not a) N sc p = true):∃ l pos,p = .UnaryOp .Not l pos ∧ mE Tx a N sc l = true:=by
  cases p with
  | UnaryOp op l pos=>cases op <;> first | exact nof h | exact ⟨_,_,rfl,h⟩
  | _=>exact nof h
theorem i_ife {c a b:E} (h:mE Tx (.ife c a b) N sc p = true):∃ l m r pos,p = .IfExp l m r pos ∧ isRd a = false ∧ isRd b = false ∧ mE Tx c N sc l = true ∧ mE Tx a N sc m = true ∧ mE Tx b N sc r = true:=by
  cases p with
  | IfExp l m r pos =>
    have h:=and2 (show (!isRd a && !isRd b && mE Tx c N sc l && mE Tx a N sc m && mE Tx b N sc r) = true from h)
    have h1:=and2 h.1
    have h2:=and2 h1.1
    have h3:=and2 h2.1
    exact ⟨l,m,r,pos,rfl,not1 h3.1,not1 h3.2,h2.2,h1.2,h.2⟩
  | _=>exact nof h
theorem i_ix {a b:E} (h:mE Tx (.ix a b) N sc p = true):∃ l r pos,p = .Subscript l r pos ∧ mE Tx a N sc l = true ∧ mE Tx b N sc r = true:=by
  cases p with
  | Subscript l r pos =>
    have h:=and2 (show (mE Tx a N sc l && mE Tx b N sc r) = true from h)
    exact ⟨l,r,pos,rfl,h.1,h.2⟩
  | _=>exact nof h
theorem i_sl {a lo hi:E} (h:mE Tx (.sl a lo hi) N sc p = true):∃ l pl ph pos pos',p = .Subscript l (.Slice pl ph none pos') pos ∧ mE Tx a N sc l = true ∧ ((pl = none ∧ isOmit lo = true) ∨ ∃ q,pl = some q ∧ isRd lo = false ∧ mE Tx lo N sc q = true) ∧ ((ph = none ∧ isOmit hi = true) ∨ ∃ q,ph = some q ∧ isRd hi = false ∧ mE Tx hi N sc q = true):=by
  cases p with
  | Subscript l r pos =>
    cases r with
    | Slice pl ph st pos' =>
      cases st with
      | some _=>exact nof h
      | none =>
        refine ⟨l,pl,ph,pos,pos',rfl,?_⟩
        cases pl with
        | none =>
          cases ph with
          | none =>
            have h:=and2 (show (mE Tx a N sc l && isOmit lo && isOmit hi) = true from h)
            exact ⟨(and2 h.1).1,.inl ⟨rfl,(and2 h.1).2⟩,.inl ⟨rfl,h.2⟩⟩
          | some q =>
            have h:=and2 (show (mE Tx a N sc l && isOmit lo && (!isRd hi && mE Tx hi N sc q)) = true from h)
            exact ⟨(and2 h.1).1,.inl ⟨rfl,(and2 h.1).2⟩,.inr ⟨q,rfl,not1 (and2 h.2).1,(and2 h.2).2⟩⟩
        | some q0 =>
          cases ph with
          | none =>
            have h:=and2 (show (mE Tx a N sc l && (!isRd lo && mE Tx lo N sc q0) && isOmit hi) = true from h)
            exact ⟨(and2 h.1).1,.inr ⟨q0,rfl,not1 (and2 (and2 h.1).2).1,(and2 (and2 h.1).2).2⟩,.inl ⟨rfl,h.2⟩⟩
          | some q =>
            have h:=and2 (show (mE Tx a N sc l && (!isRd lo && mE Tx lo N sc q0) && (!isRd hi && mE Tx hi N sc q)) = true from h)
            exact ⟨(and2 h.1).1,.inr ⟨q0,rfl,not1 (and2 (and2 h.1).2).1,(and2 (and2 h.1).2).2⟩,.inr ⟨q,rfl,not1 (and2 h.2).1,(and2 h.2).2⟩⟩
    | _=>exact nof h
  | _=>exact nof h
theorem i_tup {a:E} (h:mE Tx (.tup a) N sc p = true):∃ es k pos,p = .Tuple es k pos ∧ mA Tx a false N sc es = true:=by
  cases p <;> first | exact nof h | exact ⟨_,_,_,rfl,h⟩
theorem i_lst {a:E} (h:mE Tx (.lst a) N sc p = true):∃ es pos,p = .List es pos ∧ mA Tx a false N sc es = true:=by
  cases p <;> first | exact nof h | exact ⟨_,_,rfl,h⟩
theorem i_call {f:Nat} {a:E} (h:mE Tx (.call f a) N sc p = true):∃ n pn es pos,p = .Call (.Name n pn) es [] pos ∧ (Tx.dn[f]? == some n && glB sc n && dbgB n && mA Tx a false N sc es) = true:=by
  cases p with
  | Call fn es ks pos =>
    cases fn with
    | Name n pn=>cases ks with
      | nil=>exact ⟨n,pn,es,pos,rfl,h⟩
      | cons _ _=>exact nof h
    | _=>exact nof h
  | _=>exact nof h
theorem i_bt {b:Bt} {a:E} (h:mE Tx (.bt b a) N sc p = true):∃ n pn e es pos,p = .Call (.Name n pn) (e :: es) [] pos ∧ (b.use && (n == b.nm) && glB sc n && mA Tx a true N sc (e :: es)) = true:=by
  cases p with
  | Call fn es ks pos =>
    cases fn with
    | Name n pn=>cases es with
      | nil=>exact nof h
      | cons e es=>cases ks with
        | nil=>exact ⟨n,pn,e,es,pos,rfl,h⟩
        | cons _ _=>exact nof h
    | _=>exact nof h
  | _=>exact nof h
theorem i_mth {m:Mt} {a b:E} (h:mE Tx (.mth m a b) N sc p = true):∃ o nm apos q cpos,p = .Call (.Attribute o nm apos) [q] [] cpos ∧ ((nm == m.nm) && baseX o && (apos.endLine == cpos.line) && !isRd a && mE Tx a N sc o && mE Tx b N sc q) = true:=by
  cases p with
  | Call fn es ks pos =>
    cases fn with
    | Attribute o nm apos =>
      rcases es with _ | ⟨q,_ | ⟨q',es⟩⟩
      · exact nof h
      · cases ks with
        | nil=>exact ⟨o,nm,apos,q,pos,rfl,h⟩
        | cons _ _=>exact nof h
      · exact nof h
    | _=>exact nof h
  | _=>exact nof h
theorem i_sset {a:E} (h:mE Tx (.sset a) N sc p = true):∃ n pn m pm q pos2 pos,p = .Call (.Name n pn) [.Call (.Name m pm) [q] [] pos2] [] pos ∧ ((n == "sorted") && (m == "set") && glB sc n && glB sc m && mE Tx a N sc q) = true:=by
  cases p with
  | Call fn es ks pos =>
    cases fn with
    | Name n pn =>
      rcases es with _ | ⟨c,_ | ⟨c',es⟩⟩
      · exact nof h
      · cases c with
        | Call f2 es2 ks2 pos2=>cases f2 with
          | Name m pm =>
            rcases es2 with _ | ⟨q,_ | ⟨q',es2⟩⟩
            · exact nof h
            · cases ks2 with
              | nil=>cases ks with
                | nil=>exact ⟨n,pn,m,pm,q,pos2,pos,rfl,h⟩
                | cons _ _=>exact nof h
              | cons _ _=>exact nof h
            · exact nof h
          | _=>exact nof h
        | _=>exact nof h
      · exfalso
        cases c with
        | Call f2 es2 ks2 pos2 =>
          cases f2 <;> first | exact nof h | (rcases es2 with _ | ⟨q,_ | ⟨q',es2⟩⟩ <;> first | exact nof h | (cases ks2 <;> exact nof h))
        | _=>exact nof h
    | _=>exact nof h
  | _=>exact nof h
theorem i_lrng {a:E} (h:mE Tx (.lrng a) N sc p = true):∃ n pn m pm q pos2 pos,p = .Call (.Name n pn) [.Call (.Name m pm) [q] [] pos2] [] pos ∧ ((n == "list") && (m == "range") && glB sc n && glB sc m && !isRd a && mE Tx a N sc q) = true:=by
  cases p with
  | Call fn es ks pos =>
    cases fn with
    | Name n pn =>
      rcases es with _ | ⟨c,_ | ⟨c',es⟩⟩
      · exact nof h
      · cases c with
        | Call f2 es2 ks2 pos2=>cases f2 with
          | Name m pm =>
            rcases es2 with _ | ⟨q,_ | ⟨q',es2⟩⟩
            · exact nof h
            · cases ks2 with
              | nil=>cases ks with
                | nil=>exact ⟨n,pn,m,pm,q,pos2,pos,rfl,h⟩
                | cons _ _=>exact nof h
              | cons _ _=>exact nof h
            · exact nof h
          | _=>exact nof h
        | _=>exact nof h
      · exfalso
        cases c with
        | Call f2 es2 ks2 pos2 =>
          cases f2 <;> first | exact nof h | (rcases es2 with _ | ⟨q,_ | ⟨q',es2⟩⟩ <;> first | exact nof h | (cases ks2 <;> exact nof h))
        | _=>exact nof h
    | _=>exact nof h
  | _=>exact nof h
theorem i_maxd {a b:E} (h:mE Tx (.maxd a b) N sc p = true):∃ n pn q kn r kp pos,p = .Call (.Name n pn) [q] [⟨some kn,r,kp⟩] pos ∧ ((n == "max") && (kn == "default") && glB sc n && !isRd b && mE Tx a N sc q && mE Tx b N sc r) = true:=by
  cases p with
  | Call fn es ks pos =>
    cases fn with
    | Name n pn =>
      rcases es with _ | ⟨q,_ | ⟨q',es⟩⟩
      · exact nof h
      · rcases ks with _ | ⟨⟨kn,r,kp⟩,_ | ⟨k',ks⟩⟩
        · exact nof h
        · cases kn with
          | none=>exact nof h
          | some kn=>exact ⟨n,pn,q,kn,r,kp,pos,rfl,h⟩
        · cases kn <;> exact nof h
      · exact nof h
    | _=>exact nof h
  | _=>exact nof h
theorem i_isi {a:E} {t:Ty} (h:mE Tx (.isi a t) N sc p = true):∃ n pn l m pm pos,p = .Call (.Name n pn) [l,.Name m pm] [] pos ∧ ((n == "isinstance") && (m == Str.ofString t.nm) && glB sc n && glB sc m && mE Tx a N sc l) = true:=by
  cases p with
  | Call fn es ks pos =>
    cases fn with
    | Name n pn =>
      rcases es with _ | ⟨l,_ | ⟨m,_ | ⟨m',es⟩⟩⟩
      · exact nof h
      · exact nof h
      · cases m with
        | Name m pm=>cases ks with
          | nil=>exact ⟨n,pn,l,m,pm,pos,rfl,h⟩
          | cons _ _=>exact nof h
        | _=>exact nof h
      · cases m <;> exact nof h
    | _=>exact nof h
  | _=>exact nof h
end
end Tr
namespace Tr
open PySem PySem.Spec PyProof.Rows L2
noncomputable def bltNames:List Str:=["len", "sum", "tuple", "list", "int", "str", "isinstance", "range", "enumerate", "bool", "abs", "min", "max", "all", "any", "set", "zip", "sorted"]
set_option genInjectivity false in
structure OkX (T:Tab) (cf:Nat → List D → Res D) (Tx:Txt) (X:Cx):Prop where
  calm:X.calm = true
  roomy:Roomy X
  defs:∀ f n,Tx.dn[f]? = some n → DefIs T cf X f n
  globs:∀ g n,Tx.gn[g]? = some n → GlobIs X n (T.glob g)
  blt:∀ n ∈ bltNames,X.mg n = none
  nd:X.N.Nodup
  tf:∀ q ∈ Tx.tf,TabF T cf X q.1 q.2
  ts:∀ q ∈ Tx.ts,TabS X q.1 q.2
section
variable {T:Tab} {cf:Nat → List D → Res D} {Tx:Txt} {X:Cx}
theorem name_of {i:Nat} {n:Str} {N:List Str} {sc:Scope} (h:nameB N sc i n = true):N[i]? = some n ∧ Vis sc n ∧ (n == ("__debug__" : Str)) = false ∧ (n == ("__classdict__" : Str)) = false:=by
  simp only [nameB,visB,dbgB,Bool.and_eq_true,Bool.or_eq_true,Bool.not_eq_true',beq_iff_eq] at h
  refine ⟨h.1.1,?_,h.2.1,h.2.2⟩
  rcases h.1.2 with (z | z) | z
  · exact .inl z
  · exact .inr (.inl z)
  · exact .inr (.inr z)
theorem gl_of {n:Str} (h:glB X.env.scope n = true):Gl X n:=by
  have h':X.env.scope.names.lookup n = some .globalImplicit:=by simpa [glB] using h
  exact h'
noncomputable def isBoolX:Expr → Bool
  | .BoolOp _ _ _=>true
  | _=>false
theorem dbg_of {n:Str} (h:dbgB n = true):(n == ("__debug__" : Str)) = false:=by
  simp only [dbgB,Bool.and_eq_true,Bool.not_eq_true'] at h
  exact h.1
theorem sgs_of {loc:Bool} (hN:X.N.Nodup) (hf:∀ n,loc = false → X.fn n = true):∀ {is:List Nat} {es:List Expr},mGs loc X.N X.env.scope is es = true → SGs X is es ∧ names1 es = true ∧ es.length = is.length
  | [],[],_=>⟨sgs_nil,rfl,rfl⟩
  | [],_ :: _,h=>by exact nof h
  | _ :: _,[],h=>by exact nof h
  | i :: is,e :: es,h=>by
    cases e with
    | Name n pos =>
      simp only [mGs,Bool.and_eq_true,Bool.or_eq_true,beq_iff_eq,Bool.not_eq_true'] at h
      obtain ⟨⟨h1,h2⟩,h3⟩:=h
      obtain ⟨a1,a2,a3⟩:=sgs_of hN hf h3
      refine ⟨sgs_cons hN h1 ?_ ?_ a1,a2,by rw [List.length_cons,List.length_cons,a3]⟩
      · rcases h2 with z | z
        · exact .inl z
        · exact .inr z.2
      · rcases h2 with z | z
        · exact .inr z
        · exact .inl (hf n z.1)
    | _=>exact nof h
theorem sg_of {loc:Bool} {g:G} {tg:Expr} (hc:X.calm = true) (hN:X.N.Nodup) (hf:∀ n,loc = false → X.fn n = true) (h:mG loc X.N X.env.scope g tg = true):SG X g tg ∧ plainX tg = true:=by
  cases g with
  | one i =>
    cases tg with
    | Name n pos =>
      simp only [mG,Bool.and_eq_true,Bool.or_eq_true,beq_iff_eq,Bool.not_eq_true'] at h
      refine ⟨sg_one hN h.1 ?_ ?_,rfl⟩
      · rcases h.2 with z | z
        · exact .inl z
        · exact .inr z.2
      · rcases h.2 with z | z
        · exact .inr z
        · exact .inl (hf n z.1)
    | _=>exact nof h
  | many is =>
    cases tg with
    | Tuple es k pos =>
      obtain ⟨a1,a2,a3⟩:=sgs_of hN hf h
      exact ⟨sg_many hc a2 a3 a1,rfl⟩
    | _=>exact nof h
noncomputable def PEx (T:Tab) (cf:Nat → List D → Res D) (Tx:Txt) (x:E):Prop:=∀ X p,OkX T cf Tx X → mE Tx x X.N X.env.scope p = true → SR T cf X x p ∧ (isRd x = false → SE T cf X x p) ∧ ST T cf X x p ∧ plainX p = true ∧ (isBoolX p = true → SW T cf X x p)
noncomputable def PAx (T:Tab) (cf:Nat → List D → Res D) (Tx:Txt) (x:E):Prop:=∀ X rd ps,OkX T cf Tx X → mA Tx x rd X.N X.env.scope ps = true → SAr T cf X x ps ∧ (rd = false → SAv T cf X x ps) ∧ ps.all plainX = true
noncomputable def PIx (T:Tab) (cf:Nat → List D → Res D) (Tx:Txt) (x:E):Prop:=∀ X rd tg p,OkX T cf Tx X → mI Tx x rd X.N X.env.scope tg p = true → SI T cf X tg x rd p ∧ plainX p = true
theorem noA {x:E} (h:∀ rd N sc ps,mA Tx x rd N sc ps = false):PAx T cf Tx x:=fun X rd ps _ m=>by rw [h] at m;cases m
theorem noI {x:E} (h:∀ rd N sc tg p,mI Tx x rd N sc tg p = false):PIx T cf Tx x:=fun X rd tg p _ m=>by rw [h] at m;cases m
theorem noE {x:E} (h:∀ N sc p,mE Tx x N sc p = false):PEx T cf Tx x:=fun X p _ m=>by rw [h] at m;cases m
theorem of_se {x:E} {p:Expr} (h:SE T cf X x p) (he:∀ whole,isTrue p X.env whole = (do let v ← whole;standAt p.pos;holding [v] (truthy v))) (hp:plainX p = true) (hb:isBoolX p = false:=by rfl):SR T cf X x p ∧ (isRd x = false → SE T cf X x p) ∧ ST T cf X x p ∧ plainX p = true ∧ (isBoolX p = true → SW T cf X x p) :=
  ⟨h.sr,fun _=>h,st_gen h.sr he,hp,fun z=>by rw [hb] at z;cases z⟩
theorem okC (ok:OkX T cf Tx X) {scope:Scope} {C:Addr} {Nc:List Str} {s2:Shared} {H2:Hp} {fp:List Addr} (h:Nc.Nodup):OkX T cf Tx (cxC X scope C Nc s2 H2 fp) :=
  ⟨ok.calm,ok.roomy,ok.defs,ok.globs,ok.blt,h,ok.tf,ok.ts⟩
theorem scC_of {scope:Scope} (h:scB X.env.scope scope = true):ScopeC X scope:=by
  simp only [scB,Bool.and_eq_true,List.all_eq_true,Bool.or_eq_true,Bool.not_eq_true',beq_iff_eq,beq_eq_false_iff_ne,ne_eq] at h
  obtain ⟨⟨⟨h1,h2⟩,h3⟩,h4⟩:=h
  refine ⟨h1,h2,fun x hx e=>?_,fun x hx e=>?_,fun x hx e=>?_⟩
  · rcases h3 x hx with z | z
    · exact absurd e z
    · exact z
  · rcases h4 x hx with z | z
    · exact absurd e z
    · exact z.1
  · rcases h4 x hx with z | z
    · exact absurd e z
    · exact z.2
theorem capsOk {scope:Scope} {caps:List Nat} {own:Nat} {tn:List Str} (h:capB X.N scope caps = true) (hn:nodupB caps = true) (ho:own = tn.length):CapsOk X scope own caps (tn ++ capNames X.N caps):=by
  refine ⟨by rw [List.length_append,ho,capNames,List.length_map],nodup_of hn,fun j i hj=>?_⟩
  simp only [capB,List.all_eq_true] at h
  have:=h i (List.mem_of_getElem? hj)
  cases e:X.N[i]? with
  | none=>rw [e] at this;cases this
  | some n =>
    rw [e] at this
    refine ⟨n,rfl,?_,by simpa using this⟩
    rw [ho,List.getElem?_append_right (by (first | lia | omega)),show tn.length + j - tn.length = j by (first | lia | omega),capNames,List.getElem?_map,hj]
    simp [e]
theorem i_rng {a:E} {rd:Bool} {N:List Str} {sc:Scope} {tg p:Expr} (h:mI Tx (.rng a) rd N sc tg p = true):∃ n pn q pos,p = .Call (.Name n pn) [q] [] pos ∧ ((n == "range") && glB sc n && !isRd a && mE Tx a N sc q) = true:=by
  cases p with
  | Call fn es ks pos =>
    cases fn with
    | Name n pn =>
      rcases es with _ | ⟨q,_ | ⟨q',es⟩⟩
      · exact nof h
      · cases ks with
        | nil=>exact ⟨n,pn,q,pos,rfl,h⟩
        | cons _ _=>exact nof h
      · exact nof h
    | _=>exact nof h
  | _=>exact nof h
theorem i_rng2 {a b:E} {rd:Bool} {N:List Str} {sc:Scope} {tg p:Expr} (h:mI Tx (.rng2 a b) rd N sc tg p = true):∃ n pn q r pos,p = .Call (.Name n pn) [q,r] [] pos ∧ ((n == "range") && glB sc n && !isRd a && !isRd b && mE Tx a N sc q && mE Tx b N sc r) = true:=by
  cases p with
  | Call fn es ks pos =>
    cases fn with
    | Name n pn =>
      rcases es with _ | ⟨q,_ | ⟨r,_ | ⟨q',es⟩⟩⟩
      · exact nof h
      · exact nof h
      · cases ks with
        | nil=>exact ⟨n,pn,q,r,pos,rfl,h⟩
        | cons _ _=>exact nof h
      · exact nof h
    | _=>exact nof h
  | _=>exact nof h
theorem i_enum {a:E} {rd:Bool} {N:List Str} {sc:Scope} {tg p:Expr} (h:mI Tx (.enum a) rd N sc tg p = true):∃ n pn q pos,p = .Call (.Name n pn) [q] [] pos ∧ ((n == "enumerate") && glB sc n && isTupX tg && (rd || !isRd a) && mE Tx a N sc q) = true:=by
  cases p with
  | Call fn es ks pos =>
    cases fn with
    | Name n pn =>
      rcases es with _ | ⟨q,_ | ⟨q',es⟩⟩
      · exact nof h
      · cases ks with
        | nil=>exact ⟨n,pn,q,pos,rfl,h⟩
        | cons _ _=>exact nof h
      · exact nof h
    | _=>exact nof h
  | _=>exact nof h
theorem i_comp {own:Nat} {caps:List Nat} {g:G} {elt src cond:E} {N:List Str} {sc:Scope} {p:Expr} (h:mE Tx (.comp own caps g elt src cond) N sc p = true):∃ pe tg iter ifs scope pos,p = .ListComp pe [⟨tg,iter,ifs,0⟩] scope pos ∧
    scB sc scope = true ∧ capB N scope caps = true ∧ nodupB caps = true ∧ nodupB (tgNames tg ++ capNames N caps) = true ∧ own = (tgNames tg).length ∧ g.below own = true ∧ mG true (tgNames tg ++ capNames N caps) (relS scope sc) g tg = true ∧
    mI Tx src true N sc tg iter = true ∧ isRd elt = false ∧ mE Tx elt (tgNames tg ++ capNames N caps) (relS scope sc) pe = true ∧
    ((ifs = [] ∧ isTrueC cond = true) ∨ ∃ c,ifs = [c] ∧ mE Tx cond (tgNames tg ++ capNames N caps) (relS scope sc) c = true):=by
  cases p with
  | ListComp pe gens scope pos =>
    rcases gens with _ | ⟨⟨tg,iter,ifs,isa⟩,_ | ⟨g2,gens⟩⟩
    · exact nof h
    · change (_ && _) = true at h;simp only [Bool.and_eq_true,Bool.not_eq_true',beq_iff_eq] at h
      obtain ⟨⟨⟨⟨⟨⟨⟨⟨⟨⟨⟨a1,a2⟩,a3⟩,a4⟩,a5⟩,a6⟩,a7⟩,a8⟩,a9⟩,a10⟩,a11⟩,a12⟩:=h
      subst a1
      refine ⟨pe,tg,iter,ifs,scope,pos,rfl,a2,a3,a4,a5,a6,a7,a8,a9,a10,a11,?_⟩
      rcases ifs with _ | ⟨c,_ | ⟨c',ifs⟩⟩
      · exact .inl ⟨rfl,a12⟩
      · exact .inr ⟨c,rfl,a12⟩
      · cases a12
    · exact nof h
  | _=>exact nof h
theorem comp_parts {own:Nat} {caps:List Nat} {g:G} {elt src cond:E} {pe tg iter:Expr} {ifs:List Expr} {scope:Scope} (ok:OkX T cf Tx X) (ie:PEx T cf Tx elt) (is:PIx T cf Tx src) (ic:PEx T cf Tx cond)
    (a2:scB X.env.scope scope = true) (a3:capB X.N scope caps = true) (a4:nodupB caps = true) (a5:nodupB (tgNames tg ++ capNames X.N caps) = true) (a6:own = (tgNames tg).length) (a8:mG true (tgNames tg ++ capNames X.N caps) (relS scope X.env.scope) g tg = true)
    (a9:mI Tx src true X.N X.env.scope tg iter = true) (a10:isRd elt = false) (a11:mE Tx elt (tgNames tg ++ capNames X.N caps) (relS scope X.env.scope) pe = true)
    (a12:(ifs = [] ∧ isTrueC cond = true) ∨ ∃ c,ifs = [c] ∧ mE Tx cond (tgNames tg ++ capNames X.N caps) (relS scope X.env.scope) c = true) :
    ScopeC X scope ∧ CapsOk X scope own caps (tgNames tg ++ capNames X.N caps) ∧ plainX iter = true ∧ SI T cf X tg src true iter ∧
    ∀ C s2 H2 fp,(cxC X scope C (tgNames tg ++ capNames X.N caps) s2 H2 fp).Ok → SG (cxC X scope C (tgNames tg ++ capNames X.N caps) s2 H2 fp) g tg ∧ SE T cf (cxC X scope C (tgNames tg ++ capNames X.N caps) s2 H2 fp) elt pe ∧ testsIs ifs cond (ST T cf (cxC X scope C (tgNames tg ++ capNames X.N caps) s2 H2 fp) cond):=by
  obtain ⟨s1,s2⟩:=is X true tg iter ok a9
  refine ⟨scC_of a2,capsOk a3 a4 a6,s2,s1,fun C s2 H2 fp _=>?_⟩
  have okc:OkX T cf Tx (cxC X scope C (tgNames tg ++ capNames X.N caps) s2 H2 fp):=okC ok (nodup_of a5)
  refine ⟨(sg_of (X:=cxC X scope C (tgNames tg ++ capNames X.N caps) s2 H2 fp) ok.calm okc.nd (fun n z=>by cases z) a8).1,(ie _ _ okc a11).2.1 a10,?_⟩
  rcases a12 with ⟨z1,z2⟩ | ⟨c,z1,z2⟩
  · refine .inl ⟨z1,?_⟩
    unfold isTrueC at z2
    split at z2
    · rfl
    · cases z2
  · exact .inr ⟨c,z1,(ic _ _ okc z2).2.2.1⟩
theorem wholeE:∀ x:E,PEx T cf Tx x ∧ PAx T cf Tx x ∧ PIx T cf Tx x:=by
  intro x
  induction x with
  | var i =>
    refine ⟨fun X p ok h=>?_,noA fun rd N sc ps=>rfl,noI fun rd N sc tg p=>rfl⟩
    obtain ⟨n,pos,rfl,hn⟩:=i_var h
    obtain ⟨a1,a2,a3,a4⟩:=name_of hn
    exact of_se (se_var a1 a2 a3 a4) (fun _=>rfl) rfl
  | rd i =>
    refine ⟨fun X p ok h=>?_,noA fun rd N sc ps=>rfl,noI fun rd N sc tg p=>rfl⟩
    obtain ⟨n,pos,rfl,hn⟩:=i_rd h
    obtain ⟨a1,a2,a3,a4⟩:=name_of hn
    exact ⟨sr_rd a1 a2 a3 a4,(fun z=>by cases z),st_gen (sr_rd a1 a2 a3 a4) (fun _=>rfl),rfl,fun z=>by cases z⟩
  | con d =>
    refine ⟨fun X p ok h=>?_,noA fun rd N sc ps=>rfl,noI fun rd N sc tg p=>rfl⟩
    obtain ⟨c,k,pos,rfl,hn⟩:=i_con h
    exact of_se (se_con hn) (fun _=>rfl) rfl
  | glob g=>exact ⟨noE fun N sc p=>rfl,noA fun rd N sc ps=>rfl,noI fun rd N sc tg p=>rfl⟩
  | bin o a b iha ihb =>
    refine ⟨fun X p ok h=>?_,noA fun rd N sc ps=>rfl,noI fun rd N sc tg p=>rfl⟩
    obtain ⟨l,r,pos,rfl,h1,h2⟩:=i_bin h
    exact of_se (se_bin (iha.1 X l ok h1).1 (ihb.1 X r ok h2).1) (fun _=>rfl) rfl
  | cmp o a b iha ihb =>
    refine ⟨fun X p ok h=>?_,noA fun rd N sc ps=>rfl,noI fun rd N sc tg p=>rfl⟩
    obtain ⟨l,r,pos,rfl,h1,h2⟩:=i_cmp h
    have hb:=ihb.1 X r ok h2
    have se:=se_cmp (o:=o) (pos:=pos) ok.roomy hb.2.2.2.1 (iha.1 X l ok h1).1 hb.1
    exact ⟨se.sr,fun _=>se,st_cmp ok.roomy hb.2.2.2.1 (iha.1 X l ok h1).1 hb.1,rfl,fun z=>by cases z⟩
  | chain o o' a b c iha ihb ihc =>
    refine ⟨fun X p ok h=>?_,noA fun rd N sc ps=>rfl,noI fun rd N sc tg p=>rfl⟩
    obtain ⟨l,m,r,pos,rfl,h1,h2,h3⟩:=i_chain h
    have hc:=ihc.1 X r ok h3
    have se:=se_chain (o:=o) (o':=o') (pos:=pos) ok.roomy hc.2.2.2.1 (iha.1 X l ok h1).1 (ihb.1 X m ok h2).1 hc.1
    exact ⟨se.sr,fun _=>se,st_chain ok.roomy hc.2.2.2.1 (iha.1 X l ok h1).1 (ihb.1 X m ok h2).1 hc.1,rfl,fun z=>by cases z⟩
  | dnew=>exact ⟨noE fun N sc p=>rfl,noA fun rd N sc ps=>rfl,noI fun rd N sc tg p=>rfl⟩
  | dnewT=>exact ⟨noE fun N sc p=>rfl,noA fun rd N sc ps=>rfl,noI fun rd N sc tg p=>rfl⟩
  | getT i a b iha ihb=>exact ⟨noE fun N sc p=>rfl,noA fun rd N sc ps=>rfl,noI fun rd N sc tg p=>rfl⟩
  | and a b iha ihb =>
    refine ⟨fun X p ok h=>?_,noA fun rd N sc ps=>rfl,noI fun rd N sc tg p=>rfl⟩
    obtain ⟨l,r,rest,pos,rfl,ra,rb,h1,h2⟩:=i_and h
    obtain ⟨_,sa,ta,_⟩:=iha.1 X l ok h1
    have sb:SE T cf X b (.BoolOp .And (r :: rest) pos) ∧ SW T cf X b (.BoolOp .And (r :: rest) pos):=by
      rcases h2 with ⟨rfl,h2⟩ | ⟨r',rs,rfl,h2⟩
      · obtain ⟨_,b1,b2,_⟩:=ihb.1 X r ok h2
        exact ⟨se_one (b1 rb),sw_and1 b2⟩
      · obtain ⟨_,b1,b2,_,b5⟩:=ihb.1 X _ ok h2
        exact ⟨b1 rb,b5 rfl⟩
    exact ⟨(se_and (sa ra) sb.1).sr,fun _=>se_and (sa ra) sb.1,(sw_and ta sb.2).st,rfl,fun _=>sw_and ta sb.2⟩
  | or a b iha ihb =>
    refine ⟨fun X p ok h=>?_,noA fun rd N sc ps=>rfl,noI fun rd N sc tg p=>rfl⟩
    obtain ⟨l,r,rest,pos,rfl,ra,rb,h1,h2⟩:=i_or h
    obtain ⟨_,sa,ta,_⟩:=iha.1 X l ok h1
    have sb:SE T cf X b (.BoolOp .Or (r :: rest) pos) ∧ SW T cf X b (.BoolOp .Or (r :: rest) pos):=by
      rcases h2 with ⟨rfl,h2⟩ | ⟨r',rs,rfl,h2⟩
      · obtain ⟨_,b1,b2,_⟩:=ihb.1 X r ok h2
        exact ⟨se_one (b1 rb),sw_or1 b2⟩
      · obtain ⟨_,b1,b2,_,b5⟩:=ihb.1 X _ ok h2
        exact ⟨b1 rb,b5 rfl⟩
    exact ⟨(se_or (sa ra) sb.1).sr,fun _=>se_or (sa ra) sb.1,(sw_or ta sb.2).st,rfl,fun _=>sw_or ta sb.2⟩
  | not a iha =>
    refine ⟨fun X p ok h=>?_,noA fun rd N sc ps=>rfl,noI fun rd N sc tg p=>rfl⟩
    obtain ⟨l,pos,rfl,h1⟩:=i_not h
    obtain ⟨a1,_,a3,_,_⟩:=iha.1 X l ok h1
    exact ⟨(se_not a3 a1).sr,fun _=>se_not a3 a1,st_not a3,rfl,fun z=>by cases z⟩
  | neg a iha =>
    refine ⟨fun X p ok h=>?_,noA fun rd N sc ps=>rfl,noI fun rd N sc tg p=>rfl⟩
    obtain ⟨l,pos,rfl,h1⟩:=i_neg h
    exact of_se (se_neg (iha.1 X l ok h1).1) (fun _=>rfl) rfl
  | ife c a b ihc iha ihb =>
    refine ⟨fun X p ok h=>?_,noA fun rd N sc ps=>rfl,noI fun rd N sc tg p=>rfl⟩
    obtain ⟨l,m,r,pos,rfl,ra,rb,h1,h2,h3⟩:=i_ife h
    have se:=se_ife (pos:=pos) (ihc.1 X l ok h1).2.2.1 ((iha.1 X m ok h2).2.1 ra) ((ihb.1 X r ok h3).2.1 rb)
    exact ⟨se.sr,fun _=>se,st_ife (ihc.1 X l ok h1).2.2.1 (iha.1 X m ok h2).2.2.1 (ihb.1 X r ok h3).2.2.1,rfl,fun z=>by cases z⟩
  | ix a b iha ihb =>
    refine ⟨fun X p ok h=>?_,noA fun rd N sc ps=>rfl,noI fun rd N sc tg p=>rfl⟩
    obtain ⟨l,r,pos,rfl,h1,h2⟩:=i_ix h
    have hb:=ihb.1 X r ok h2
    exact of_se (se_ix ok.roomy hb.2.2.2.1 (iha.1 X l ok h1).1 hb.1) (fun _=>rfl) rfl
  | sl a lo hi iha ihl ihh =>
    refine ⟨fun X p ok h=>?_,noA fun rd N sc ps=>rfl,noI fun rd N sc tg p=>rfl⟩
    obtain ⟨l,pl,ph,pos,pos',rfl,h1,h2,h3⟩:=i_sl h
    have part:∀ {y:E} {q:Option Expr},PEx T cf Tx y → ((q = none ∧ isOmit y = true) ∨ ∃ r,q = some r ∧ isRd y = false ∧ mE Tx y X.N X.env.scope r = true) → SO T cf X y q:=by
      intro y q ih hq
      rcases hq with ⟨rfl,z⟩ | ⟨r,rfl,z1,z2⟩
      · unfold isOmit at z
        split at z
        · exact so_omit
        · cases z
      · exact so_some ((ih X r ok z2).2.1 z1)
    exact of_se (se_sl (iha.1 X l ok h1).1 (part ihl.1 h2) (part ihh.1 h3)) (fun _=>rfl) rfl
  | «omit»=>exact ⟨noE fun N sc p=>rfl,noA fun rd N sc ps=>rfl,noI fun rd N sc tg p=>rfl⟩
  | tup a iha =>
    refine ⟨fun X p ok h=>?_,noA fun rd N sc ps=>rfl,noI fun rd N sc tg p=>rfl⟩
    obtain ⟨es,k,pos,rfl,h1⟩:=i_tup h
    exact of_se (se_tup ((iha.2.1 X false es ok h1).2.1 rfl)) (fun _=>rfl) rfl
  | lst a iha =>
    refine ⟨fun X p ok h=>?_,noA fun rd N sc ps=>rfl,noI fun rd N sc tg p=>rfl⟩
    obtain ⟨es,pos,rfl,h1⟩:=i_lst h
    exact of_se (se_lst ((iha.2.1 X false es ok h1).2.1 rfl)) (fun _=>rfl) rfl
  | anil =>
    refine ⟨noE fun N sc p=>rfl,fun X rd ps ok h=>?_,noI fun rd N sc tg p=>rfl⟩
    cases ps with
    | nil=>exact ⟨sar_nil,fun _=>sav_nil,rfl⟩
    | cons _ _=>exact nof h
  | acons a r iha ihr =>
    refine ⟨noE fun N sc p=>rfl,fun X rd ps ok h=>?_,noI fun rd N sc tg p=>rfl⟩
    cases ps with
    | nil=>exact nof h
    | cons p ps =>
      change (_ && _) = true at h;simp only [Bool.and_eq_true,Bool.or_eq_true,Bool.not_eq_true'] at h
      obtain ⟨a1,a2,_,a4,_⟩:=iha.1 X p ok h.1.2
      obtain ⟨b1,b2,b3⟩:=ihr.2.1 X rd ps ok h.2
      refine ⟨sar_cons a4 a1 b1,fun z=>sav_cons a4 (a2 ?_) (b2 z),by rw [List.all_cons,a4,b3];rfl⟩
      rcases h.1.1 with q | q
      · rw [z] at q;cases q
      · exact q
  | call f a iha =>
    refine ⟨fun X p ok h=>?_,noA fun rd N sc ps=>rfl,noI fun rd N sc tg p=>rfl⟩
    obtain ⟨n,pn,es,pos,rfl,hn⟩:=i_call h
    simp only [Bool.and_eq_true,beq_iff_eq] at hn
    obtain ⟨_,b2,b3⟩:=iha.2.1 X false es ok hn.2
    cases es with
    | nil =>
      cases a with
      | anil=>exact of_se (se_call0 (ok.defs f n hn.1.1.1) (gl_of hn.1.1.2) (dbg_of hn.1.2)) (fun _=>rfl) rfl
      | _=>exact nof hn.2
    | cons e es=>exact of_se (se_call (ok.defs f n hn.1.1.1) (gl_of hn.1.1.2) (dbg_of hn.1.2) b3 (b2 rfl)) (fun _=>rfl) rfl
  | callB f a iha=>exact ⟨noE fun N sc p=>rfl,noA fun rd N sc ps=>rfl,noI fun rd N sc tg p=>rfl⟩
  | bt b a iha =>
    refine ⟨fun X p ok h=>?_,noA fun rd N sc ps=>rfl,noI fun rd N sc tg p=>rfl⟩
    obtain ⟨n,pn,e,es,pos,rfl,hn⟩:=i_bt h
    simp only [Bool.and_eq_true,beq_iff_eq] at hn
    obtain ⟨b1,_,b3⟩:=iha.2.1 X true (e :: es) ok hn.2
    exact of_se (se_bt hn.1.1.1 ok.calm hn.1.1.2 (ok.blt _ (by cases b <;> decide)) (gl_of hn.1.2) b3 b1) (fun _=>rfl) rfl
  | mth m a b iha ihb =>
    refine ⟨fun X p ok h=>?_,noA fun rd N sc ps=>rfl,noI fun rd N sc tg p=>rfl⟩
    obtain ⟨o,nm,apos,q,cpos,rfl,hn⟩:=i_mth h
    simp only [Bool.and_eq_true,Bool.not_eq_true'] at hn
    obtain ⟨_,a2,_⟩:=iha.1 X o ok hn.1.2
    obtain ⟨b1,_,_,b4,_⟩:=ihb.1 X q ok hn.2
    have e:nm = m.nm:=eq_of_beq hn.1.1.1.1.1
    exact of_se (se_mth e (base_of hn.1.1.1.1.2 (by subst e;cases m <;> decide)) hn.1.1.1.2 b4 (a2 hn.1.1.2) b1) (fun _=>rfl) rfl
  | callT fs k a ihk iha=>exact ⟨noE fun N sc p=>rfl,noA fun rd N sc ps=>rfl,noI fun rd N sc tg p=>rfl⟩
  | gidx ss a iha=>exact ⟨noE fun N sc p=>rfl,noA fun rd N sc ps=>rfl,noI fun rd N sc tg p=>rfl⟩
  | lset a iha=>exact ⟨noE fun N sc p=>rfl,noA fun rd N sc ps=>rfl,noI fun rd N sc tg p=>rfl⟩
  | sset a iha =>
    refine ⟨fun X p ok h=>?_,noA fun rd N sc ps=>rfl,noI fun rd N sc tg p=>rfl⟩
    obtain ⟨n,pn,m,pm,q,pos2,pos,rfl,hn⟩:=i_sset h
    simp only [Bool.and_eq_true] at hn
    obtain ⟨⟨⟨⟨h1,h2⟩,h3⟩,h4⟩,h5⟩:=hn
    obtain ⟨a1,_,_,a4,_⟩:=iha.1 X q ok h5
    cases eq_of_beq h1
    cases eq_of_beq h2
    exact of_se (se_sset ok.calm (ok.blt _ (by decide)) (ok.blt _ (by decide)) (gl_of h3) (gl_of h4) a4 a1) (fun _=>rfl) rfl
  | lrng a iha =>
    refine ⟨fun X p ok h=>?_,noA fun rd N sc ps=>rfl,noI fun rd N sc tg p=>rfl⟩
    obtain ⟨n,pn,m,pm,q,pos2,pos,rfl,hn⟩:=i_lrng h
    simp only [Bool.and_eq_true,Bool.not_eq_true'] at hn
    obtain ⟨⟨⟨⟨⟨h1,h2⟩,h3⟩,h4⟩,h0⟩,h5⟩:=hn
    obtain ⟨_,a2,_,a4,_⟩:=iha.1 X q ok h5
    cases eq_of_beq h1
    cases eq_of_beq h2
    exact of_se (se_lrng ok.calm (ok.blt _ (by decide)) (ok.blt _ (by decide)) (gl_of h3) (gl_of h4) a4 (a2 h0)) (fun _=>rfl) rfl
  | maxd a b iha ihb =>
    refine ⟨fun X p ok h=>?_,noA fun rd N sc ps=>rfl,noI fun rd N sc tg p=>rfl⟩
    obtain ⟨n,pn,q,kn,r,kp,pos,rfl,hn⟩:=i_maxd h
    simp only [Bool.and_eq_true,Bool.not_eq_true'] at hn
    obtain ⟨⟨⟨⟨⟨h1,h2⟩,h3⟩,h4⟩,h5⟩,h6⟩:=hn
    obtain ⟨a1,_,_,a4,_⟩:=iha.1 X q ok h5
    obtain ⟨_,b2,_⟩:=ihb.1 X r ok h6
    cases eq_of_beq h1
    cases eq_of_beq h2
    exact of_se (se_maxd ok.calm (ok.blt _ (by decide)) (gl_of h3) a4 a1 (b2 h4)) (fun _=>rfl) rfl
  | isi a t iha =>
    refine ⟨fun X p ok h=>?_,noA fun rd N sc ps=>rfl,noI fun rd N sc tg p=>rfl⟩
    obtain ⟨n,pn,l,m,pm,pos,rfl,hn⟩:=i_isi h
    simp only [Bool.and_eq_true,beq_iff_eq] at hn
    obtain ⟨a1,_,_,a4,_⟩:=iha.1 X l ok hn.2
    exact of_se (se_isi hn.1.1.1.1 hn.1.1.1.2 (ok.blt _ (by simp [bltNames])) (ok.blt _ (by cases t <;> simp [bltNames,Ty.nm])) (gl_of hn.1.1.2) (gl_of hn.1.2) a4 a1) (fun _=>rfl) rfl
  | comp own caps g elt src cond ihe ihs ihc =>
    refine ⟨fun X p ok h=>?_,noA fun rd N sc ps=>rfl,noI fun rd N sc tg p=>rfl⟩
    obtain ⟨pe,tg,iter,ifs,scope,pos,rfl,a2,a3,a4,a5,a6,a7,a8,a9,a10,a11,a12⟩:=i_comp h
    obtain ⟨c1,c2,c3,c4,c5⟩:=comp_parts ok ihe.1 ihs.2.2 ihc.1 a2 a3 a4 a5 a6 a8 a9 a10 a11 a12
    exact of_se (se_comp ok.calm c1 c2 a7 c3 c4 c5) (fun _=>rfl) rfl
  | look i a iha=>exact ⟨noE fun N sc p=>rfl,noA fun rd N sc ps=>rfl,noI fun rd N sc tg p=>rfl⟩
  | seq a iha =>
    refine ⟨noE fun N sc p=>rfl,noA fun rd N sc ps=>rfl,fun X rd tg p ok h=>?_⟩
    change (_ && _) = true at h;simp only [Bool.and_eq_true,Bool.or_eq_true,Bool.not_eq_true'] at h
    obtain ⟨a1,a2,_,a4,_⟩:=iha.1 X p ok h.2
    refine ⟨si_seq a1 fun z=>a2 ?_,a4⟩
    rcases h.1 with q | q
    · rw [z] at q;cases q
    · exact q
  | rng a iha =>
    refine ⟨noE fun N sc p=>rfl,noA fun rd N sc ps=>rfl,fun X rd tg p ok h=>?_⟩
    obtain ⟨n,pn,q,pos,rfl,hn⟩:=i_rng h
    simp only [Bool.and_eq_true,beq_iff_eq,Bool.not_eq_true'] at hn
    obtain ⟨_,a2,_,a4,_⟩:=iha.1 X q ok hn.2
    exact ⟨si_rng hn.1.1.1 (gl_of hn.1.1.2) (ok.blt _ (by simp [bltNames])) a4 (a2 hn.1.2),rfl⟩
  | rng2 a b iha ihb =>
    refine ⟨noE fun N sc p=>rfl,noA fun rd N sc ps=>rfl,fun X rd tg p ok h=>?_⟩
    obtain ⟨n,pn,q,r,pos,rfl,hn⟩:=i_rng2 h
    simp only [Bool.and_eq_true,beq_iff_eq,Bool.not_eq_true'] at hn
    obtain ⟨_,a2,_,a4,_⟩:=iha.1 X q ok hn.1.2
    obtain ⟨_,b2,_,b4,_⟩:=ihb.1 X r ok hn.2
    exact ⟨si_rng2 hn.1.1.1.1.1 (gl_of hn.1.1.1.1.2) (ok.blt _ (by simp [bltNames])) a4 b4 (a2 hn.1.1.1.2) (b2 hn.1.1.2),rfl⟩
  | enum a iha =>
    refine ⟨noE fun N sc p=>rfl,noA fun rd N sc ps=>rfl,fun X rd tg p ok h=>?_⟩
    obtain ⟨n,pn,q,pos,rfl,hn⟩:=i_enum h
    simp only [Bool.and_eq_true,beq_iff_eq,Bool.not_eq_true',Bool.or_eq_true] at hn
    obtain ⟨a1,a2,_,a4,_⟩:=iha.1 X q ok hn.2
    cases tg with
    | Tuple es kk tpos =>
      refine ⟨si_enum hn.1.1.1.1 (gl_of hn.1.1.1.2) (ok.blt _ (by simp [bltNames])) a4 a1 fun z=>a2 ?_,rfl⟩
      rcases hn.1.2 with q | q
      · rw [z] at q;cases q
      · exact q
    | _=>exact absurd hn.1.1.2 (by simp [isTupX])
  | zip a b iha ihb=>exact ⟨noE fun N sc p=>rfl,noA fun rd N sc ps=>rfl,noI fun rd N sc tg p=>rfl⟩
end
end Tr
namespace Tr
open PySem PySem.Spec PyProof.Rows L2
section
variable (Tx:Txt)
noncomputable def mPop (i:Nat) (k:E) (N:List Str) (sc:Scope):Expr → Bool
  | .Call (.Attribute (.Name n _) nm apos) [] [] cpos=>isOmit k && nameB N sc i n && (nm == "pop") && (apos.endLine == cpos.line)
  | .Call (.Attribute (.Name n _) nm apos) [q] [] cpos=>!isOmit k && nameB N sc i n && (nm == "pop") && (apos.endLine == cpos.line) && !isRd k && mE Tx k N sc q
  | _=>false
noncomputable def isCallE:E → Bool
  | .call _ _=>true
  | _=>false
mutual
noncomputable def qB:S → List Stmt → Bool
  | .nil,[]=>true
  | .cons a r,p :: ps=>qS a p && qB r ps
  | _,_=>false
termination_by structural x=>x
noncomputable def qS:S → Stmt → Bool
  | .ret _,_=>true
  | .asg _ _,.Assign [_] p _=>notComp p && notTup p
  | .ite _ a b,.If _ ps qs _=>qB a ps && qB b qs
  | .exp _,_=>true
  | _,_=>false
termination_by structural x=>x
end
mutual
noncomputable def mB:S → List Str → Scope → List Stmt → Bool
  | .nil,_,_,[]=>true
  | .cons (.sealed _) r,N,sc,ps=>mB r N sc ps
  | .cons a r,N,sc,p :: ps=>mS a N sc p && mB r N sc ps
  | _,_,_,_=>false
termination_by structural x=>x
noncomputable def mS:S → List Str → Scope → Stmt → Bool
  | .ret x,N,sc,.Return (some p) _=>!isRd x && mE Tx x N sc p
  | .retO i,N,sc,.Return (some (.Name n _)) _=>nameB N sc i n
  | .asg g x,N,sc,.Assign [tg] p _=>!isRd x && mG false N sc g tg && mE Tx x N sc p && ((notComp p && notTup p) || (match g,tg with | .one _,.Name _ _=>true | _,_=>false))
  | .asgO i x,N,sc,.Assign [.Name n pn] p _=>!isRd x && mG false N sc (.one i) (.Name n pn) && mE Tx x N sc p
  | .ite c a b,N,sc,.If p ps qs _=>mE Tx c N sc p && mB a N sc ps && mB b N sc qs
  | .forS g src b,N,sc,.For tg p ps [] _=>mI Tx src false N sc tg p && mG false N sc g tg && mB b N sc ps
  | .whl _ c b,N,sc,.While p ps [] _=>mE Tx c N sc p && mB b N sc ps
  | .app i x,N,sc,.Expr (.Call (.Attribute (.Name n _) nm apos) [p] [] cpos) _=>nameB N sc i n && (nm == "append") && (apos.endLine == cpos.line) && !isRd x && mE Tx x N sc p
  | .rev i,N,sc,.Expr (.Call (.Attribute (.Name n _) nm apos) [] [] cpos) _=>nameB N sc i n && (nm == "reverse") && (apos.endLine == cpos.line)
  | .never,_,_,_=>true
  | .asgP g i k,N,sc,.Assign [tg] p _=>mG false N sc g tg && mPop Tx i k N sc p
  | .aug i o x,N,sc,.AugAssign (.Name n pn) o' p _=>(o == o') && (o == .Add || o == .Sub) && mG false N sc (.one i) (.Name n pn) && !isRd x && mE Tx x N sc p
  | .exp x,N,sc,.Expr p _=>isCallE x && mE Tx x N sc p
  | .rais c a,N,sc,.Raise (some (.Call (.Name n _) es [] _)) none _=>(n == c) && Tx.cls.contains n && glB sc n && dbgB n && !es.isEmpty && mA Tx a false N sc es
  | _,_,_,_=>false
termination_by structural x=>x
end
end
set_option genInjectivity false in
structure OkS (T:Tab) (cf:Nat → List D → Res D) (Tx:Txt) (X:Cx):Prop where
  ok:OkX T cf Tx X
  xe:X.xe = fun _ _=>False
  fn:∀ n,X.fn n = true
section
variable {T:Tab} {cf:Nat → List D → Res D} {Tx:Txt} {X:Cx}
theorem OkS.pass (o:OkS T cf Tx X):PassesOwn (model X.prog X.w) X.A X.env X.xe:=by rw [o.xe];exact PassesOwn.never
noncomputable def PSx (T:Tab) (cf:Nat → List D → Res D) (Tx:Txt) (x:S):Prop:=∀ X p,OkS T cf Tx X → mS Tx x X.N X.env.scope p = true → SS T cf X x p
noncomputable def PBx (T:Tab) (cf:Nat → List D → Res D) (Tx:Txt) (x:S):Prop:=∀ X ps,OkS T cf Tx X → mB Tx x X.N X.env.scope ps = true → SB T cf X x ps
theorem noB {x:S} (h:∀ N sc ps,mB Tx x N sc ps = false):PBx T cf Tx x:=fun X ps _ m=>by rw [h] at m;cases m
theorem noS {x:S} (h:∀ N sc p,mS Tx x N sc p = false):PSx T cf Tx x:=fun X ps _ m=>by rw [h] at m;cases m
theorem x_comp {x:E} {N:List Str} {sc:Scope} {p:Expr} (hp:notComp p = false) (h:mE Tx x N sc p = true):∃ own caps g elt src cond,x = .comp own caps g elt src cond:=by
  cases x with
  | comp own caps g elt src cond=>exact ⟨_,_,_,_,_,_,rfl⟩
  | var i=>obtain ⟨n,pos,rfl,_⟩:=i_var h;cases hp
  | rd i=>obtain ⟨n,pos,rfl,_⟩:=i_rd h;cases hp
  | con d=>obtain ⟨c,k,pos,rfl,_⟩:=i_con h;cases hp
  | glob d=>exact nof h
  | bin o a b=>obtain ⟨c,_,pos,rfl,_⟩:=i_bin h;cases hp
  | cmp o a b=>obtain ⟨c,_,pos,rfl,_⟩:=i_cmp h;cases hp
  | and a b=>obtain ⟨c,_,_,pos,rfl,_⟩:=i_and h;cases hp
  | or a b=>obtain ⟨c,_,_,pos,rfl,_⟩:=i_or h;cases hp
  | not a=>obtain ⟨c,pos,rfl,_⟩:=i_not h;cases hp
  | ife c a b=>obtain ⟨c,_,_,pos,rfl,_⟩:=i_ife h;cases hp
  | ix a b=>obtain ⟨c,_,pos,rfl,_⟩:=i_ix h;cases hp
  | sl a b c=>obtain ⟨c,_,_,_,pos,rfl,_⟩:=i_sl h;cases hp
  | tup a=>obtain ⟨c,_,pos,rfl,_⟩:=i_tup h;cases hp
  | lst a=>obtain ⟨c,pos,rfl,_⟩:=i_lst h;cases hp
  | call f a=>obtain ⟨c,_,_,pos,rfl,_⟩:=i_call h;cases hp
  | callB f a=>exact nof h
  | bt f a=>obtain ⟨c,_,_,_,pos,rfl,_⟩:=i_bt h;cases hp
  | callT fs k a=>exact nof h
  | gidx ss a=>exact nof h
  | lset a=>exact nof h
  | sset a=>obtain ⟨_,_,_,_,_,_,pos,rfl,_⟩:=i_sset h;cases hp
  | lrng a=>obtain ⟨_,_,_,_,_,_,pos,rfl,_⟩:=i_lrng h;cases hp
  | maxd a b=>obtain ⟨_,_,_,_,_,_,pos,rfl,_⟩:=i_maxd h;cases hp
  | mth m a b=>obtain ⟨c,_,_,_,pos,rfl,_⟩:=i_mth h;cases hp
  | isi a t=>obtain ⟨c,_,_,_,_,pos,rfl,_⟩:=i_isi h;cases hp
  | chain o o' a b c=>obtain ⟨c,_,_,pos,rfl,_⟩:=i_chain h;cases hp
  | neg a=>obtain ⟨c,pos,rfl,_⟩:=i_neg h;cases hp
  | look i a=>exact nof h
  | dnew=>exact nof h
  | dnewT=>exact nof h
  | getT i a b=>exact nof h
  | _=>exact nof h
theorem mG_name {i:Nat} {n:Str} {pos:Pos} (o:OkS T cf Tx X) (h:mG false X.N X.env.scope (.one i) (.Name n pos) = true):X.N[i]? = some n ∧ Loc X.env.scope n ∧ (X.fn n = true ∨ X.env.scope.names.lookup n = some .local):=by
  simp only [mG,Bool.and_eq_true,Bool.or_eq_true,beq_iff_eq,Bool.not_eq_true',Bool.not_false,true_and] at h
  exact ⟨h.1,h.2,.inl (o.fn n)⟩
theorem asg_comp {i:Nat} {n:Str} {pos pos':Pos} {x:E} {p:Expr} (b:Bool) (o:OkS T cf Tx X) (hp:notComp p = false) (h1:mG false X.N X.env.scope (.one i) (.Name n pos) = true) (h2:mE Tx x X.N X.env.scope p = true):SS T cf X (if b then .asgO i x else .asg (.one i) x) (.Assign [.Name n pos] p pos'):=by
  obtain ⟨own,caps,g,elt,src,cond,rfl⟩:=x_comp hp h2
  obtain ⟨pe,tg,iter,ifs,scope,pos2,rfl,a2,a3,a4,a5,a6,a7,a8,a9,a10,a11,a12⟩:=i_comp h2
  obtain ⟨c1,c2,c3,c4,c5⟩:=comp_parts o.ok (wholeE elt).1 (wholeE src).2.2 (wholeE cond).1 a2 a3 a4 a5 a6 a8 a9 a10 a11 a12
  obtain ⟨n1,n2,n3⟩:=mG_name o h1
  exact ss_asg_comp o.ok.nd n1 n2 n3 o.ok.calm c1 c2 a7 c3 c4 b c5
theorem i_app {i:Nat} {x:E} {N:List Str} {sc:Scope} {p:Stmt} (h:mS Tx (.app i x) N sc p = true):∃ n px nm apos q cpos pos,p = .Expr (.Call (.Attribute (.Name n px) nm apos) [q] [] cpos) pos ∧ (nameB N sc i n && (nm == "append") && (apos.endLine == cpos.line) && !isRd x && mE Tx x N sc q) = true:=by
  cases p with
  | Expr v pos=>cases v with
    | Call f es ks cpos=>cases f with
      | Attribute o nm apos=>cases o with
        | Name n px =>
          rcases es with _ | ⟨q,_ | ⟨q',es⟩⟩
          · exact nof h
          · cases ks with
            | nil=>exact ⟨n,px,nm,apos,q,cpos,pos,rfl,h⟩
            | cons _ _=>exact nof h
          · exact nof h
        | _=>exact nof h
      | _=>exact nof h
    | _=>exact nof h
  | _=>exact nof h
theorem pop_at {k:E} (h:isOmit k = false):∀ d m,popAt m k d = popIx m d:=by
  intro d m
  cases k <;> first | rfl | (cases h;done)
theorem pop_of {i:Nat} {k:E} {p:Expr} (o:OkX T cf Tx X) (h:mPop Tx i k X.N X.env.scope p = true):(∀ H₀ O₀,PE X p (tPop T cf X.K H₀ O₀ i k)) ∧ notComp p = true ∧ notTup p = true ∧ plainX p = true:=by
  cases p with
  | Call f es ks cpos=>cases f with
    | Attribute b nm apos=>cases b with
      | Name n px =>
        rcases es with _ | ⟨q,_ | ⟨q',es⟩⟩
        · cases ks with
          | nil =>
            change (isOmit k && nameB X.N X.env.scope i n && (nm == "pop") && (apos.endLine == cpos.line)) = true at h
            simp only [Bool.and_eq_true] at h
            obtain ⟨⟨⟨h1,h2⟩,h3⟩,h4⟩:=h
            obtain ⟨a1,a2,a3,a4⟩:=name_of h2
            have e:k = .omit:=by
              cases k <;> first | rfl | (cases h1;done)
            subst e
            exact ⟨pe_pop0 a1 a2 a3 a4 (eq_of_beq h3) h4,rfl,rfl,rfl⟩
          | cons _ _=>exact nof h
        · cases ks with
          | nil =>
            change (!isOmit k && nameB X.N X.env.scope i n && (nm == "pop") && (apos.endLine == cpos.line) && !isRd k && mE Tx k X.N X.env.scope q) = true at h
            simp only [Bool.and_eq_true,Bool.not_eq_true'] at h
            obtain ⟨⟨⟨⟨⟨h1,h2⟩,h3⟩,h4⟩,h5⟩,h6⟩:=h
            obtain ⟨a1,a2,a3,a4⟩:=name_of h2
            obtain ⟨_,b2,_,b4,_⟩:=(wholeE k).1 X q o h6
            exact ⟨pe_pop1 a1 a2 a3 a4 (eq_of_beq h3) h4 b4 (pop_at h1) (b2 h5),rfl,rfl,rfl⟩
          | cons _ _=>exact nof h
        · exact nof h
      | _=>exact nof h
    | _=>exact nof h
  | _=>exact nof h
theorem i_rev {i:Nat} {N:List Str} {sc:Scope} {p:Stmt} (h:mS Tx (.rev i) N sc p = true):∃ n px nm apos cpos pos,p = .Expr (.Call (.Attribute (.Name n px) nm apos) [] [] cpos) pos ∧ (nameB N sc i n && (nm == "reverse") && (apos.endLine == cpos.line)) = true:=by
  cases p with
  | Expr v pos=>cases v with
    | Call f es ks cpos=>cases f with
      | Attribute o nm apos=>cases o with
        | Name n px =>
          cases es with
          | nil =>
            cases ks with
            | nil=>exact ⟨n,px,nm,apos,cpos,pos,rfl,h⟩
            | cons _ _=>exact nof h
          | cons _ _=>exact nof h
        | _=>exact nof h
      | _=>exact nof h
    | _=>exact nof h
  | _=>exact nof h
theorem ss_asg1 {i:Nat} {n:Str} {x:E} {p:Expr} {pos pos':Pos} (hx:notComp p = true) (hN:X.N.Nodup) (hi:X.N[i]? = some n) (hl:Loc X.env.scope n) (hf:X.fn n = true ∨ X.env.scope.names.lookup n = some .local) (h:SE T cf X x p):SS T cf X (.asg (.one i) x) (.Assign [.Name n pos'] p pos):=fun H₀ O₀=>by
  refine PS.imp (fun D' σ H hq=>?_) (ps_set hN hi hl (h H₀ O₀) (swaps_no hx) hf)
  obtain ⟨ts,e,out,⟨O,own,F,tt⟩,ev,k⟩:=hq
  rw [xS_asg] at ev
  obtain ⟨d,e1,ev⟩:=Res.bind_ok ev
  obtain ⟨e2,e3,ev⟩:=Res.bind_ok ev
  cases ev
  cases e3
  exact ⟨O,own,e,d,F,e1,fun v H' s' r n=>k _ H' ⟨O,_,(F.grow s').setV i r,fun t ht=>(tt t ht).same s'⟩⟩
theorem wholeS:∀ x:S,PSx T cf Tx x ∧ PBx T cf Tx x:=by
  intro x
  induction x with
  | nil =>
    refine ⟨noS fun N sc p=>rfl,fun X ps o h=>?_⟩
    cases ps with
    | nil=>exact sb_nil
    | cons _ _=>exact nof h
  | cons a r iha ihr =>
    refine ⟨noS fun N sc p=>rfl,fun X ps o h=>?_⟩
    by_cases hs:∃ i,a = .sealed i
    · obtain ⟨i,rfl⟩:=hs
      rw [mB] at h
      exact sb_seal (ihr.2 X ps o h)
    · cases ps with
      | nil =>
        exfalso
        cases a <;> first | (exact hs ⟨_,rfl⟩) | exact nof h
      | cons p ps =>
        have h':(mS Tx a X.N X.env.scope p && mB Tx r X.N X.env.scope ps) = true:=by
          cases a <;> first | (exact absurd ⟨_,rfl⟩ hs) | exact h
        rw [Bool.and_eq_true] at h'
        exact sb_cons (iha.1 X p o h'.1) (ihr.2 X ps o h'.2)
  | pass=>exact ⟨noS fun N sc p=>rfl,noB fun N sc ps=>rfl⟩
  | ret x =>
    refine ⟨fun X p o h=>?_,noB fun N sc ps=>rfl⟩
    cases p with
    | Return v pos=>cases v with
      | some p =>
        change (_ && _) = true at h;simp only [Bool.and_eq_true,Bool.not_eq_true'] at h
        exact ss_ret (((wholeE x).1 X p o.ok h.2).2.1 h.1)
      | none=>exact nof h
    | _=>exact nof h
  | retO i =>
    refine ⟨fun X p o h=>?_,noB fun N sc ps=>rfl⟩
    cases p with
    | Return v pos=>cases v with
      | some p=>cases p with
        | Name n pn =>
          obtain ⟨a1,a2,a3,a4⟩:=name_of h
          exact ss_retO a1 a2 a3 a4
        | _=>exact nof h
      | none=>exact nof h
    | _=>exact nof h
  | retN=>exact ⟨noS fun N sc p=>rfl,noB fun N sc ps=>rfl⟩
  | asg g x =>
    refine ⟨fun X p o h=>?_,noB fun N sc ps=>rfl⟩
    cases p with
    | Assign tgs p pos =>
      rcases tgs with _ | ⟨tg,_ | ⟨t2,tgs⟩⟩
      · exact nof h
      · change (_ && _) = true at h;simp only [Bool.and_eq_true,Bool.not_eq_true',Bool.or_eq_true] at h
        obtain ⟨⟨⟨h1,h2⟩,h3⟩,h4⟩:=h
        obtain ⟨g1,g2⟩:=sg_of o.ok.calm o.ok.nd (fun n _=>o.fn n) h2
        by_cases hc:notComp p = true
        · by_cases ht:notTup p = true
          · exact ss_asg hc ht g2 (((wholeE x).1 X p o.ok h3).2.1 h1) g1
          · rcases h4 with z | z
            · exact absurd z.2 ht
            · cases g with
              | one i=>cases tg with
                | Name n pn =>
                  obtain ⟨n1,n2,n3⟩:=mG_name o h2
                  exact ss_asg1 hc o.ok.nd n1 n2 n3 (((wholeE x).1 X p o.ok h3).2.1 h1)
                | _=>cases z
              | many _=>cases z
        · have hc':notComp p = false:=by simpa using hc
          rcases h4 with z | z
          · exact absurd z.1 hc
          · cases g with
            | one i=>cases tg with
              | Name n pn=>exact asg_comp false o hc' h2 h3
              | _=>cases z
            | many _=>cases z
      · exact nof h
    | _=>exact nof h
  | asgO i x =>
    refine ⟨fun X p o h=>?_,noB fun N sc ps=>rfl⟩
    cases p with
    | Assign tgs p pos =>
      rcases tgs with _ | ⟨tg,_ | ⟨t2,tgs⟩⟩
      · exact nof h
      · cases tg with
        | Name n pn =>
          change (_ && _) = true at h;simp only [Bool.and_eq_true,Bool.not_eq_true'] at h
          obtain ⟨⟨h1,h2⟩,h3⟩:=h
          by_cases hc:notComp p = true
          · obtain ⟨n1,n2,n3⟩:=mG_name o h2
            exact ss_asgO hc o.ok.nd n1 n2 n3 (((wholeE x).1 X p o.ok h3).2.1 h1)
          · exact asg_comp true o (by simpa using hc) h2 h3
        | _=>exact nof h
      · cases tg <;> exact nof h
    | _=>exact nof h
  | «sealed» i=>exact ⟨noS fun N sc p=>rfl,noB fun N sc ps=>rfl⟩
  | ite c a b iha ihb =>
    refine ⟨fun X p o h=>?_,noB fun N sc ps=>rfl⟩
    cases p with
    | If p ps qs pos =>
      change (_ && _) = true at h;simp only [Bool.and_eq_true] at h
      exact ss_ite ((wholeE c).1 X p o.ok h.1.1).2.2.1 (iha.2 X ps o h.1.2) (ihb.2 X qs o h.2)
    | _=>exact nof h
  | forS g src b ihb =>
    refine ⟨fun X p o h=>?_,noB fun N sc ps=>rfl⟩
    cases p with
    | For tg p ps qs pos=>cases qs with
      | nil =>
        change (_ && _) = true at h;simp only [Bool.and_eq_true] at h
        have hg:=(sg_of o.ok.calm o.ok.nd (fun n _=>o.fn n) h.1.2).1
        obtain ⟨s1,s2⟩:=(wholeE src).2.2 X false tg p o.ok h.1.1
        exact ss_for o.pass o.ok.calm s2 s1 hg (ihb.2 X ps o h.2)
      | cons _ _=>exact nof h
    | _=>exact nof h
  | whl n c b ihb =>
    refine ⟨fun X p o h=>?_,noB fun N sc ps=>rfl⟩
    cases p with
    | While p ps qs pos=>cases qs with
      | nil =>
        change (_ && _) = true at h;simp only [Bool.and_eq_true] at h
        exact ss_whl o.pass ((wholeE c).1 X p o.ok h.1).2.2.1 (ihb.2 X ps o h.2)
      | cons _ _=>exact nof h
    | _=>exact nof h
  | app i x =>
    refine ⟨fun X p o h=>?_,noB fun N sc ps=>rfl⟩
    obtain ⟨n,px,nm,apos,q,cpos,pos,rfl,hn⟩:=i_app h
    simp only [Bool.and_eq_true,beq_iff_eq,Bool.not_eq_true'] at hn
    obtain ⟨a1,a2,a3,a4⟩:=name_of hn.1.1.1.1
    obtain ⟨_,b2,_,b4,_⟩:=(wholeE x).1 X q o.ok hn.2
    exact ss_app a1 a2 a3 a4 hn.1.1.1.2 (by simpa using hn.1.1.2) b4 (b2 hn.1.2)
  | rev i =>
    refine ⟨fun X p o h=>?_,noB fun N sc ps=>rfl⟩
    obtain ⟨n,px,nm,apos,cpos,pos,rfl,hn⟩:=i_rev h
    simp only [Bool.and_eq_true,beq_iff_eq] at hn
    obtain ⟨a1,a2,a3,a4⟩:=name_of hn.1.1
    exact ss_rev a1 a2 a3 a4 hn.1.2 (by simpa using hn.2)
  | ext i x=>exact ⟨noS fun N sc p=>rfl,noB fun N sc ps=>rfl⟩
  | dput i y x=>exact ⟨noS fun N sc p=>rfl,noB fun N sc ps=>rfl⟩
  | dputT i y x=>exact ⟨noS fun N sc p=>rfl,noB fun N sc ps=>rfl⟩
  | never =>
    exact ⟨fun X p o h=>ss_never,noB fun N sc ps=>rfl⟩
  | asgP g i k =>
    refine ⟨fun X p o h=>?_,noB fun N sc ps=>rfl⟩
    cases p with
    | Assign tgs p pos =>
      rcases tgs with _ | ⟨tg,_ | ⟨t2,tgs⟩⟩
      · exact nof h
      · change (_ && _) = true at h;simp only [Bool.and_eq_true] at h
        obtain ⟨g1,g2⟩:=sg_of o.ok.calm o.ok.nd (fun n _=>o.fn n) h.1
        obtain ⟨p1,p2,p3,p4⟩:=pop_of o.ok h.2
        exact ss_asgP p2 p3 g2 p1 g1
      · exact nof h
    | _=>exact nof h
  | appP j i k=>exact ⟨noS fun N sc p=>rfl,noB fun N sc ps=>rfl⟩
  | aug i op x =>
    refine ⟨fun X p o h=>?_,noB fun N sc ps=>rfl⟩
    cases p with
    | AugAssign tg op' v pos=>cases tg with
      | Name n pn =>
        change (_ && _) = true at h;simp only [Bool.and_eq_true,Bool.or_eq_true,beq_iff_eq,Bool.not_eq_true'] at h
        obtain ⟨⟨⟨⟨h1,h2⟩,h3⟩,h4⟩,h5⟩:=h
        subst h1
        obtain ⟨n1,n2,n3⟩:=mG_name o h3
        exact ss_aug o.ok.nd n1 n2 n3 (((wholeE x).1 X v o.ok h5).2.1 h4) h2
      | _=>exact nof h
    | _=>exact nof h
  | lput i y x=>exact ⟨noS fun N sc p=>rfl,noB fun N sc ps=>rfl⟩
  | exp x =>
    refine ⟨fun X p o h=>?_,noB fun N sc ps=>rfl⟩
    cases p with
    | Expr q pos =>
      change (_ && _) = true at h;simp only [Bool.and_eq_true] at h
      cases x with
      | call f a =>
        have b:=((wholeE (.call f a)).1 X q o.ok h.2).2.1 rfl
        obtain ⟨c,_,_,pos2,rfl,_⟩:=i_call h.2
        exact ss_exp rfl b
      | _=>exact nof h.1
    | _=>exact nof h
  | ins i y x=>exact ⟨noS fun N sc p=>rfl,noB fun N sc ps=>rfl⟩
  | rais c a =>
    refine ⟨fun X p o h H₀ O₀=>fun pins s σ H D I q=>?_,noB fun N sc ps=>rfl⟩
    obtain ⟨ts,e,out,F,ev,k⟩:=q
    (first | rw [xS_nil] at ev | rw [xS_cons] at ev | rw [xS_pass] at ev | rw [xS_ret] at ev | rw [xS_retO] at ev | rw [xS_retN] at ev | rw [xS_asg] at ev | rw [xS_asgO] at ev | rw [xS_sealed] at ev | rw [xS_ite] at ev | rw [xS_forS] at ev | rw [xS_whl] at ev | rw [xS_app] at ev | rw [xS_rev] at ev | rw [xS_dput] at ev | rw [xS_dputT] at ev | rw [xS_ext] at ev | rw [xS_never] at ev | rw [xS_asgP] at ev | rw [xS_appP] at ev | rw [xS_aug] at ev | rw [xS_lput] at ev | rw [xS_exp] at ev | rw [xS_ins] at ev | rw [xS_rais] at ev | rw [xS_asgT] at ev | rw [xS_appT] at ev | rw [xS_retT] at ev | rw [xS_brk] at ev | rw [xS_cnt] at ev)
    cases ev
  | asgT i x=>exact ⟨noS fun N sc p=>rfl,noB fun N sc ps=>rfl⟩
  | appT i x=>exact ⟨noS fun N sc p=>rfl,noB fun N sc ps=>rfl⟩
  | retT x y=>exact ⟨noS fun N sc p=>rfl,noB fun N sc ps=>rfl⟩
  | brk=>exact ⟨noS fun N sc p=>rfl,noB fun N sc ps=>rfl⟩
  | cnt=>exact ⟨noS fun N sc p=>rfl,noB fun N sc ps=>rfl⟩
end
end Tr
namespace Tr
open PySem PySem.Spec PyProof.Rows L2 PySem.W
noncomputable def RaiseOk (X:Cx) (E:XK):Prop:=∀ (pins:List (Addr × Obj)) (σ:L2.St) (H:Hp) (s:Shared) (h':Heap) (a:Addr) (cls:Value) (args:List Value),Inv X pins σ H s → Heap.MadeExcOf s.heap h' a cls args → E cls none H → X.xe (.ref a) { s with heap:=h' }
structure OkE (T:Tab) (cf:Nat → List D → Res D) (Tx:Txt) (X:Cx) (E:XK):Prop where
  ok:OkS T cf Tx X.nox
  pass:Passes (CXE X.prog X.w) X E
  cls:∀ c ∈ Tx.cls,∃ C,ClsIs X.K X.mg c C
noncomputable def tX (T:Tab) (cf:Nat → List D → Res D) (K:PySem.W.Frag) (H₀:Hp) (O₀:Addr → Prop) (E:XK) (x:S):TS:=fun _ σ H=>∃ O own e c d,Fm K H₀ O₀ H O own e σ ∧ exX T cf x e = some (c,d) ∧ ∀ H',Same H₀ H' → E (cvK K c) none H'
noncomputable def SX (T:Tab) (cf:Nat → List D → Res D) (X:Cx) (E:XK) (x:S) (p:Stmt):Prop:=∀ H₀ O₀,PS X p (tX T cf X.K H₀ O₀ E x)
noncomputable def SXs (T:Tab) (cf:Nat → List D → Res D) (X:Cx) (E:XK) (x:S) (p:List Stmt):Prop:=∀ H₀ O₀,PSs X p (tX T cf X.K H₀ O₀ E x)
section
variable {T:Tab} {cf:Nat → List D → Res D} {Tx:Txt}
theorem ps_nox {X:Cx} {st:Stmt} {t:TS} (h:PS X.nox st t):PS X st t:=fun pins s σ H D I hw =>
  wpAny_mono (h pins s σ H D (I.wish _) hw) (fun _ _ q=>q.unwish) fun _ _ z=>False.elim z
theorem pa_nox {X:Cx} {es:List Expr} {t:TA} (h:PA X.nox es t):PA X es t:=fun pos pins s σ H Q I hw =>
  wpAny_mono (h pos pins s σ H Q (I.wish _) hw) (fun _ _ ⟨v,H',I',r,q⟩=>⟨v,H',I'.unwish,r,q⟩) fun _ _ z=>False.elim z
theorem pss_false {X:Cx} {ps:List Stmt}:PSs X ps (fun _ _ _=>False):=fun _ _ _ _ _ _ h=>h.elim
noncomputable def PSX (T:Tab) (cf:Nat → List D → Res D) (Tx:Txt) (x:S):Prop:=∀ X E p,OkE T cf Tx X E → RaiseOk X E ∨ calmS x = true → mS Tx x X.N X.env.scope p = true → SX T cf X E x p
noncomputable def PBX (T:Tab) (cf:Nat → List D → Res D) (Tx:Txt) (x:S):Prop:=∀ X E ps,OkE T cf Tx X E → RaiseOk X E ∨ calmS x = true → mB Tx x X.N X.env.scope ps = true → SXs T cf X E x ps
theorem noSX {x:S} (h:∀ e,exX T cf x e = none):PSX T cf Tx x:=fun X E p _ _ _ H₀ O₀ pins s σ H D I q=>by
  obtain ⟨O,own,e,c,d,F,ev,k⟩:=q
  rw [h] at ev;cases ev
theorem noBX {x:S} (h:∀ e,exX T cf x e = none):PBX T cf Tx x:=fun X E p _ _ _ H₀ O₀ pins s σ H D I q=>by
  obtain ⟨O,own,e,c,d,F,ev,k⟩:=q
  rw [h] at ev;cases ev
theorem noBX' {x:S} (h:∀ N sc ps,mB Tx x N sc ps = false):PBX T cf Tx x:=fun X E ps _ _ m=>by rw [h] at m;cases m
theorem noSX' {x:S} (h:∀ N sc p,mS Tx x N sc p = false):PSX T cf Tx x:=fun X E ps _ _ m=>by rw [h] at m;cases m
theorem exX_cons {a r:S} {e:Nv} {z:Str × D} (h:exX T cf (.cons a r) e = some z):exX T cf a e = some z ∨ (exX T cf a e = none ∧ ∃ e1,exS T cf a e = .ok (.nx e1) ∧ exX T cf r e1 = some z):=by
  rw [xX_cons] at h
  cases ha:exX T cf a e with
  | some z'=>rw [ha] at h;exact .inl h
  | none =>
    rw [ha] at h
    refine .inr ⟨rfl,?_⟩
    cases hs:exS T cf a e with
    | ok o =>
      rw [hs] at h
      cases o with
      | nx e1=>exact ⟨e1,rfl,h⟩
      | _=>cases h
    | err _ _=>rw [hs] at h;cases h
    | no=>rw [hs] at h;cases h
theorem exX_ite {c:E} {a b:S} {e:Nv} {z:Str × D} (h:exX T cf (.ite c a b) e = some z):∃ x q,evE T cf c e = .ok x ∧ x.truth = .ok q ∧ (if q = true then exX T cf a e = some z else exX T cf b e = some z):=by
  rw [xX_ite] at h
  cases hc:evE T cf c e with
  | ok x =>
    rw [hc] at h
    cases ht:x.truth with
    | ok q =>
      simp only [ht] at h
      refine ⟨x,q,rfl,ht,?_⟩
      cases q with
      | true=>exact h
      | false=>exact h
    | err _ _=>simp only [ht] at h;cases h
    | no=>simp only [ht] at h;cases h
  | err _ _=>rw [hc] at h;cases h
  | no=>rw [hc] at h;cases h
theorem exX_call {f:Nat} {a:E} {e:Nv} {c:Str} {d:D} (h:exX T cf (.exp (.call f a)) e = some (c,d)):∃ ds,evA T cf a e = .ok ds ∧ cf f ds = .err c d:=by
  rw [xX_call] at h
  cases ha:evA T cf a e with
  | ok ds =>
    rw [ha] at h
    cases hf:cf f ds with
    | err c' d'=>simp only [hf] at h;cases h;exact ⟨ds,rfl,hf⟩
    | ok _=>simp only [hf] at h;cases h
    | no=>simp only [hf] at h;cases h
  | err _ _=>rw [ha] at h;cases h
  | no=>rw [ha] at h;cases h
theorem exX_rais {c:Str} {a:E} {e:Nv} {c':Str} {d:D} (h:exX T cf (.rais c a) e = some (c',d)):c' = c ∧ ∃ x,evA T cf a e = .ok [.str x]:=by
  rw [xX_rais] at h
  split at h
  · rename_i x ha
    cases h
    exact ⟨rfl,x,ha⟩
  · cases h
theorem calm_l {X:Cx} {E:XK} {a b x:S} (e:calmS x = (calmS a && calmS b)) (h:RaiseOk X E ∨ calmS x = true):(RaiseOk X E ∨ calmS a = true) ∧ (RaiseOk X E ∨ calmS b = true):=by
  rcases h with h | h
  · exact ⟨.inl h,.inl h⟩
  · rw [e,Bool.and_eq_true] at h
    exact ⟨.inr h.1,.inr h.2⟩
theorem wholeX (x:S):PSX T cf Tx x ∧ PBX T cf Tx x:=by
  induction x with
  | cons a r iha ihr =>
    refine ⟨noSX' fun N sc p=>rfl,fun X E ps o hc h=>?_⟩
    have hc2:=calm_l (a:=a) (b:=r) rfl hc
    by_cases hs:∃ i,a = .«sealed» i
    · obtain ⟨i,rfl⟩:=hs
      have h2:mB Tx r X.N X.env.scope ps = true:=by
        cases ps <;> exact h
      intro H₀ O₀ pins s σ H D I hq
      obtain ⟨O,own,e,c,d,F,ev,k⟩:=hq
      rcases exX_cons ev with z | ⟨_,e1,e2,e3⟩
      · cases z
      · (first | rw [xS_nil] at e2 | rw [xS_cons] at e2 | rw [xS_pass] at e2 | rw [xS_sealed] at e2 | rw [xS_ite] at e2 | rw [xS_exp] at e2 | rw [xS_rais] at e2)
        obtain ⟨l,e4,e2⟩:=Res.bind_ok e2
        cases e2
        obtain ⟨O',own',F',sub⟩:=F.seal i (Sl.ownA_ok e4)
        exact ihr.2 X E ps o hc2.2 h2 H₀ O₀ pins s σ H D I ⟨O',own',_,c,d,F',e3,k⟩
    · cases ps with
      | nil=>cases a <;> first | exact nof h | exact absurd ⟨_,rfl⟩ hs
      | cons p ps =>
        have hm:(mS Tx a X.N X.env.scope p && mB Tx r X.N X.env.scope ps) = true:=by
          cases a <;> first | exact h | exact absurd ⟨_,rfl⟩ hs
        rw [Bool.and_eq_true] at hm
        intro H₀ O₀ pins s σ H D I hq
        obtain ⟨O,own,e,c,d,F,ev,k⟩:=hq
        rcases exX_cons ev with z | ⟨_,e1,e2,e3⟩
        · exact pss_cons (iha.1 X E p o hc2.1 hm.1 H₀ O₀) pss_false pins s σ H D I ⟨O,own,e,c,d,F,z,k⟩
        · refine pss_cons (ps_nox ((wholeS a).1 X.nox p o.ok hm.1 H₀ O₀)) (ihr.2 X E ps o hc2.2 hm.2 H₀ O₀) pins s σ H D I ?_
          exact ⟨[],e,.nx e1,⟨O,own,F,fun t ht=>by cases ht⟩,e2,fun σ' H' ⟨O',own',F',_⟩=>⟨O',own',e1,c,d,F',e3,k⟩⟩
  | ite c a b iha ihb =>
    refine ⟨fun X E p o hc h=>?_,noBX' fun N sc ps=>rfl⟩
    cases p with
    | If p ps qs pos =>
      have hc2:=calm_l (a:=a) (b:=b) rfl hc
      change (_ && _) = true at h;simp only [Bool.and_eq_true] at h
      intro H₀ O₀ pins s σ H D I hq
      obtain ⟨O,own,e,cc,d,F,ev,k⟩:=hq
      obtain ⟨x,q,e1,e2,e3⟩:=exX_ite ev
      refine ps_if ((((wholeE c).1 X.nox p o.ok.ok h.1.1).2.2.1 H₀ O₀).nox) (iha.2 X E ps o hc2.1 h.1.2 H₀ O₀) (ihb.2 X E qs o hc2.2 h.2 H₀ O₀) pins s σ H D I ?_
      refine ⟨O,own,e,x,q,F,e1,e2,fun H1 s1=>?_⟩
      cases q with
      | true=>rw [if_pos rfl] at e3 ⊢;exact ⟨O,own,e,cc,d,F.grow s1,e3,k⟩
      | false=>rw [if_neg Bool.false_ne_true] at e3 ⊢;exact ⟨O,own,e,cc,d,F.grow s1,e3,k⟩
    | _=>exact nof h
  | exp x =>
    refine ⟨fun X E p o _ h=>?_,noBX' fun N sc ps=>rfl⟩
    cases p with
    | Expr q pos =>
      change (_ && _) = true at h;simp only [Bool.and_eq_true] at h
      cases x with
      | call f a =>
        obtain ⟨n,pn,es,pos2,rfl,hn⟩:=i_call h.2
        simp only [Bool.and_eq_true,beq_iff_eq] at hn
        obtain ⟨k0,a0,fd,ps,Fk,hr,hm,hk,hb⟩:=o.ok.ok.defs f n hn.1.1.1
        obtain ⟨_,b2,b3⟩:=(wholeE a).2.1 X.nox false es o.ok.ok hn.2
        intro H₀ O₀ pins s σ H D I hq
        obtain ⟨O,own,e,c,d,F,ev,k⟩:=hq
        obtain ⟨ds,e1,e2⟩:=exX_call ev
        cases es with
        | nil =>
          refine ps_expr (pe_call0 (X:=X) Fk hr (gl_of hn.1.1.2) hm hk hb .nil o.pass (dbg_of hn.1.2)) rfl pins s σ H D I ?_
          cases a with
          | anil =>
            rw [xA_anil] at e1
            cases e1
            exact ⟨O,[],F.trk,rfl,.inr ⟨c,d,e2,fun H' s2=>k H' (F.same.trans s2)⟩⟩
          | _=>exact nof hn.2
        | cons p es =>
          rw [List.all_cons,Bool.and_eq_true] at b3
          refine ps_expr (pe_call (X:=X) Fk hr (gl_of hn.1.1.2) hm hk hb .nil o.pass (pa_nox (b2 rfl H₀ O₀)) (dbg_of hn.1.2) (plain_star b3.1) (plain_any b3.2)) rfl pins s σ H D I ?_
          refine ⟨O,own,e,ds,F,e1,fun vs H1 s1 r1=>?_⟩
          dsimp only
          rw [List.append_nil]
          exact ⟨O,ds,(F.grow s1).trk,r1,.inr ⟨c,d,e2,fun H' s2=>k H' (F.same.trans (s1.trans s2))⟩⟩
      | _=>exact nof h.1
    | _=>exact nof h
  | rais c a =>
    refine ⟨fun X E p o hc h=>?_,noBX' fun N sc ps=>rfl⟩
    have hr:RaiseOk X E:=hc.elim id fun z=>by cases z
    cases p with
    | Raise v w pos=>cases v with
      | none=>exact nof h
      | some v=>cases v with
        | Call fn es ks cpos=>cases fn with
          | Name n pn =>
            cases ks with
            | nil =>
              cases w with
              | none =>
                change (_ && _) = true at h
                simp only [Bool.and_eq_true,beq_iff_eq,Bool.not_eq_true',List.contains_iff_mem] at h
                obtain ⟨⟨⟨⟨⟨h1,h2⟩,h3⟩,h4⟩,h5⟩,h6⟩:=h
                subst h1
                obtain ⟨C,hC⟩:=o.cls n h2
                obtain ⟨_,b2,b3⟩:=(wholeE a).2.1 X.nox false es o.ok.ok h6
                intro H₀ O₀ pins s σ H D I hq
                obtain ⟨O,own,e,c,d,F,ev,k⟩:=hq
                obtain ⟨rfl,x,e1⟩:=exX_rais ev
                cases es with
                | nil=>cases h5
                | cons p es =>
                  rw [List.all_cons,Bool.and_eq_true] at b3
                  refine ps_raise (ER:=fun H1=>E (.ref C) none H1) (hC.own I.mod.kin) (gl_of h3) o.ok.ok.calm (pa_nox (b2 rfl H₀ O₀)) (fun pins σ H s h' a args I hm hE=>hr pins σ H s h' a _ args I hm hE) (dbg_of h4) (plain_star b3.1) (plain_any b3.2) pins s σ H D I ?_
                  refine ⟨O,own,e,_,F,e1,fun vs H1 s1 r1=>⟨?_,?_⟩⟩
                  · rw [r1.length,← big_line];show 1 ≤ big;decide
                  · have:=k H1 (F.same.trans s1)
                    rw [hC.cv] at this
                    exact this
              | some _=>exact nof h
            | cons _ _=>cases w <;> exact nof h
          | _=>cases w <;> exact nof h
        | _=>cases w <;> exact nof h
    | _=>exact nof h
  | nil=>exact ⟨noSX fun e=>rfl,noBX fun e=>rfl⟩
  | _=>exact ⟨noSX fun e=>rfl,noBX fun e=>rfl⟩
end
end Tr
namespace Tr
open PySem PySem.Spec PyProof.Rows L2
set_option genInjectivity false in
structure DefT where
  nm:Str
  st:Stmt
  N:List Str
  ps:List Str
  body:S
  told:Option Told:=none
noncomputable def DefT.df (t:DefT):Df:=⟨t.N.length,t.ps.length,t.body,t.told⟩
noncomputable def fnScB (N P:List Str) (sc:Scope):Bool:=(sc.kind == .function) && !sc.isCoroutine && !sc.isGenerator && nodupB N && (N.take P.length == P) && P.all (fun x=>(sc.names.lookup x == some .local) || (sc.names.lookup x == some .cell)) && sc.names.all (fun y=>!(y.2 == .free))
theorem fnSc_of {N P:List Str} {sc:Scope} (h:fnScB N P sc = true):FnScope N P sc:=by
  simp only [fnScB,Bool.and_eq_true,List.all_eq_true,Bool.or_eq_true,Bool.not_eq_true',beq_iff_eq,beq_eq_false_iff_ne,ne_eq] at h
  obtain ⟨⟨⟨⟨⟨⟨h1,h2⟩,h3⟩,h4⟩,h5⟩,h6⟩,h7⟩:=h
  exact ⟨h1,h2,h3,nodup_of h4,h5,h6,h7⟩
noncomputable def DefT.okB (Tx:Txt) (t:DefT):Bool:=fnScB t.N t.ps (defScope t.st) && (t.told.isSome || mB Tx t.body t.N (defScope t.st) (defBody t.st))
noncomputable def GlobK (K:PySem.W.Frag) (mg:Str → Option Value) (n:Str) (d:D):Prop:=∃ v u,mg n = some u ∧ RelV v u ∧ ∀ H O,RD K H O d v
structure TextOk0 (K:PySem.W.Frag) (mg:Str → Option Value) (T:Tab) (Tx:Txt) (defs:List DefT):Prop where
  dn:Tx.dn = defs.map (·.nm)
  ok:defs.all (·.okB Tx) = true
  funs:∀ t ∈ defs,∃ f fd,Fun K t.nm t.nm t.st f fd ∧ mg t.nm = some (.ref f) ∧ Binds K fd t.ps []
  globs:∀ g n,Tx.gn[g]? = some n → GlobK K mg n (T.glob g)
  blt:∀ n ∈ bltNames,mg n = none
  tf:∀ q ∈ Tx.tf,∃ (a:Addr) (xs:List V),mg q.1 = some (.ref a) ∧ (∀ H,SqT K H a xs) ∧ xs.length = q.2.length ∧ ∀ (j f:Nat),q.2[j]? = some f → ∃ (ad:Addr) (t:DefT),xs[j]? = some (V.ref ad) ∧ mg t.nm = some (.ref ad) ∧ defs[f]? = some t
  ts:∀ q ∈ Tx.ts,∃ a:Addr,mg q.1 = some (.ref a) ∧ ModS K a q.2
  cls:∀ c ∈ Tx.cls,∃ C,ClsIs K mg c C
noncomputable def ToldOk (K:PySem.W.Frag) (mg:Str → Option Value) (T:Tab) (defs:List DefT) (t:DefT):Prop:=∀ (P:Program) (w:World) (base:Heap) (n i:Nat) (f:Addr) (fd:FuncData),defs[i]? = some t → Fun K t.nm t.nm t.st f fd →
  (∀ i t,defs[i]? = some t → ∀ f fd,Fun K t.nm t.nm t.st f fd → FnOk P w K mg base (CXE P w) n f fd t.ps (spD K (callF T (defs.map DefT.df) n i) (T.fresh i))) →
  FnOk P w K mg base (CXE P w) (n + 1) f fd t.ps (spD K (callF T (defs.map DefT.df) (n + 1) i) (T.fresh i))
set_option genInjectivity false in
structure TextOk (K:PySem.W.Frag) (mg:Str → Option Value) (T:Tab) (Tx:Txt) (defs:List DefT):Prop extends TextOk0 K mg T Tx defs where
  told:∀ t ∈ defs,∀ td,t.told = some td → ToldOk K mg T defs t
theorem fun_okE {P:Program} {w:World} {K:PySem.W.Frag} {mg:Str → Option Value} {base:Heap} {x qual:Str} {st:Stmt} {f:Addr} {fd:FuncData} {N ps:List Str} {k:Nat} {sp:Sp} (F:Fun K x qual st f fd) (S:FnScope N ps (defScope st)) (len:∀ vs H Q E,sp vs H Q E → vs.length = ps.length)
    (hbody:∀ (cdv:Value) (A:Around) (outer:List Env) (s:Shared) (H:Hp) (vs:List V) (Q:VK) (E:XK),Room k (A.deeper (envOfC qual (defScope st) s.heap.objs.size f cdv)) → sp vs H Q E →
      ∃ t,PSs (cxOf (CXE P w) P w K mg base N qual (defScope st) f cdv A outer s H E) (defBody st) t ∧ t { nx:=fun _ H'=>Q .non H',rt:=Q } (start N vs) H):FnOk P w K mg base (CXE P w) (k + 1) f fd ps sp:=by
  obtain ⟨oc,od,kV,doc,pm,an,cdv,ct,osl,rfl,lk,hcd⟩:=F.ex
  exact fn_of lk hcd S len fun A outer s H vs Q E hr hsp=>hbody cdv A outer s H vs Q E hr hsp
section
variable {P:Program} {w:World} {K:PySem.W.Frag} {mg:Str → Option Value} {base:Heap} {T:Tab} {Tx:Txt} {defs:List DefT}
theorem fm_start {H:Hp} {O:Addr → Prop} {N:List Str} {ds:List D} {vs:List V} (w:RDs K H O ds vs) (tr:∀ a,O a → ∃ o,H a = some o) (n:Nat) (hn:n = N.length - vs.length) :
    Fm K H O H O (fun _=>none) (ds.map Sl.v ++ List.replicate n Sl.no) (start N vs) where
  len:=by
    unfold L2.start
    rw [List.length_append,List.length_append,List.length_map,List.length_map,List.length_replicate,List.length_replicate,w.length,hn,w.length]
  sl:=fun i=>by
    by_cases hi:i < ds.length
    · obtain ⟨v,h1,h2⟩:=w.get (List.getElem?_eq_getElem hi)
      have e1:Nv.at (ds.map Sl.v ++ List.replicate n Sl.no) i = .v ds[i]:=by
        unfold Nv.at
        rw [List.getElem?_append_left (by rw [List.length_map];exact hi),List.getElem?_map,List.getElem?_eq_getElem hi];rfl
      have e2:stAt (start N vs) i = some v:=by
        unfold stAt L2.start
        rw [List.getElem?_append_left (by rw [List.length_map,w.length];exact hi),List.getElem?_map,h1];rfl
      rw [e1,e2]
      exact ⟨v,rfl,h2⟩
    · have e1:Nv.at (ds.map Sl.v ++ List.replicate n Sl.no) i = .no:=by
        unfold Nv.at
        rw [List.getElem?_append_right (by rw [List.length_map];(first | lia | omega)),List.getElem?_replicate]
        split <;> rfl
      rw [e1];trivial
  inj:=fun _ _ _ h=>by cases h
  same:=Same.refl H
  sub:=fun _ h=>h
  trk0:=tr
  trk:=tr
  new:=fun _ _ h=>by cases h
theorem defs_ok (X:TextOk K mg T Tx defs):∀ n i t,defs[i]? = some t → ∀ f fd,Fun K t.nm t.nm t.st f fd → FnOk P w K mg base (CXE P w) n f fd t.ps (spD K (callF T (defs.map DefT.df) n i) (T.fresh i))
  | 0,i,t,hi,f,fd,F=>by
    have no:∀ vs H Q E,¬ spD K (callF T (defs.map DefT.df) 0 i) (T.fresh i) vs H Q E:=fun vs H Q E h=>by
      obtain ⟨O,ds,_,_,⟨d,ev,_⟩ | ⟨c,d,ev,_⟩⟩:=h
      · rw [callF] at ev;cases ev
      · rw [callF] at ev;cases ev
    exact ⟨fun vs H Q E h=>absurd h (no vs H Q E),fun A outer s H args us vs Q E _ _ _ _ h=>absurd h (no vs H Q E)⟩
  | n + 1,i,t,hi,f,fd,F=>by
    have ih:=defs_ok X n
    cases ht:t.told with
    | some td=>exact X.told t (List.mem_of_getElem? hi) td ht P w base n i f fd hi F ih
    | none =>
    have hok:=List.all_eq_true.mp X.ok t (List.mem_of_getElem? hi)
    unfold DefT.okB at hok
    rw [ht,Option.isSome_none,Bool.false_or,Bool.and_eq_true] at hok
    have S:=fnSc_of hok.1
    have hdf:(defs.map DefT.df)[i]? = some ⟨t.N.length,t.ps.length,t.body,none⟩:=by rw [List.getElem?_map,hi];show some (DefT.df t) = _;unfold DefT.df;rw [ht]
    have lenOf:∀ ds r,callF T (defs.map DefT.df) (n + 1) i ds = r → r ≠ .no → ds.length = t.ps.length:=by
      intro ds r ev hr
      rw [callF,hdf] at ev
      by_cases c:(ds.length == t.df.pars) = true
      · exact (by simpa using c:ds.length = t.df.pars)
      · have c':(ds.length == t.df.pars) = false:=by simpa using c
        have ev:when (ds.length == t.df.pars) _ = r:=ev
        rw [c'] at ev
        exact absurd ev.symm hr
    have open1:∀ ds,ds.length = t.ps.length → callF T (defs.map DefT.df) (n + 1) i ds = (match exX T (callF T (defs.map DefT.df) n) t.body (ds.map Sl.v ++ List.replicate (t.N.length - t.ps.length) Sl.no) with
        | some z=>.err z.1 z.2
        | none=>match exS T (callF T (defs.map DefT.df) n) t.body (ds.map Sl.v ++ List.replicate (t.N.length - t.ps.length) Sl.no) with
          | .ok (.rt x k)=>when (k || !T.fresh i) (.ok x)
          | .ok (.nx _)=>when (!T.fresh i) (.ok .non)
          | _=>.no):=by
      intro ds hl
      rw [callF,hdf]
      exact when_of (by simpa using hl) _
    have un:∀ ds d,callF T (defs.map DefT.df) (n + 1) i ds = .ok d → ∃ out,exS T (callF T (defs.map DefT.df) n) t.body (ds.map Sl.v ++ List.replicate (t.N.length - t.ps.length) Sl.no) = .ok out ∧
        ((∃ k,out = .rt d k ∧ (k = true ∨ T.fresh i = false)) ∨ (∃ e,out = .nx e ∧ d = .non ∧ T.fresh i = false)):=by
      intro ds d ev
      rw [open1 ds (lenOf ds _ ev (fun z=>by cases z))] at ev
      cases hx:exX T (callF T (defs.map DefT.df) n) t.body (ds.map Sl.v ++ List.replicate (t.N.length - t.ps.length) Sl.no) with
      | some z=>rw [hx] at ev;cases ev
      | none =>
        rw [hx] at ev
        cases hs:exS T (callF T (defs.map DefT.df) n) t.body (ds.map Sl.v ++ List.replicate (t.N.length - t.ps.length) Sl.no) with
        | ok out =>
          rw [hs] at ev
          refine ⟨out,rfl,?_⟩
          cases out with
          | nx e =>
            obtain ⟨c2,ev⟩:=when_ok ev
            cases ev
            exact .inr ⟨e,rfl,rfl,by simpa using c2⟩
          | rt x k =>
            obtain ⟨c2,ev⟩:=when_ok ev
            cases ev
            exact .inl ⟨k,rfl,by simpa using c2⟩
          | bk e=>cases ev
          | ct e=>cases ev
        | err _ _=>rw [hs] at ev;cases ev
        | no=>rw [hs] at ev;cases ev
    have unX:∀ ds c d,callF T (defs.map DefT.df) (n + 1) i ds = .err c d → exX T (callF T (defs.map DefT.df) n) t.body (ds.map Sl.v ++ List.replicate (t.N.length - t.ps.length) Sl.no) = some (c,d):=by
      intro ds c d ev
      rw [open1 ds (lenOf ds _ ev (fun z=>by cases z))] at ev
      cases hx:exX T (callF T (defs.map DefT.df) n) t.body (ds.map Sl.v ++ List.replicate (t.N.length - t.ps.length) Sl.no) with
      | some z=>rw [hx] at ev;cases ev;rfl
      | none =>
        rw [hx] at ev
        exfalso
        cases hs:exS T (callF T (defs.map DefT.df) n) t.body (ds.map Sl.v ++ List.replicate (t.N.length - t.ps.length) Sl.no) with
        | ok out =>
          rw [hs] at ev
          cases out with
          | nx e=>have ev:when (!T.fresh i) (Res.ok D.non) = Res.err c d:=ev;unfold when at ev;split at ev <;> cases ev
          | rt x k=>have ev:when (k || !T.fresh i) (Res.ok x) = Res.err c d:=ev;unfold when at ev;split at ev <;> cases ev
          | bk e=>cases ev
          | ct e=>cases ev
        | err _ _=>rw [hs] at ev;cases ev
        | no=>rw [hs] at ev;cases ev
    refine fun_okE F S (fun vs H Q E h=>?_) (fun cdv A outer s H vs Q E hr h=>?_)
    · obtain ⟨O,ds,_,rr,⟨d,ev,_⟩ | ⟨c,d,ev,_⟩⟩:=h
      · rw [rr.length];exact lenOf ds _ ev (fun z=>by cases z)
      · rw [rr.length];exact lenOf ds _ ev (fun z=>by cases z)
    · have dfi:∀ g t',defs[g]? = some t' → DefIs T (callF T (defs.map DefT.df) n) (cxOf (CXE P w) P w K mg base t.N t.nm (defScope t.st) f cdv A outer s H E).nox g t'.nm:=fun g t' e=>by
        obtain ⟨f',fd',F',m',b'⟩:=X.funs t' (List.mem_of_getElem? e)
        exact ⟨n,f',fd',t'.ps,ih g t' e f' fd' F',hr,m',F'.kp,b'⟩
      have okx:OkX T (callF T (defs.map DefT.df) n) Tx (cxOf (CXE P w) P w K mg base t.N t.nm (defScope t.st) f cdv A outer s H E).nox :=
        ⟨rfl,hr.units,fun g nm hg=>by
          rw [X.dn,List.getElem?_map] at hg
          cases e:defs[g]? with
          | none=>rw [e] at hg;cases hg
          | some t' =>
            rw [e] at hg
            cases hg
            exact dfi g t' e,fun g nm hg=>X.globs g nm hg,X.blt,S.nd,fun q hq=>by
          obtain ⟨a,xs,h1,h2,h3,h4⟩:=X.tf q hq
          refine ⟨a,xs,h1,h2,h3,fun j g hg=>?_⟩
          obtain ⟨ad,t',h5,h6,h7⟩:=h4 j g hg
          exact ⟨ad,t'.nm,h5,h6,dfi g t' h7⟩,X.ts⟩
      have oks:OkS T (callF T (defs.map DefT.df) n) Tx (cxOf (CXE P w) P w K mg base t.N t.nm (defScope t.st) f cdv A outer s H E).nox:=⟨okx,rfl,fun _=>rfl⟩
      obtain ⟨O,ds,tr,rr,⟨d,ev,k⟩ | ⟨c,d,ev,k⟩⟩:=h
      · have hl:=lenOf ds _ ev (fun z=>by cases z)
        obtain ⟨out,e1,e2⟩:=un ds d ev
        refine ⟨_,((wholeS t.body).2 _ _ oks hok.2 H O).nox,?_⟩
        refine ⟨[],_,out,⟨O,_,fm_start (N:=t.N) rr tr (t.N.length - t.ps.length) (by rw [rr.length,hl]),fun t ht=>by cases ht⟩,e1,?_⟩
        rcases e2 with ⟨fr,rfl,hf⟩ | ⟨e,rfl,rfl,hf⟩
        · intro v H' s' r nl
          refine k v H' s' r fun z=>nl ?_
          rcases hf with q | q
          · exact q
          · rw [z] at q;cases q
        · rintro σ' H' ⟨O',own',F',_⟩
          exact k .non H' F'.same rfl fun z=>by rw [z] at hf;cases hf
      · have hl:=lenOf ds _ ev (fun z=>by cases z)
        have oke:OkE T (callF T (defs.map DefT.df) n) Tx (cxOf (CXE P w) P w K mg base t.N t.nm (defScope t.st) f cdv A outer s H E) E :=
          ⟨oks,pass_xe,X.cls⟩
        refine ⟨_,(wholeX t.body).2 _ E _ oke (.inl fun pins σ H s h' a cls args I hm hE=>raise_xe I hm hE) hok.2 H O,?_⟩
        exact ⟨O,_,_,c,d,fm_start (N:=t.N) rr tr (t.N.length - t.ps.length) (by rw [rr.length,hl]),unX ds c d ev,k⟩
theorem law_sp {i n:Nat} (hT:∀ ns:List Int,ns.length ≤ 63 → callF T (defs.map DefT.df) n i [.lst (ns.map D.int)] = .ok (.bl true)) (K:PySem.W.Frag) (H:Hp) (a:Addr) (ns:List Int) (hl:ns.length ≤ 63) (hS:SqL K H a (ns.map V.int)) :
    spD K (callF T (defs.map DefT.df) n i) (T.fresh i) [.ref a] H (fun v _=>v = .bl true) (fun _ _ _=>False):=by
  refine ⟨no,[.lst (ns.map D.int)],fun a h=>h.elim,⟨.ref a,[],rfl,⟨a,ns.map V.int,rfl,?_,?_⟩,rfl⟩,.inl ⟨.bl true,hT ns hl,fun v H' _ r _=>r⟩⟩
  · rcases hS with z | z
    · exact .inl ⟨fun q=>q,z⟩
    · exact .inr z
  · clear hl hS
    induction ns with
    | nil=>exact rfl
    | cons i r ih=>exact ⟨.int i,r.map V.int,rfl,rfl,ih⟩
end
end Tr
namespace Tr
open PySem PySem.Spec PyProof.Rows L2 PySem.W
structure ToldT where
  ct:Str
  on:Str
  ost:Stmt
  oN:List Str
  op:Str
  ocs:List Str
section
variable {X:Cx} {i:Nat} {x c:Str} {C:Addr} {b:Bool} {p:Expr}
end
end Tr
namespace Tr
open PySem PySem.Spec PyProof.Rows L2 PySem.W
structure ToldK (K:PySem.W.Frag) (mg:Str → Option Value) (td:Told) (x:ToldT) (CT C:Addr):Prop where
  ct:ClsIs K mg x.ct CT
  c:ClsIs K mg td.c C
  mro:Tr.mroIn K C CT = true
  ec:ExcCls K C
  self:PySem.W.kitOne K (.ref C) (.ref C) = some true
  ve:PySem.W.kitOne K (.ref C) (.type "ValueError") = some true
  ocs:∀ c ∈ x.ocs,∃ D,mg c = some (.ref D) ∧ PySem.W.kitOne K (.ref C) (.ref D) = some false
  vm:mg "ValueError" = none
  oth:∃ f fd,Fun K x.on x.on x.ost f fd ∧ mg x.on = some (.ref f) ∧ Binds K fd [x.op] []
section
variable {T:Tab} {cf:Nat → List D → Res D}
end
section
variable {K:PySem.W.Frag} {mg:Str → Option Value} {T:Tab} {Tx:Txt} {defs:List DefT}
end
end Tr
namespace Tr
open PySem PySem.Spec PyProof.Rows L2 PySem.W
section
variable {K:PySem.W.Frag} {mg:Str → Option Value} {T:Tab} {Tx:Txt} {defs:List DefT}
theorem text_plain (X:TextOk0 K mg T Tx defs) (h:defs.filter (fun t=>t.told.isSome) = []):TextOk K mg T Tx defs :=
  ⟨X,fun t ht td e=>by
    have:t ∈ defs.filter (fun t=>t.told.isSome):=List.mem_filter.mpr ⟨ht,by rw [e];rfl⟩
    rw [h] at this;cases this⟩
end
end Tr
namespace Tr
open PySem PySem.Spec PyProof.Rows L2
theorem len1 {P:List Value → Prop} (h:∀ a0:Value,P [a0]):∀ us:List Value,us.length = 1 → P us
  | [_],_=>h _
theorem len2 {P:List Value → Prop} (h:∀ a0 a1:Value,P [a0,a1]):∀ us:List Value,us.length = 2 → P us
  | [_,_],_=>h _ _
theorem len3 {P:List Value → Prop} (h:∀ a0 a1 a2:Value,P [a0,a1,a2]):∀ us:List Value,us.length = 3 → P us
  | [_,_,_],_=>h _ _ _
theorem len4 {P:List Value → Prop} (h:∀ a0 a1 a2 a3:Value,P [a0,a1,a2,a3]):∀ us:List Value,us.length = 4 → P us
  | [_,_,_,_],_=>h _ _ _ _
theorem fun_in {K:PySem.W.Frag} {h:Heap} {mg:Str → Option Value} (X:K.In h) (G:h.Ns mainGlobals mg) {x:Str} {st:Stmt} {ps:List Str} {f:Addr} {oc:Value} {od an:Option Addr} {osl:Array (Option Value)} {kV doc pm cdv ct:Value}
    (a:PySem.W.nsIn K mainGlobals x = some (some (.ref f))) (l:K.lookup f = some ⟨oc,od,.func (PySem.W.fnOf x x (defArgs st) (defBody st) (defScope st) .none kV doc pm an cdv ct),osl⟩)
    (c:PySem.W.codeIn K cdv x = true) (k:PySem.W.keepIn K (.ref f) = true)
    (hb:∀ (kV doc pm:Value) (an:Option Addr) (cdv ct:Value) (us:List Value),us.length = ps.length → bindArgs (PySem.W.fnOf x x (defArgs st) (defBody st) (defScope st) .none kV doc pm an cdv ct) ⟨us,[]⟩ = pure (ps.zip us)) :
    ∃ f fd,Fun K x x st f fd ∧ mg x = some (.ref f) ∧ Binds K fd ps [] :=
  ⟨f,_,fun_mk l c k,PySem.W.mg_of X G a,(fun_mk (st:=st) l c k).binds hb⟩
noncomputable def strVals:List Value → List Str → Bool
  | [],[]=>true
  | .str x _ :: r,y :: q=>(x == y) && strVals r q
  | _,_=>false
noncomputable def Ents (K:PySem.W.Frag) (defs:List DefT):List Value → List Nat → Prop
  | [],[]=>True
  | u :: us,f :: fs=>(∃ ad t m,u = .ref ad ∧ defs[f]? = some t ∧ t.nm = m ∧ PySem.W.nsIn K mainGlobals m = some (some (.ref ad))) ∧ Ents K defs us fs
  | _,_=>False
theorem blt_none {K:PySem.W.Frag} {h:Heap} {mg:Str → Option Value} (X:K.In h) (G:h.Ns mainGlobals mg) {x:Str} (a:PySem.W.nsIn K mainGlobals x = some none):mg x = none:=PySem.W.mg_none_of X G a
theorem walkT {l:PySem.W.OpenLaw} {q:Program} {loose:List Str} {XP:(Str → Option Value) → Heap → Prop} {YP:World → Heap → Prop} {d:DefRec} {K:Params → PySem.W.Frag} {T:Tab} {Tx:Txt} {defs:List DefT} {i n:Nat} {tl:DefT} {x:Str}
    (hi:defs[i]? = some tl) (hps:tl.ps = [x]) (hnm:tl.nm = d.name)
    (hn:l.most = some 63) (hdf:d.params.defaults = []) (hr:Room n callerA)
    (hT:∀ ns:List Int,ns.length ≤ 63 → callF T (defs.map DefT.df) n i [.lst (ns.map D.int)] = .ok (.bl true))
    (hY:∀ (w:World) (h:Heap),YP w h → (K w.params).In h)
    (hX:∀ (w:World) (mg:Str → Option Value) (h:Heap),(K w.params).In h → h.Ns mainGlobals mg → TextOk (K w.params) mg T Tx defs)
    (hb:∀ (kV doc pm:Value) (an:Option Addr) (cdv ct:Value) (u:Value),bindArgs (PySem.W.fnOf tl.nm tl.nm (defArgs tl.st) (defBody tl.st) (defScope tl.st) .none kV doc pm an cdv ct) ⟨[u],[]⟩ = pure [(x,u)]) :
    PySem.W.WalkO q loose XP YP l.row.toRowW d [] (fun f vs=>PySem.call f vs):=by
  refine L2.walk_of (K:=K) (n:=63) (k:=n) (x:=x) (CX:=fun w=>CXE l.prog w) (sp:=fun w=>spD (K w.params) (callF T (defs.map DefT.df) n i) (T.fresh i)) hn (by decide) hdf hr hY ?_ (fun w H a ns hl _ hS=>law_sp hT (K w.params) H a ns hl hS) (fun _ _ _ _ _ ⟨_,_,_,_,_,_,_,_,_,_,_,_,_,_,_,z⟩=>z)
  intro w mg fa h KX G hmg
  have tx:=hX w mg h KX G
  obtain ⟨f,fd,F,m,_⟩:=tx.funs tl (List.mem_of_getElem? hi)
  rw [hnm,hmg] at m
  cases m
  refine ⟨fd,fun s u=>?_,fun base kb nb=>?_⟩
  · obtain ⟨oc,od,kV,doc,pm,an,cdv,ct,osl,rfl,lk,hcd⟩:=F.ex
    exact .of_eq (hb kV doc pm an cdv ct u)
  · have:=defs_ok (P:=l.prog) (w:=w) (base:=base) tx n i tl hi fa fd F
    rw [hps] at this
    exact this
end Tr
namespace Tr
theorem all_cons {α:Type} {p:α → Prop} {a:α} {l:List α} (h:p a) (r:∀ x ∈ l,p x):∀ x ∈ a :: l,p x:=List.forall_mem_cons.mpr ⟨h,r⟩
theorem all_nil {α:Type} {p:α → Prop}:∀ x ∈ ([]:List α),p x:=fun _ h=>by cases h
theorem gl_nil {α:Type} {p:Nat → α → Prop}:∀ g n,([]:List α)[g]? = some n → p g n:=fun g n e=>by simp at e
end Tr
namespace Tr
open PySem
section
variable {T:Tab} {cf:Nat → List D → Res D} {e:Nv}
@[simp] theorem evE_var {i:Nat}:evE T cf (.var i) e = (e.at i).val:=id rfl
@[simp] theorem evE_rd {i:Nat}:evE T cf (.rd i) e = (e.at i).any:=id rfl
@[simp] theorem evE_con {d:D}:evE T cf (.con d) e = .ok d:=id rfl
@[simp] theorem evE_bin {o:Operator} {a b:E}:evE T cf (.bin o a b) e = (do let x ← evE T cf a e;let y ← evE T cf b e;D.bin o x y):=id rfl
@[simp] theorem evE_cmp {o:CmpOp} {a b:E}:evE T cf (.cmp o a b) e = (do let x ← evE T cf a e;let y ← evE T cf b e;D.cmp o x y):=id rfl
@[simp] theorem evE_and {a b:E}:evE T cf (.and a b) e = (do let x ← evE T cf a e;let k ← x.truth;if k then evE T cf b e else .ok x):=id rfl
@[simp] theorem evE_or {a b:E}:evE T cf (.or a b) e = (do let x ← evE T cf a e;let k ← x.truth;if k then .ok x else evE T cf b e):=id rfl
@[simp] theorem evE_not {a:E}:evE T cf (.not a) e = (do let x ← evE T cf a e;let k ← x.truth;.ok (.bl (!k))):=id rfl
@[simp] theorem evE_ife {c a b:E}:evE T cf (.ife c a b) e = (do let x ← evE T cf c e;let k ← x.truth;if k then evE T cf a e else evE T cf b e):=id rfl
@[simp] theorem evE_ix {a b:E}:evE T cf (.ix a b) e = (do let x ← evE T cf a e;let y ← evE T cf b e;D.ix x y):=id rfl
@[simp] theorem evE_sl {a lo hi:E}:evE T cf (.sl a lo hi) e = (do let x ← evE T cf a e;let l ← evE T cf lo e;let l ← l.part;let h ← evE T cf hi e;let h ← h.part;D.sl x l h):=id rfl
@[simp] theorem evE_omit:evE T cf .omit e = .ok .non:=id rfl
@[simp] theorem evE_tup {a:E}:evE T cf (.tup a) e = (do let xs ← evA T cf a e;.ok (.tup xs)):=id rfl
@[simp] theorem evE_lst {a:E}:evE T cf (.lst a) e = (do let xs ← evA T cf a e;.ok (.lst xs)):=id rfl
@[simp] theorem evE_call {f:Nat} {a:E}:evE T cf (.call f a) e = (do let xs ← evA T cf a e;cf f xs):=id rfl
@[simp] theorem evE_bt {b:Bt} {a:E}:evE T cf (.bt b a) e = (do let xs ← evA T cf a e;b.run xs):=id rfl
@[simp] theorem evE_isi {a:E} {t:Ty}:evE T cf (.isi a t) e = (do let x ← evE T cf a e;when (!x.isDct) (.ok (.bl (x.isTy t)))):=id rfl
@[simp] theorem evE_mth {m:Mt} {a b:E}:evE T cf (.mth m a b) e = (do let x ← evE T cf a e;let y ← evE T cf b e;m.run x y):=id rfl
@[simp] theorem evE_maxd {a b:E}:evE T cf (.maxd a b) e = (do let x ← evE T cf a e;let y ← evE T cf b e;D.maxD x y):=id rfl
@[simp] theorem evE_sset {a:E}:evE T cf (.sset a) e = (do let x ← evE T cf a e;ssetR x):=id rfl
@[simp] theorem evE_lrng {a:E}:evE T cf (.lrng a) e = (do let x ← evE T cf a e;lrngR x):=id rfl
noncomputable def negR:D → Res D
  | .int i=>.ok (.int (-i))
  | _=>.no
@[simp] theorem neg_int {i:Int}:negR (.int i) = .ok (.int (-i)):=id rfl
@[simp] theorem evE_neg {a:E}:evE T cf (.neg a) e = (evE T cf a e >>= negR):=by
  rw [xE_neg]
  cases evE T cf a e with
  | ok x=>cases x <;> rfl
  | err _ _=>rfl
  | no=>rfl
noncomputable def thenC (r:Res D):D → Res D
  | .bl true=>r
  | .bl false=>.ok (.bl false)
  | _=>.no
@[simp] theorem thenC_bl {r:Res D} {b:Bool}:thenC r (.bl b) = if b = true then r else .ok (.bl false):=by cases b <;> rfl
@[simp] theorem evE_chain {o p:CmpOp} {a b c:E}:evE T cf (.chain o p a b c) e = (do
    let x ← evE T cf a e
    let y ← evE T cf b e
    let w ← D.cmp o x y
    thenC (do let z ← evE T cf c e;D.cmp p y z) w):=by
  rw [xE_chain]
  cases evE T cf a e with
  | ok x =>
    cases evE T cf b e with
    | ok y =>
      show (D.cmp o x y >>= _) = (D.cmp o x y >>= _)
      cases D.cmp o x y with
      | ok w =>
        cases w with
        | bl b=>cases b <;> rfl
        | _=>rfl
      | err _ _=>rfl
      | no=>rfl
    | err _ _=>rfl
    | no=>rfl
  | err _ _=>rfl
  | no=>rfl
noncomputable def compF (T:Tab) (cf:Nat → List D → Res D) (own:Nat) (caps:List Nat) (g:G) (elt cond:E) (e:Nv) (d:D):Res (Option D):=do
  let e1 ← g.put d (compEnv own caps e)
  let c ← evE T cf cond e1
  let k ← c.truth
  if k then do let y ← evE T cf elt e1;.ok (some y) else .ok none
@[simp] theorem evE_comp {own:Nat} {caps:List Nat} {g:G} {elt src cond:E}:evE T cf (.comp own caps g elt src cond) e = (do
    let ds ← evI T cf src e
    let ys ← compL (compF T cf own caps g elt cond e) ds
    when (decide (ds.length ≤ big)) (.ok (.lst ys))):=id rfl
@[simp] theorem evA_nil:evA T cf .anil e = .ok []:=id rfl
@[simp] theorem evA_cons {a r:E}:evA T cf (.acons a r) e = (do let x ← evE T cf a e;let q ← evA T cf r e;when (decide (q.length < 1000)) (.ok (x :: q))):=id rfl
@[simp] theorem evI_seq {a:E}:evI T cf (.seq a) e = (do let x ← evE T cf a e;x.items):=id rfl
noncomputable def rngR:D → Res (List D)
  | .int n=>when (small62 n) (.ok (rangeD 0 n.toNat))
  | _=>.no
noncomputable def rng2R:D → D → Res (List D)
  | .int n,.int m=>when (small62 n && small62 m) (.ok (rangeD n (m - n).toNat))
  | _,_=>.no
noncomputable def enumR:D → Res (List D)
  | .lst ds=>.ok (enumD 0 ds)
  | .tup ds=>.ok (enumD 0 ds)
  | _=>.no
@[simp] theorem evI_rng {a:E}:evI T cf (.rng a) e = (do let x ← evE T cf a e;rngR x):=by
  rw [xI_rng]
  cases evE T cf a e with
  | ok x=>cases x <;> rfl
  | err _ _=>rfl
  | no=>rfl
@[simp] theorem evI_rng2 {a b:E}:evI T cf (.rng2 a b) e = (do let x ← evE T cf a e;match x with | .int _=>do let y ← evE T cf b e;rng2R x y | _=>.no):=by
  rw [xI_rng2]
  cases evE T cf a e with
  | ok x =>
    cases x <;> try rfl
    show (do let y ← evE T cf b e;_) = (do let y ← evE T cf b e;_)
    cases evE T cf b e with
    | ok y=>cases y <;> rfl
    | err _ _=>rfl
    | no=>rfl
  | err _ _=>rfl
  | no=>rfl
@[simp] theorem evI_enum {a:E}:evI T cf (.enum a) e = (do let x ← evE T cf a e;enumR x):=by
  rw [xI_enum]
  cases evE T cf a e with
  | ok x=>cases x <;> rfl
  | err _ _=>rfl
  | no=>rfl
theorem rng_ok {n:Nat} (h:n < 4611686018427387904):rngR (.int n) = .ok (rangeD 0 n):=by
  show when (small62 n) _ = _
  rw [when_of (by unfold small62;rw [decide_eq_true (by (first | lia | omega)),decide_eq_true (by (first | lia | omega))];rfl)]
  simp
theorem rng2_ok {n m:Nat} (h:n < 4611686018427387904) (h2:m < 4611686018427387904):rng2R (.int n) (.int m) = .ok (rangeD n (m - n)):=by
  show when (small62 n && small62 m) _ = _
  rw [when_of (by unfold small62;rw [decide_eq_true (by (first | lia | omega)),decide_eq_true (by (first | lia | omega)),decide_eq_true (by (first | lia | omega)),decide_eq_true (by (first | lia | omega))];rfl)]
  congr 2
  (first | lia | omega)
@[simp] theorem enum_ok {ds:List D}:enumR (.lst ds) = .ok (enumD 0 ds):=id rfl
noncomputable def bodyF (T:Tab) (cf:Nat → List D → Res D) (g:G) (b:S) (d:D) (e0:Nv):Res Out:=do let e1 ← g.put d e0;exS T cf b e1
noncomputable def testF (T:Tab) (cf:Nat → List D → Res D) (c:E) (e0:Nv):Res Bool:=do let x ← evE T cf c e0;x.truth
noncomputable def thenS (T:Tab) (cf:Nat → List D → Res D) (r:S):Out → Res Out
  | .nx e1=>exS T cf r e1
  | o=>.ok o
@[simp] theorem thenS_nx {r:S}:thenS T cf r (.nx e) = exS T cf r e:=id rfl
@[simp] theorem thenS_rt {r:S} {d:D} {k:Bool}:thenS T cf r (.rt d k) = .ok (.rt d k):=id rfl
@[simp] theorem exS_nil:exS T cf .nil e = .ok (.nx e):=id rfl
@[simp] theorem exS_cons {a r:S}:exS T cf (.cons a r) e = (exS T cf a e >>= thenS T cf r):=by
  rw [xS_cons]
  cases exS T cf a e with
  | ok o=>cases o <;> rfl
  | err _ _=>rfl
  | no=>rfl
@[simp] theorem exS_ret {x:E}:exS T cf (.ret x) e = (do let d ← evE T cf x e;.ok (.rt d (freshE T x && !tupL d))):=id rfl
@[simp] theorem tupL_lst {a:List D}:tupL (.lst a) = false:=id rfl
@[simp] theorem exS_retO {i:Nat}:exS T cf (.retO i) e = (do let a ← (e.at i).ownA;.ok (.rt a true)):=id rfl
@[simp] theorem exS_asg {g:G} {x:E}:exS T cf (.asg g x) e = (do let d ← evE T cf x e;let e1 ← g.put d e;.ok (.nx e1)):=id rfl
noncomputable def setO (k:Bool) (i:Nat) (e:Nv):D → Res Out
  | .lst a=>when k (.ok (.nx (e.set i (.o (.lst a)))))
  | .dct a=>when k (.ok (.nx (e.set i (.o (.dct a)))))
  | .tdc a=>when k (.ok (.nx (e.set i (.o (.tdc a)))))
  | _=>.no
@[simp] theorem setO_ok {i:Nat} {a:List D}:setO true i e (.lst a) = .ok (.nx (e.set i (.o (.lst a)))):=id rfl
@[simp] theorem exS_asgO {i:Nat} {x:E}:exS T cf (.asgO i x) e = (do let d ← evE T cf x e;setO (freshE T x) i e d):=by
  rw [xS_asgO]
  cases evE T cf x e with
  | ok o=>cases o <;> rfl
  | err _ _=>rfl
  | no=>rfl
@[simp] theorem exS_ite {c:E} {a b:S}:exS T cf (.ite c a b) e = (do let x ← evE T cf c e;let k ← x.truth;if k then exS T cf a e else exS T cf b e):=id rfl
@[simp] theorem exS_for {g:G} {src:E} {b:S}:exS T cf (.forS g src b) e = (do let ds ← evI T cf src e;forL (bodyF T cf g b) ds e):=id rfl
@[simp] theorem exS_whl {n:Nat} {c:E} {b:S}:exS T cf (.whl n c b) e = whileL (testF T cf c) (exS T cf b) n e:=id rfl
@[simp] theorem exS_app {i:Nat} {x:E}:exS T cf (.app i x) e = (do
    let d ← evE T cf x e
    let a ← (e.at i).own
    when (decide (a.length < big)) (.ok (.nx (e.set i (.o (.lst (a ++ [d]))))))):=id rfl
@[simp] theorem exS_rev {i:Nat}:exS T cf (.rev i) e = (do let a ← (e.at i).own;.ok (.nx (e.set i (.o (.lst a.reverse))))):=id rfl
noncomputable def extO (k:Bool) (i:Nat) (e:Nv):D → Res Out
  | .lst b=>do
    let a ← (e.at i).own
    when (k && decide (a.length + b.length ≤ big)) (.ok (.nx (e.set i (.o (.lst (a ++ b))))))
  | _=>.no
@[simp] theorem exS_asgP {g:G} {i:Nat} {k:E}:exS T cf (.asgP g i k) e = (do
    let a ← (e.at i).own
    let d ← evE T cf k e
    let j ← popAt a.length k d
    let y ← Res.of a[j]?
    let e1 ← g.put y (e.set i (.o (.lst (a.eraseIdx j))))
    .ok (.nx e1)):=id rfl
@[simp] theorem exS_aug {i:Nat} {o:Operator} {x:E}:exS T cf (.aug i o x) e = (do
    let d ← (e.at i).val
    let y ← evE T cf x e
    let z ← D.aug o d y
    .ok (.nx (e.set i (.v z)))):=id rfl
@[simp] theorem aug_add {i j:Int}:D.aug .Add (.int i) (.int j) = .ok (.int (i + j)):=id rfl
@[simp] theorem fresh_lst {a:E}:freshE T (.lst a) = true:=id rfl
@[simp] theorem fresh_add {a b:E}:freshE T (.bin .Add a b) = true:=id rfl
@[simp] theorem fresh_comp {n:Nat} {c:List Nat} {g:G} {x y z:E}:freshE T (.comp n c g x y z) = true:=id rfl
@[simp] theorem fresh_call {f:Nat} {a:E}:freshE T (.call f a) = T.fresh f:=id rfl
end
@[simp] theorem when_if {α:Type} {c:Bool} (h:c = true) (r:Res α):when c r = r:=when_of h r
@[simp] theorem at_zero {x:Sl} {r:List Sl}:Nv.at (x :: r) 0 = x:=id rfl
@[simp] theorem at_succ {x:Sl} {r:List Sl} {i:Nat}:Nv.at (x :: r) (i + 1) = Nv.at r i:=id rfl
@[simp] theorem val_v {d:D}:(Sl.v d).val = .ok d:=id rfl
@[simp] theorem any_o {d:D}:(Sl.o d).any = .ok d:=id rfl
@[simp] theorem own_o {a:List D}:(Sl.o (.lst a)).own = .ok a:=id rfl
@[simp] theorem ownA_o {d:D}:(Sl.o d).ownA = .ok d:=id rfl
@[simp] theorem isDct_int {i:Int}:(D.int i).isDct = false:=id rfl
@[simp] theorem isDct_tup {i:List D}:(D.tup i).isDct = false:=id rfl
@[simp] theorem isDct_lst {i:List D}:(D.lst i).isDct = false:=id rfl
@[simp] theorem put_one {i:Nat} {d:D} {e:Nv}:G.put (.one i) d e = .ok (e.set i (.v d)):=id rfl
@[simp] theorem put_many {is:List Nat} {ds:List D} {e:Nv}:G.put (.many is) (.tup ds) e = puts is ds e:=id rfl
@[simp] theorem puts_nil {e:Nv}:puts [] [] e = .ok e:=id rfl
@[simp] theorem puts_cons {i:Nat} {is:List Nat} {d:D} {ds:List D} {e:Nv}:puts (i :: is) (d :: ds) e = puts is ds (e.set i (.v d)):=id rfl
@[simp] theorem truth_bl {b:Bool}:(D.bl b).truth = .ok b:=id rfl
@[simp] theorem bin_add {i j:Int}:D.bin .Add (.int i) (.int j) = .ok (.int (i + j)):=id rfl
@[simp] theorem bin_sub {i j:Int}:D.bin .Sub (.int i) (.int j) = .ok (.int (i - j)):=id rfl
@[simp] theorem bin_mulL {i j:Int} (h:-(2 ^ 64) < i ∧ i < 2 ^ 64):D.bin .Mult (.int i) (.int j) = .ok (.int (i * j)):=by
  show when (small64 i || small64 j) _ = _
  rw [when_of]
  unfold small64
  rw [decide_eq_true h.1,decide_eq_true h.2];rfl
@[simp] theorem bin_mulR {i j:Int} (h:-(2 ^ 64) < j ∧ j < 2 ^ 64):D.bin .Mult (.int i) (.int j) = .ok (.int (i * j)):=by
  show when (small64 i || small64 j) _ = _
  rw [when_of]
  unfold small64
  rw [decide_eq_true h.1,decide_eq_true h.2];simp
@[simp] theorem bin_mod {i j:Int} (h:0 < j):D.bin .Mod (.int i) (.int j) = .ok (.int (i % j)):=by
  show when (decide (0 < j)) _ = _
  rw [when_of (decide_eq_true h)]
@[simp] theorem bin_fdiv {i j:Int} (h:0 < j ∧ j < 1073741824):D.bin .FloorDiv (.int i) (.int j) = .ok (.int (i / j)):=by
  show when (decide (0 < j) && decide (j < 1073741824)) _ = _
  rw [when_of]
  rw [decide_eq_true h.1,decide_eq_true h.2];rfl
@[simp] theorem cmp_lt {i j:Int}:D.cmp .Lt (.int i) (.int j) = .ok (.bl (decide (i < j))):=id rfl
@[simp] theorem cmp_le {i j:Int}:D.cmp .LtE (.int i) (.int j) = .ok (.bl (decide (i ≤ j))):=id rfl
@[simp] theorem cmp_gt {i j:Int}:D.cmp .Gt (.int i) (.int j) = .ok (.bl (decide (j < i))):=id rfl
@[simp] theorem cmp_ge {i j:Int}:D.cmp .GtE (.int i) (.int j) = .ok (.bl (decide (j ≤ i))):=id rfl
@[simp] theorem cmp_eqi {i j:Int}:D.cmp .Eq (.int i) (.int j) = .ok (.bl (i == j)):=id rfl
@[simp] theorem cmp_nei {i j:Int}:D.cmp .NotEq (.int i) (.int j) = .ok (.bl (!(i == j))):=id rfl
@[simp] theorem cmp_is {a:D}:D.cmp .Is a .non = .ok (.bl a.isNon):=id rfl
@[simp] theorem cmp_isnot {a:D}:D.cmp .IsNot a .non = .ok (.bl (!a.isNon)):=id rfl
@[simp] theorem isNon_non:D.non.isNon = true:=id rfl
@[simp] theorem run_len_l {a:List D}:Bt.run .len [.lst a] = .ok (.int a.length):=id rfl
@[simp] theorem run_len_t {a:List D}:Bt.run .len [.tup a] = .ok (.int a.length):=id rfl
@[simp] theorem run_lst_l {a:List D}:Bt.run .list [.lst a] = .ok (.lst a):=id rfl
theorem intsOf_map:∀ ns:List Int,intsOf (ns.map D.int) = .ok ns
  | []=>rfl
  | i :: r=>by rw [List.map_cons,intsOf,intsOf_map r];rfl
@[simp] theorem part_int {i:Int}:(D.int i).part = .ok (some i):=id rfl
@[simp] theorem part_non:D.non.part = .ok none:=id rfl
@[simp] theorem sl_l {a:List D} {lo hi:Option Int}:D.sl (.lst a) lo hi = .ok (.lst (cut a lo hi)):=id rfl
@[simp] theorem items_l {a:List D}:(D.lst a).items = .ok a:=id rfl
theorem ix_l {a:List D} {i:Nat} {d:D} (h:a[i]? = some d):D.ix (.lst a) (.int i) = .ok d:=by
  have hi:=(List.getElem?_eq_some_iff.mp h).1
  show Res.of (atI a i) = _
  unfold atI ixN
  rw [if_pos (Int.natCast_nonneg i),if_pos (by (first | lia | omega))]
  simp [h,Res.of]
theorem ix_t {a:List D} {i:Nat} {d:D} (h:a[i]? = some d):D.ix (.tup a) (.int i) = .ok d:=by
  have hi:=(List.getElem?_eq_some_iff.mp h).1
  show Res.of (atI a i) = _
  unfold atI ixN
  rw [if_pos (Int.natCast_nonneg i),if_pos (by (first | lia | omega))]
  simp [h,Res.of]
theorem callF_rt {T:Tab} {D:List Df} {n f:Nat} {ds:List Tr.D} {d:Df} {x:Tr.D} {k:Bool} (h:D[f]? = some d) (hl:ds.length = d.pars) (hk:(k || !T.fresh f) = true)
    (he:exS T (callF T D n) d.body (ds.map Sl.v ++ List.replicate (d.names - d.pars) Sl.no) = .ok (.rt x k)) (ht:d.told = none:=by rfl):callF T D (n + 1) f ds = .ok x:=by
  rw [callF,h]
  show when (ds.length == d.pars) _ = _
  rw [when_of (by simpa using hl),ht]
  cases hx:exX T (callF T D n) d.body (ds.map Sl.v ++ List.replicate (d.names - d.pars) Sl.no) with
  | some z=>exact absurd he (exX_not hx _)
  | none =>
    dsimp only
    rw [he]
    show when (k || !T.fresh f) _ = _
    rw [when_of hk]
@[simp] theorem ix_t0 {a:D} {r:List D}:D.ix (.tup (a :: r)) (.int 0) = .ok a:=ix_t (i:=0) rfl
@[simp] theorem ix_t1 {a b:D} {r:List D}:D.ix (.tup (a :: b :: r)) (.int 1) = .ok b:=ix_t (i:=1) rfl
@[simp] theorem ix_t2 {a b c:D} {r:List D}:D.ix (.tup (a :: b :: c :: r)) (.int 2) = .ok c:=ix_t (i:=2) rfl
@[simp] theorem ix_t3 {a b c d:D} {r:List D}:D.ix (.tup (a :: b :: c :: d :: r)) (.int 3) = .ok d:=ix_t (i:=3) rfl
@[simp] theorem ix_t4 {a b c d e:D} {r:List D}:D.ix (.tup (a :: b :: c :: d :: e :: r)) (.int 4) = .ok e:=ix_t (i:=4) rfl
@[simp] theorem ix_l0 {a:D} {r:List D}:D.ix (.lst (a :: r)) (.int 0) = .ok a:=ix_l (i:=0) rfl
theorem forL_nil {f:D → Nv → Res Out} {e:Nv}:forL f [] e = .ok (.nx e):=rfl
theorem forL_nx {f:D → Nv → Res Out} {d:D} {r:List D} {e e1:Nv} (h:f d e = .ok (.nx e1)):forL f (d :: r) e = forL f r e1:=by rw [forL,h];rfl
theorem forL_ct {f:D → Nv → Res Out} {d:D} {r:List D} {e e1:Nv} (h:f d e = .ok (.ct e1)):forL f (d :: r) e = forL f r e1:=by rw [forL,h];rfl
theorem forL_rt {f:D → Nv → Res Out} {d:D} {r:List D} {e:Nv} {x:D} {k:Bool} (h:f d e = .ok (.rt x k)):forL f (d :: r) e = .ok (.rt x k):=by rw [forL,h];rfl
theorem rangeD_eq:∀ (lo:Int) (n:Nat),rangeD lo n = (List.range n).map fun i=>.int (lo + (i:Int))
  | lo,0=>rfl
  | lo,n + 1=>by
    rw [rangeD,rangeD_eq (lo + 1) n,List.range_succ_eq_map,List.map_cons,List.map_map]
    congr 1
    · simp
    · apply List.map_congr_left
      intro i _
      simp only [Function.comp]
      congr 1
      push_cast
      (first | lia | omega)
theorem whileL_inv {c:Nv → Res Bool} {f:Nv → Res Out} (I:Nat → Nv → Prop) (st:∀ k e,I (k + 1) e → c e = .ok true ∧ ∃ e',f e = .ok (.nx e') ∧ I k e') (en:∀ e,I 0 e → c e = .ok false) :
    ∀ (k n:Nat) (e:Nv),I k e → k < n → ∃ e',whileL c f n e = .ok (.nx e') ∧ I 0 e'
  | 0,n + 1,e,h,_=>⟨e,by rw [whileL,en e h];rfl,h⟩
  | k + 1,n + 1,e,h,hn=>by
    obtain ⟨h1,e',h2,h3⟩:=st k e h
    obtain ⟨e2,h4,h5⟩:=whileL_inv I st en k n e' h3 (by (first | lia | omega))
    refine ⟨e2,?_,h5⟩
    rw [whileL,h1,Res.ok_bind,if_pos rfl,h2]
    exact h4
end Tr
set_option maxRecDepth 100000
namespace Tr
open PySem
noncomputable def cellV (ns:List Int) (k:Nat):Int:=ns.getD k 0
noncomputable def mixV (c k:Int):Int:=(c * 48271 + k * k * 69621 + 5) % 2147483647
set_option genInjectivity false in
structure Part where
  name:Str
  voice:Str
  off:Int
  on:Int
noncomputable def Part.enc (p:Part):D:=.tup [.str p.name,.str p.voice,.int p.off,.int p.on]
structure Scene where
  name:Str
  len:Int
  pause:Int
  who:List Nat
noncomputable def natD (ws:List Nat):List D:=ws.map fun (i:Nat)=>D.int (i:Int)
noncomputable def Scene.enc (s:Scene):D:=.tup [.str s.name,.int s.len,.int s.pause,.tup (natD s.who)]
theorem ix_str {x:Str} {i:Nat} (h:i < x.cps.size) (hb:x.length ≤ big):∃ y:Str,D.ix (.str x) (.int i) = .ok (.str y) ∧ y.length = 1:=by
  refine ⟨⟨#[x.cps[i]]⟩,?_,rfl⟩
  show when (decide (x.length ≤ big)) (Res.of ((atI x.cps.toList i).map fun c=>D.str ⟨#[c]⟩)) = _
  rw [when_of (decide_eq_true hb)]
  unfold atI ixN
  rw [if_pos (Int.natCast_nonneg i),if_pos (by simp;(first | lia | omega))]
  simp [h,Res.of]
@[simp] theorem add_str {x y:Str} (h:x.length + y.length ≤ big):D.bin .Add (.str x) (.str y) = .ok (.str (x ++ y)):=by
  show when (decide (x.length + y.length ≤ big)) _ = _
  rw [when_of (decide_eq_true h)]
theorem ten_big:(1000:Nat) < big:=by decide
set_option genInjectivity false in
structure GoodScene (many:Nat) (s:Scene):Prop where
  len:0 ≤ s.len
  pause:0 ≤ s.pause
  nd:s.who.Nodup
  lt:∀ i ∈ s.who,i < many
theorem natD_mem (i:Nat):∀ ws:List Nat,D.mem (.int i) (natD ws) = decide (i ∈ ws)
  | []=>rfl
  | w :: r=>by
    show (D.eqb (.int w) (.int i) || D.mem (.int i) (natD r)) = _
    rw [natD_mem i r]
    have:D.eqb (.int w) (.int i) = decide (i = w):=by
      show ((w:Int) == (i:Int)) = _
      by_cases h:i = w
      · subst h;simp
      · rw [decide_eq_false h];simp;(first | lia | omega)
    rw [this]
    by_cases h1:i = w <;> by_cases h2:i ∈ r <;> simp [h1,h2]
theorem natD_pls (k:Nat):∀ ws:List Nat,D.pls (k + 1) (natD ws) = true
  | []=>rfl
  | w :: r=>by
    show (D.pl k (.int w) && D.pls (k + 1) (natD r)) = true
    rw [natD_pls k r];cases k <;> rfl
theorem pls_map {α:Type} (f:α → D) (k:Nat) (h:∀ a,D.pl k (f a) = true):∀ xs:List α,D.pls (k + 1) (xs.map f) = true
  | []=>rfl
  | a :: r=>by rw [List.map_cons,D.pls,h a,pls_map f k h r];rfl
@[simp] theorem pl_tup {n:Nat} {a:List D}:D.pl n (.tup a) = D.pls n a:=by rw [D.pl]
@[simp] theorem pl_lst {n:Nat} {a:List D}:D.pl n (.lst a) = D.pls n a:=by rw [D.pl]
theorem cmp_same {a:D} (h:D.pl 30 a = true):D.cmp .Eq a a = .ok (.bl true):=by
  show when (D.eqOk a a) (.ok (D.bl (D.eqb a a))) = _
  rw [D.eqb_refl 30 a h,when_of (by unfold D.eqOk;rw [h];rfl)]
theorem cmp_same_ne {a:D} (h:D.pl 30 a = true):D.cmp .NotEq a a = .ok (.bl false):=by
  show when (D.eqOk a a) (.ok (D.bl (!D.eqb a a))) = _
  rw [D.eqb_refl 30 a h,when_of (by unfold D.eqOk;rw [h];rfl)];rfl
noncomputable def Scene.both (s:Scene):Int:=s.len + s.pause
theorem take_add_one {α:Type} (l:List α) (n:Nat) (a:α) (h:l[n]? = some a):l.take (n + 1) = l.take n ++ [a]:=by
  rw [List.take_add_one,h];rfl
end Tr
set_option maxRecDepth 100000
namespace Tr
open PySem
noncomputable def natI (t:Nat):D:=.int (t:Int)
theorem rangeD_nat (lo n:Nat):rangeD (lo:Int) n = (List.range' lo n).map natI:=by
  rw [rangeD_eq,List.range'_eq_map_range,List.map_map]
  apply List.map_congr_left
  intro i _
  simp [natI]
theorem rng_nat {n:Nat} (h:n ≤ 1000):rngR (.int (n:Int)) = .ok ((List.range n).map natI):=by
  rw [rng_ok (by (first | lia | omega)),rangeD_eq]
  congr 1
  apply List.map_congr_left
  intro i _
  simp [natI]
theorem rng2_succ {s m:Nat} (h:s ≤ 1000) (h2:m ≤ 1000):rng2R (.int ((s:Int) + 1)) (.int (m:Int)) = .ok ((List.range' (s + 1) (m - (s + 1))).map natI):=by
  have:rng2R (.int ((s + 1:Nat):Int)) (.int (m:Int)) = _:=rng2_ok (by (first | lia | omega)) (by (first | lia | omega))
  rw [rangeD_nat] at this
  exact this
theorem forL_findN {f:D → Nv → Res Out} (I:Nv → Prop) (g:Nat → Option (D × Bool)) (ts:List Nat) (e:Nv) (h:I e)
    (st:∀ t ∈ ts,∀ e,I e → match g t with | some (x,k)=>f (natI t) e = .ok (.rt x k) | none=>∃ e',(f (natI t) e = .ok (.nx e') ∨ f (natI t) e = .ok (.ct e')) ∧ I e') :
    match ts.findSome? g with | some (x,k)=>forL f (ts.map natI) e = .ok (.rt x k) | none=>∃ e',forL f (ts.map natI) e = .ok (.nx e') ∧ I e':=by
  induction ts generalizing e with
  | nil=>exact ⟨e,rfl,h⟩
  | cons t r ih =>
    have h1:=st t List.mem_cons_self e h
    rw [List.findSome?_cons,List.map_cons]
    cases hg:g t with
    | some y =>
      rw [hg] at h1
      exact forL_rt h1
    | none =>
      rw [hg] at h1
      obtain ⟨e',h2,h3⟩:=h1
      have eq:forL f (natI t :: r.map natI) e = forL f (r.map natI) e':=by
        rcases h2 with h2 | h2
        · exact forL_nx h2
        · exact forL_ct h2
      rw [eq]
      exact ih e' h3 fun d' hd=>st d' (List.mem_cons_of_mem _ hd)
theorem findSome_omap {α β γ:Type} (h:α → Option β) (F:β → γ):∀ l:List α,l.findSome? (fun t=>(h t).map F) = (l.findSome? h).map F
  | []=>rfl
  | a :: r=>by
    rw [List.findSome?_cons,List.findSome?_cons]
    cases e:h a with
    | none=>simp [findSome_omap h F r]
    | some b=>rfl
inductive Rz where
  | sc (s:Nat) | ch (s t:Nat) (have_ need:Int)
noncomputable def Rz.enc:Rz → D
  | .sc s=>.tup [.str "scene", .int s]
  | .ch s t h n=>.tup [.str "change", .int s,.int t,.int h,.int n]
noncomputable def optR:Option Rz → D
  | none=>.non
  | some r=>r.enc
noncomputable def whoAt (ss:List Scene) (t:Nat):List Nat:=((ss[t]?).map Scene.who).getD []
noncomputable def needV (ps:List Part) (i j:Nat):Int:=((ps[i]?).map Part.off).getD 0 + ((ps[j]?).map Part.on).getD 0
noncomputable def begV (ss:List Scene) (k:Nat):Int:=((ss.take k).map Scene.both).sum
noncomputable def Rz.out (r:Rz):D × Bool:=(r.enc,false)
end Tr
set_option maxRecDepth 100000
namespace Tr
open PySem
theorem compL_enc {α:Type} {f:D → Res (Option D)} (enc:α → D) (g:α → Option D):∀ {xs:List α},(∀ a ∈ xs,f (enc a) = .ok (g a)) → compL f (xs.map enc) = .ok (xs.filterMap g)
  | [],_=>rfl
  | a :: r,h=>by
    rw [List.map_cons,compL,h a List.mem_cons_self,Res.ok_bind,compL_enc enc g fun x hx=>h x (List.mem_cons_of_mem _ hx),Res.ok_bind,List.filterMap_cons]
    cases g a <;> rfl
theorem compL_keep {α:Type} {f:D → Res (Option D)} (enc:α → D) (p:α → Bool) {xs:List α} (h:∀ a ∈ xs,f (enc a) = .ok (if p a = true then some (enc a) else none)):compL f (xs.map enc) = .ok ((xs.filter p).map enc):=by
  rw [compL_enc enc (fun a=>if p a = true then some (enc a) else none) h]
  congr 1
  induction xs with
  | nil=>rfl
  | cons a r ih =>
    rw [List.filterMap_cons,List.filter_cons,ih fun x hx=>h x (List.mem_cons_of_mem _ hx)]
    cases p a <;> rfl
noncomputable def pairD (p:Nat × Nat):D:=.tup [.int p.1,.int p.2]
noncomputable def pairsFrom (many i:Nat):List (Nat × Nat):=(List.range' (i + 1) (many - (i + 1))).map fun j=>(i,j)
noncomputable def pairsTo (many:Nat):Nat → List (Nat × Nat)
  | 0=>[]
  | k + 1=>pairsTo many k ++ pairsFrom many k
noncomputable def pairsOf (many:Nat):List (Nat × Nat):=pairsTo many many
theorem pairsFrom_mem {many i:Nat} {p:Nat × Nat} (h:p ∈ pairsFrom many i):p.1 = i ∧ i < p.2 ∧ p.2 < many:=by
  obtain ⟨j,hj,rfl⟩:=List.mem_map.mp h
  have:=List.mem_range'_1.mp hj
  exact ⟨rfl,by (first | lia | omega),by (first | lia | omega)⟩
theorem pairsTo_mem {many:Nat} {p:Nat × Nat}:∀ {k:Nat},p ∈ pairsTo many k → p.1 < p.2 ∧ p.2 < many
  | 0,h=>by simp [pairsTo] at h
  | k + 1,h=>by
    rcases List.mem_append.mp h with q | q
    · exact pairsTo_mem q
    · have:=pairsFrom_mem q;(first | lia | omega)
theorem pairsTo_length (many:Nat):∀ k,(pairsTo many k).length ≤ k * many
  | 0=>by simp [pairsTo]
  | k + 1=>by
    have:=pairsTo_length many k
    rw [pairsTo,List.length_append,pairsFrom,List.length_map,List.length_range',Nat.succ_mul]
    (first | lia | omega)
noncomputable def lenAt (ss:List Scene) (t:Nat):Int:=((ss[t]?).map Scene.len).getD 0
noncomputable def lastEnd (ss:List Scene) (one:Nat):Nat → Option Int
  | 0=>none
  | k + 1=>if one ∈ whoAt ss k then some (begV ss k + lenAt ss k) else lastEnd ss one k
noncomputable def hitAt (ps:List Part) (ss:List Scene) (one other t:Nat):Bool :=
  decide (other ∈ whoAt ss t) && (match lastEnd ss one t with | some e=>decide (begV ss t - e < needV ps one other) | none=>false)
noncomputable def hit (ps:List Part) (ss:List Scene) (i j t:Nat):Bool:=(decide (i ∈ whoAt ss t) && decide (j ∈ whoAt ss t)) || hitAt ps ss i j t || hitAt ps ss j i t
end Tr
set_option maxRecDepth 100000
namespace Tr
open PySem
end Tr
namespace Tr
open PySem
theorem blsOf_map (f:α → Bool):∀ xs:List α,blsOf (xs.map fun x=>D.bl (f x)) = .ok (xs.map f)
  | []=>rfl
  | x :: r=>by
    rw [List.map_cons,blsOf,blsOf_map f r];rfl
noncomputable def hasC (g:Str) (c:Nat):Bool:=decide (c ∈ g.cps.toList)
noncomputable def signs (x:Str):List Nat:=x.cps.toList
@[simp] theorem run_all (xs:List D):Bt.run .all [.lst xs] = (do let q ← blsOf xs;.ok (.bl (q.all id))):=id rfl
section
variable {T:Tab}
@[simp] theorem fresh_cmp {o:CmpOp} {a b:E}:freshE T (.cmp o a b) = false:=id rfl
@[simp] theorem fresh_mod {a b:E}:freshE T (.bin .Mod a b) = false:=id rfl
@[simp] theorem fresh_all {a:E}:freshE T (.bt .all a) = false:=id rfl
@[simp] theorem fresh_con {d:D}:freshE T (.con d) = false:=id rfl
@[simp] theorem fresh_var {i:Nat}:freshE T (.var i) = false:=id rfl
@[simp] theorem fresh_tup {a:E}:freshE T (.tup a) = false:=id rfl
end
end Tr
namespace Tr
open PySem
theorem cut_from {α:Type} {xs:List α} {a:Nat} (ha:a ≤ xs.length):cut xs (some (a:Int)) none = xs.drop a:=by
  unfold cut sIx
  simp only []
  rw [if_neg (by (first | lia | omega)),Int.toNat_natCast,Nat.min_eq_left ha,List.take_of_length_le (by simp)]
theorem add_lsts {a b:List D} (h:a.length + b.length ≤ big):D.bin .Add (.lst a) (.lst b) = .ok (.lst (a ++ b)):=by
  show when (decide (a.length + b.length ≤ big)) (.ok (D.lst (a ++ b))) = _
  rw [show decide (a.length + b.length ≤ big) = true by simpa using h]
  rfl
end Tr
set_option maxRecDepth 100000
namespace Tr
open PySem
set_option genInjectivity false in
structure Player where
  name:Str
  voices:Str
  hire:Int
noncomputable def Player.enc (p:Player):D:=.tup [.str p.name,.str p.voices,.int p.hire]
noncomputable def optN:Option Nat → D
  | none=>.non
  | some j=>.int (j:Int)
theorem natI_pl (k:Nat) (o:Nat):D.pl k (natI o) = true:=by cases k <;> rfl
theorem cmp_lst_nil_ne {xs:List D} (h:D.pls 30 xs = true):D.cmp .NotEq (.lst xs) (.lst []) = .ok (.bl (!xs.isEmpty)):=by
  show when (D.eqOk _ _) (.ok (D.bl (!D.eqb (.lst xs) (.lst [])))) = _
  rw [when_of (by unfold D.eqOk;rw [pl_lst,h];rfl)]
  cases xs <;> simp [D.eqb,D.eqs]
inductive Flt where
  | nob (i:Nat) | voi (i k:Nat) | cla (i j:Nat)
noncomputable def Flt.enc:Flt → D
  | .nob i=>.tup [.str "nobody", .int i]
  | .voi i k=>.tup [.str "voice", .int i,.int k]
  | .cla i j=>.tup [.str "clash", .int i,.int j]
noncomputable def optF:Option Flt → D
  | none=>.non
  | some x=>x.enc
theorem enumD_range {α:Type} (f:α → D) (x:α):∀ (cs:List α) (j:Nat),enumD (j:Int) (cs.map f) = (List.range cs.length).map (fun k=>D.tup [.int ((j + k:Nat):Int),f (cs.getD k x)])
  | [],_=>rfl
  | c :: r,j=>by
    rw [List.map_cons,enumD,List.length_cons,List.range_succ_eq_map,List.map_cons,List.map_map]
    have h:=enumD_range f x r (j + 1)
    rw [show ((j + 1:Nat):Int) = (j:Int) + 1 by push_cast;rfl] at h
    rw [h]
    congr 1
    apply List.map_congr_left
    intro k _
    simp only [Function.comp,List.getD_cons_succ]
    congr 4
    (first | lia | omega)
noncomputable def Flt.names (p:Nat):Flt → Bool
  | .nob i=>i == p
  | .voi i _=>i == p
  | .cla i j=>i == p || j == p
end Tr
set_option maxRecDepth 100000
namespace Tr
open PySem
theorem pairD_pl (k:Nat) (p:Nat × Nat):D.pl (k + 1) (pairD p) = true:=by
  show D.pls (k + 1) [D.int _,D.int _] = true
  simp only [D.pls,D.pl,Bool.and_true,Bool.true_and]
end Tr
set_option maxRecDepth 100000
namespace Tr
open PySem
theorem pairwise_two {α:Type} {R:α → α → Prop}:∀ {l:List α},l.Pairwise R → ∀ {a b:α},a ∈ l → b ∈ l → a ≠ b → R a b ∨ R b a
  | [],_,a,b,ha,_,_=>by cases ha
  | c :: l,h,a,b,ha,hb,ne=>by
    obtain ⟨h1,h2⟩:=List.pairwise_cons.mp h
    rcases List.mem_cons.mp ha with qa | qa
    · rcases List.mem_cons.mp hb with qb | qb
      · exact absurd (qa.trans qb.symm) ne
      · rw [qa];exact .inl (h1 b qb)
    · rcases List.mem_cons.mp hb with qb | qb
      · rw [qb];exact .inr (h1 a qa)
      · exact pairwise_two h2 qa qb ne
end Tr
namespace Tr
open PySem
theorem pairD_eqb (p q:Nat × Nat):D.eqb (pairD p) (pairD q) = decide (p = q):=by
  show D.eqs [D.int _,D.int _] [D.int _,D.int _] = _
  have:D.eqs [D.int (p.1:Int),D.int (p.2:Int)] [D.int (q.1:Int),D.int (q.2:Int)] = (((p.1:Int) == (q.1:Int)) && (((p.2:Int) == (q.2:Int)) && true)):=rfl
  rw [this,Bool.eq_iff_iff]
  simp
  constructor
  · rintro ⟨a,b⟩;exact Prod.ext (by (first | lia | omega)) (by (first | lia | omega))
  · rintro rfl;exact ⟨rfl,rfl⟩
theorem mem_pairD (p:Nat × Nat):∀ ps:List (Nat × Nat),D.mem (pairD p) (ps.map pairD) = decide (p ∈ ps)
  | []=>rfl
  | q :: r=>by
    rw [List.map_cons,D.mem,mem_pairD p r,pairD_eqb]
    by_cases h1:q = p
    · subst h1;simp
    · have h2:¬ p = q:=fun z=>h1 z.symm
      by_cases h3:p ∈ r <;> simp [h1,h2,h3]
theorem in_pairD (p:Nat × Nat) (ps:List (Nat × Nat)):D.cmp .In (pairD p) (.lst (ps.map pairD)) = .ok (.bl (decide (p ∈ ps))):=by
  show (do let k ← when (D.pls 30 (ps.map pairD) && D.pl 29 (pairD p)) (.ok (D.mem (pairD p) (ps.map pairD)));.ok (D.bl k)) = _
  rw [pls_map pairD 29 (pairD_pl 28),pairD_pl 28,mem_pairD];rfl
noncomputable def Flt.fst:Flt → Nat
  | .nob i=>i
  | .voi i _=>i
  | .cla i _=>i
end Tr
set_option maxRecDepth 100000
namespace Tr
open PySem
noncomputable def usedV (g:List Nat):Nat:=g.foldl (fun m x=>max m (x + 1)) 0
theorem foldl_ge:∀ (g:List Nat) (m:Nat),m ≤ g.foldl (fun m x=>max m (x + 1)) m
  | [],m=>Nat.le_refl _
  | y :: r,m=>by
    have:=foldl_ge r (max m (y + 1))
    rw [List.foldl_cons];(first | lia | omega)
theorem used_lt:∀ {g:List Nat} {m x:Nat},x ∈ g → x < g.foldl (fun m x=>max m (x + 1)) m
  | y :: r,m,x,h=>by
    rw [List.foldl_cons]
    rcases List.mem_cons.mp h with rfl | h
    · have:=foldl_ge r (max m (x + 1));(first | lia | omega)
    · exact used_lt h
theorem maxI_used:∀ (r:List Nat) (n:Nat),maxI (n:Int) (r.map fun i:Nat=>(i:Int)) = ((r.foldl (fun m x=>max m (x + 1)) (n + 1):Nat):Int) - 1
  | [],n=>by simp [maxI]
  | x :: r,n=>by
    rw [List.map_cons,maxI,List.foldl_cons]
    by_cases c:x > n
    · rw [if_pos (by (first | lia | omega)),maxI_used r x,Nat.max_eq_right (by (first | lia | omega))]
    · rw [if_neg (by (first | lia | omega)),maxI_used r n,Nat.max_eq_left (by (first | lia | omega))]
theorem ints_nat:∀ g:List Nat,intsOf (g.map natI) = .ok (g.map fun i:Nat=>(i:Int))
  | []=>rfl
  | x :: r=>by rw [List.map_cons,natI,intsOf,ints_nat r];rfl
theorem maxD_used (g:List Nat):D.maxD (.lst (g.map natI)) (.int (-1)) = .ok (.int ((usedV g:Int) - 1)):=by
  show (do match ← intsOf (g.map natI) with | n :: ns=>.ok (D.int (maxI n ns)) | []=>.ok (D.int (-1))) = _
  rw [ints_nat]
  cases g with
  | nil=>rfl
  | cons x r =>
    show Res.ok (D.int (maxI (x:Int) (r.map fun i:Nat=>(i:Int)))) = _
    rw [maxI_used]
    unfold usedV
    rw [List.foldl_cons,Nat.max_eq_right (by (first | lia | omega))]
noncomputable def joinB (ps:List (Nat × Nat)) (g:List Nat) (x:Nat):Bool:=(List.range g.length).all fun i=>!(g.getD i 0 == x) || !decide ((i,g.length) ∈ ps)
noncomputable def gw (ps:List (Nat × Nat)) (k:Nat):Nat → List Nat → Option (List Nat)
  | 0,g=>some g
  | r + 1,g=>(List.range (min (usedV g + 1) k)).findSome? fun x=>if joinB ps g x = true then gw ps k r (g ++ [x]) else none
noncomputable def okG (ps:List (Nat × Nat)) (g:List Nat):Prop:=∀ p ∈ ps,p.2 < g.length → g.getD p.1 0 ≠ g.getD p.2 0
theorem getD_left {g:List Nat} {x i:Nat} (h:i < g.length):(g ++ [x]).getD i 0 = g.getD i 0:=by
  rw [List.getD_eq_getElem?_getD,List.getD_eq_getElem?_getD,List.getElem?_append_left h]
theorem getD_right {g:List Nat} {x:Nat}:(g ++ [x]).getD g.length 0 = x:=by
  rw [List.getD_eq_getElem?_getD,List.getElem?_append_right (Nat.le_refl _)];simp
theorem gw_sound {ps:List (Nat × Nat)} (hp:∀ p ∈ ps,p.1 < p.2) {k:Nat}:∀ {r:Nat} {g h:List Nat},gw ps k r g = some h → okG ps g → (∀ x ∈ g,x < k) → okG ps h ∧ (∀ x ∈ h,x < k) ∧ h.length = g.length + r
  | 0,g,h,e,h1,h2=>by cases e;exact ⟨h1,h2,rfl⟩
  | r + 1,g,h,e,h1,h2=>by
    rw [gw] at e
    obtain ⟨x,hx,e⟩:=List.exists_of_findSome?_eq_some e
    have hx:x < min (usedV g + 1) k:=by simpa using hx
    by_cases c:joinB ps g x = true
    · rw [if_pos c] at e
      have ok:okG ps (g ++ [x]):=by
        intro p hm hl
        rw [List.length_append,List.length_singleton] at hl
        have lt:=hp p hm
        by_cases q:p.2 < g.length
        · rw [getD_left (by (first | lia | omega)),getD_left q]
          exact h1 p hm q
        · have e2:p.2 = g.length:=by (first | lia | omega)
          rw [getD_left (by (first | lia | omega)),e2,getD_right]
          unfold joinB at c
          have:=List.all_eq_true.mp c p.1 (by simp;(first | lia | omega))
          intro z
          have hm':(p.1,g.length) ∈ ps:=by rw [← e2];exact hm
          rw [z] at this
          simp [hm'] at this
      obtain ⟨a,b,l⟩:=gw_sound hp e ok (by
        intro y hy
        rcases List.mem_append.mp hy with hy | hy
        · exact h2 y hy
        · rw [List.mem_singleton.mp hy];(first | lia | omega))
      exact ⟨a,b,by rw [l,List.length_append,List.length_singleton];(first | lia | omega)⟩
    · rw [if_neg c] at e;cases e
theorem find_isSome {α β:Type} {f:α → Option β}:∀ {l:List α} {x:α},x ∈ l → (f x).isSome = true → (l.findSome? f).isSome = true
  | a :: r,x,h,e=>by
    rw [List.findSome?_cons]
    cases q:f a with
    | some b=>rfl
    | none =>
      rcases List.mem_cons.mp h with rfl | h
      · rw [q] at e;cases e
      · exact find_isSome h e
theorem gw_full {ps:List (Nat × Nat)} {k:Nat}:∀ {r:Nat} {g:List Nat} (c:Nat → Nat),(∀ p ∈ ps,c p.1 ≠ c p.2) → (∀ v,v < g.length + r → c v < k) → (∀ i,i < g.length → g.getD i 0 = c i) → (gw ps k r g).isSome = true
  | 0,g,c,_,_,_=>rfl
  | r + 1,g,c,h1,h2,h3=>by
    have go:∀ c:Nat → Nat,(∀ p ∈ ps,c p.1 ≠ c p.2) → (∀ v,v < g.length + (r + 1) → c v < k) → (∀ i,i < g.length → g.getD i 0 = c i) → c g.length ≤ usedV g → (gw ps k (r + 1) g).isSome = true:=by
      intro c h1 h2 h3 hu
      rw [gw]
      refine find_isSome (x:=c g.length) (by have:=h2 g.length (by (first | lia | omega));simp;(first | lia | omega)) ?_
      have j:joinB ps g (c g.length) = true:=by
        unfold joinB
        rw [List.all_eq_true]
        intro i hi
        have hi:i < g.length:=by simpa using hi
        by_cases q:(i,g.length) ∈ ps
        · have:=h1 _ q
          have h3':=h3 i hi
          rw [h3']
          simp;left;exact this
        · simp [q]
      rw [if_pos j]
      refine gw_full c h1 (fun v hv=>h2 v (by rw [List.length_append,List.length_singleton] at hv;(first | lia | omega))) fun i hi=>?_
      rw [List.length_append,List.length_singleton] at hi
      by_cases q:i < g.length
      · rw [getD_left q];exact h3 i q
      · rw [show i = g.length by (first | lia | omega),getD_right]
    by_cases hu:c g.length ≤ usedV g
    · exact go c h1 h2 h3 hu
    · have hk:=h2 g.length (by (first | lia | omega))
      refine go (fun v=>if c v = c g.length then usedV g else if c v = usedV g then c g.length else c v) ?_ ?_ ?_ ?_
      · intro p hp
        have:=h1 p hp
        try dsimp only
        split <;> split <;> (try split) <;> (try split) <;> (first | lia | omega)
      · intro v hv
        have:=h2 v hv
        try dsimp only
        split
        · (first | lia | omega)
        · split
          · exact hk
          · exact this
      · intro i hi
        have e:=h3 i hi
        have lt:g.getD i 0 < usedV g:=by
          refine used_lt (m:=0) ?_
          rw [List.getD_eq_getElem?_getD,List.getElem?_eq_getElem hi]
          exact List.getElem_mem hi
        try dsimp only
        rw [if_neg (by (first | lia | omega)),if_neg (by (first | lia | omega))]
        exact e
      · try dsimp only
        rw [if_pos rfl];exact Nat.le_refl _
noncomputable def Col (many:Nat) (ps:List (Nat × Nat)) (k:Nat):Prop:=∃ c:Nat → Nat,(∀ p ∈ ps,c p.1 ≠ c p.2) ∧ ∀ v,v < many → c v < k
theorem col_gw {many k:Nat} {ps:List (Nat × Nat)} (hp:∀ p ∈ ps,p.1 < p.2 ∧ p.2 < many):(gw ps k many []).isSome = true ↔ Col many ps k:=by
  constructor
  · intro h
    obtain ⟨g,e⟩:=Option.isSome_iff_exists.mp h
    obtain ⟨a,b,l⟩:=gw_sound (fun p hm=>(hp p hm).1) e (by intro p _ z;simp at z) (by simp)
    rw [List.length_nil,Nat.zero_add] at l
    refine ⟨fun v=>g.getD v 0,fun p hm=>a p hm (by rw [l];exact (hp p hm).2),fun v hv=>?_⟩
    try dsimp only
    rw [List.getD_eq_getElem?_getD,List.getElem?_eq_getElem (by (first | lia | omega))]
    exact b _ (List.getElem_mem _)
  · rintro ⟨c,h1,h2⟩
    exact gw_full c h1 (by simpa using h2) (by simp)
theorem col_many {many:Nat} {ps:List (Nat × Nat)} (hp:∀ p ∈ ps,p.1 < p.2 ∧ p.2 < many):Col many ps many:=⟨id,fun p hm=>by have:=hp p hm;show p.1 ≠ p.2;(first | lia | omega),fun v hv=>hv⟩
noncomputable def Chi (many:Nat) (ps:List (Nat × Nat)) (k:Nat):Prop:=Col many ps k ∧ ∀ k',k' < k → ¬ Col many ps k'
theorem chi_eq {m m':Nat} {ps ps':List (Nat × Nat)} {k k':Nat} (h:Chi m ps k) (h':Chi m' ps' k') (e:∀ q,Col m ps q ↔ Col m' ps' q):k = k':=by
  rcases Nat.lt_trichotomy k k' with l | l | l
  · exact absurd ((e k).mp h.1) (h'.2 k l)
  · exact l
  · exact absurd ((e k').mpr h'.1) (h.2 k' l)
end Tr
namespace Tr
open PySem
inductive Tre where
  | crowd (ps:List Nat) | pair (i j:Nat) (a b:Tre)
noncomputable def Tre.enc:Tre → D
  | .crowd ps=>.tup [.str "crowd", .lst (ps.map natI)]
  | .pair i j a b=>.tup [.str "pair", .int (i:Int),.int (j:Int),a.enc,b.enc]
noncomputable def Tre.ok (many:Nat):Tre → Prop
  | .crowd ps=>(∀ p ∈ ps,p < many) ∧ ps.length ≤ many
  | .pair i j a b=>i < many ∧ j < many ∧ a.ok many ∧ b.ok many
noncomputable def Tre.deep:Tre → Nat
  | .crowd _=>0
  | .pair _ _ a b=>max a.deep b.deep + 1
noncomputable def cV (cs:List Nat) (x:Nat):Nat:=cs.getD x 0
noncomputable def putV (cs:List Nat) (i j:Nat):List Nat:=cs.map fun n=>if n = cV cs j then cV cs i else n
noncomputable def ccV (cs:List Nat) (qs:List (Nat × Nat)):List (Nat × Nat):=qs.map fun p=>(min (cV cs p.1) (cV cs p.2),max (cV cs p.1) (cV cs p.2))
noncomputable def numsV (l:List Nat):List Nat:=(List.range 8).filter fun i=>l.contains i
noncomputable def upB (pr:List (Nat × Nat)):List Nat → Bool
  | []=>true
  | n :: r=>(r.all fun o=>decide ((n,o) ∈ pr)) && upB pr r
noncomputable def crowdV (cs:List Nat) (qs:List (Nat × Nat)) (k:Nat) (ps:List Nat):Bool :=
  !(decide (ps.length < k) || decide ((numsV (ps.map (cV cs))).length < ps.length)) && upB (ccV cs qs) (numsV (ps.map (cV cs)))
noncomputable def showsV (cs:List Nat) (qs:List (Nat × Nat)) (k:Nat):Tre → Bool
  | .crowd ps=>crowdV cs qs k ps
  | .pair i j a b=>showsV (putV cs i j) qs k a && showsV cs (qs ++ [(i,j)]) k b
noncomputable def blkV (bs:List (List Nat)) (x:Nat):List Nat:=(bs.filter fun b=>decide (x ∈ b)).headD []
noncomputable def togV (bs:List (List Nat)) (i j:Nat):List (List Nat) :=
  if blkV bs i = blkV bs j then bs else (bs.filter fun b=>!(decide (b = blkV bs i) || decide (b = blkV bs j))) ++ [blkV bs i ++ blkV bs j]
noncomputable def apartV (qs:List (Nat × Nat)) (one other:List Nat):Bool:=one.any fun i=>other.any fun j=>decide ((i,j) ∈ qs) || decide ((j,i) ∈ qs)
noncomputable def farB (bs:List (List Nat)) (qs:List (Nat × Nat)) (x y:Nat):Bool:=!(decide (blkV bs x = blkV bs y) || !apartV qs (blkV bs x) (blkV bs y))
noncomputable def meetB (bs:List (List Nat)) (qs:List (Nat × Nat)) (ps:List Nat):Bool:=(List.range ps.length).all fun j=>(List.range j).all fun i=>farB bs qs (ps.getD i 0) (ps.getD j 0)
noncomputable def shownV (bs:List (List Nat)) (qs:List (Nat × Nat)) (k:Nat):Tre → Bool
  | .crowd ps=>!decide (ps.length < k) && meetB bs qs ps
  | .pair i j a b=>shownV (togV bs i j) qs k a && shownV bs (qs ++ [(i,j)]) k b
set_option genInjectivity false in
structure Cls (many:Nat) (cs:List Nat) (bs:List (List Nat)):Prop where
  len:cs.length = many
  lt:∀ v ∈ cs,v < 8
  blk:∀ x,x < many → ∃ B,bs.filter (fun b=>decide (x ∈ b)) = [B] ∧ ∀ y,y ∈ B ↔ (y < many ∧ cV cs y = cV cs x)
theorem Cls.at {many:Nat} {cs:List Nat} {bs:List (List Nat)} (h:Cls many cs bs) {x:Nat} (hx:x < many):bs.filter (fun b=>decide (x ∈ b)) = [blkV bs x] ∧ ∀ y,y ∈ blkV bs x ↔ (y < many ∧ cV cs y = cV cs x):=by
  obtain ⟨B,h1,h2⟩:=h.blk x hx
  have e:blkV bs x = B:=by unfold blkV;rw [h1];rfl
  rw [e];exact ⟨h1,h2⟩
theorem Cls.same {many:Nat} {cs:List Nat} {bs:List (List Nat)} (h:Cls many cs bs) {x y:Nat} (hx:x < many) (hy:y < many):blkV bs x = blkV bs y ↔ cV cs x = cV cs y:=by
  obtain ⟨f1,m1⟩:=h.at hx
  obtain ⟨f2,m2⟩:=h.at hy
  constructor
  · intro e
    have:y ∈ blkV bs x:=by rw [e];exact (m2 y).mpr ⟨hy,rfl⟩
    exact ((m1 y).mp this).2.symm
  · intro e
    have hin:blkV bs x ∈ bs.filter (fun b=>decide (y ∈ b)):=by
      have h1:blkV bs x ∈ bs.filter (fun b=>decide (x ∈ b)):=by rw [f1];exact List.mem_singleton.mpr rfl
      exact List.mem_filter.mpr ⟨(List.mem_filter.mp h1).1,decide_eq_true ((m1 y).mpr ⟨hy,e.symm⟩)⟩
    rw [f2] at hin
    exact List.mem_singleton.mp hin
theorem cV_lt {many:Nat} {cs:List Nat} {bs:List (List Nat)} (h:Cls many cs bs) {x:Nat} (hx:x < many):cV cs x < 8:=by
  unfold cV
  have hx':x < cs.length:=by rw [h.len];exact hx
  rw [List.getD_eq_getElem?_getD,List.getElem?_eq_getElem hx']
  exact h.lt _ (List.getElem_mem hx')
theorem cV_put {cs:List Nat} {i j x:Nat} (hx:x < cs.length):cV (putV cs i j) x = if cV cs x = cV cs j then cV cs i else cV cs x:=by
  unfold putV
  show ((cs.map fun n=>if n = cV cs j then cV cs i else n).getD x 0) = _
  rw [List.getD_eq_getElem?_getD,List.getElem?_map,List.getElem?_eq_getElem hx]
  show (if cs[x] = cV cs j then cV cs i else cs[x]) = _
  have e:cV cs x = cs[x]:=by unfold cV;rw [List.getD_eq_getElem?_getD,List.getElem?_eq_getElem hx];rfl
  rw [e]
theorem Cls.put {many:Nat} {cs:List Nat} {bs:List (List Nat)} (h:Cls many cs bs) {i j:Nat} (hi:i < many) (hj:j < many):Cls many (putV cs i j) (togV bs i j):=by
  have hl:(putV cs i j).length = many:=by unfold putV;rw [List.length_map];exact h.len
  have hlt:∀ v ∈ putV cs i j,v < 8:=by
    intro v hv
    unfold putV at hv
    obtain ⟨n,hn,e⟩:=List.mem_map.mp hv
    rw [← e]
    split
    · exact cV_lt h hi
    · exact h.lt n hn
  have cp:∀ x,x < many → cV (putV cs i j) x = if cV cs x = cV cs j then cV cs i else cV cs x:=fun x hx=>cV_put (by rw [h.len];exact hx)
  refine ⟨hl,hlt,fun x hx=>?_⟩
  obtain ⟨fi,mi⟩:=h.at hi
  obtain ⟨fj,mj⟩:=h.at hj
  obtain ⟨fx,mx⟩:=h.at hx
  unfold togV
  by_cases e:blkV bs i = blkV bs j
  · rw [if_pos e]
    have eij:=(h.same hi hj).mp e
    refine ⟨blkV bs x,fx,fun y=>?_⟩
    rw [mx y]
    constructor
    · rintro ⟨hy,q⟩
      refine ⟨hy,?_⟩
      rw [cp y hy,cp x hx,q]
    · rintro ⟨hy,q⟩
      rw [cp y hy,cp x hx,eij] at q
      refine ⟨hy,?_⟩
      split at q <;> split at q <;> (first | lia | omega)
  · rw [if_neg e]
    have nij:¬ cV cs i = cV cs j:=fun q=>e ((h.same hi hj).mpr q)
    rw [List.filter_append,List.filter_filter]
    by_cases c:cV cs x = cV cs i ∨ cV cs x = cV cs j
    · refine ⟨blkV bs i ++ blkV bs j,?_,fun y=>?_⟩
      · have hb:blkV bs x = blkV bs i ∨ blkV bs x = blkV bs j:=c.imp (h.same hx hi).mpr (h.same hx hj).mpr
        have h1:bs.filter (fun b=>decide (x ∈ b) && !(decide (b = blkV bs i) || decide (b = blkV bs j))) = []:=by
          rw [List.filter_eq_nil_iff]
          intro b hb' q
          rw [Bool.and_eq_true] at q
          have:b ∈ bs.filter (fun b=>decide (x ∈ b)):=List.mem_filter.mpr ⟨hb',q.1⟩
          rw [fx] at this
          rw [List.mem_singleton.mp this] at q
          rcases hb with hb | hb <;> simp [hb] at q
        have h2:x ∈ blkV bs i ++ blkV bs j:=by
          rw [List.mem_append,mi x,mj x]
          exact c.imp (fun q=>⟨hx,q⟩) (fun q=>⟨hx,q⟩)
        rw [h1,List.nil_append,List.filter_cons_of_pos (by simpa using h2),List.filter_nil]
      · rw [List.mem_append,mi y,mj y]
        constructor
        · rintro (⟨hy,q⟩ | ⟨hy,q⟩)
          · refine ⟨hy,?_⟩
            rw [cp y hy,cp x hx]
            split <;> split <;> (first | lia | omega)
          · refine ⟨hy,?_⟩
            rw [cp y hy,cp x hx]
            split <;> split <;> (first | lia | omega)
        · rintro ⟨hy,q⟩
          rw [cp y hy,cp x hx] at q
          split at q <;> split at q <;> first | (left;exact ⟨hy,by (first | lia | omega)⟩) | (right;exact ⟨hy,by (first | lia | omega)⟩)
    · have c1:¬ cV cs x = cV cs i:=fun q=>c (.inl q)
      have c2:¬ cV cs x = cV cs j:=fun q=>c (.inr q)
      refine ⟨blkV bs x,?_,fun y=>?_⟩
      · have n1:¬ blkV bs x = blkV bs i:=fun q=>c1 ((h.same hx hi).mp q)
        have n2:¬ blkV bs x = blkV bs j:=fun q=>c2 ((h.same hx hj).mp q)
        have h1:bs.filter (fun b=>decide (x ∈ b) && !(decide (b = blkV bs i) || decide (b = blkV bs j))) = [blkV bs x]:=by
          have e2:bs.filter (fun b=>decide (x ∈ b) && !(decide (b = blkV bs i) || decide (b = blkV bs j))) = (bs.filter (fun b=>decide (x ∈ b))).filter (fun b=>!(decide (b = blkV bs i) || decide (b = blkV bs j))):=by
            rw [List.filter_filter]
            congr 1
            funext b
            exact Bool.and_comm _ _
          rw [e2,fx]
          simp [n1,n2]
        have h2:¬ x ∈ blkV bs i ++ blkV bs j:=by
          rw [List.mem_append,mi x,mj x]
          rintro (q | q)
          · exact c1 q.2
          · exact c2 q.2
        rw [h1,List.filter_cons_of_neg (by simpa using h2),List.filter_nil,List.append_nil]
      · rw [mx y]
        constructor
        · rintro ⟨hy,q⟩
          refine ⟨hy,?_⟩
          rw [cp y hy,cp x hx,if_neg c2,if_neg (by (first | lia | omega))]
          exact q
        · rintro ⟨hy,q⟩
          rw [cp y hy,cp x hx,if_neg c2] at q
          refine ⟨hy,?_⟩
          split at q <;> (first | lia | omega)
theorem Cls.start (many:Nat) (hm:many ≤ 8):Cls many (List.range many) ((List.range many).map fun x=>[x]):=by
  have cv:∀ x,x < many → cV (List.range many) x = x:=by
    intro x hx
    unfold cV
    rw [List.getD_eq_getElem?_getD,List.getElem?_range hx]
    rfl
  refine ⟨List.length_range,fun v hv=>by have:=List.mem_range.mp hv;(first | lia | omega),fun x hx=>⟨[x],?_,fun y=>?_⟩⟩
  · rw [List.filter_map]
    have e:((fun b:List Nat=>decide (x ∈ b)) ∘ fun x=>[x]) = fun y=>decide (x = y):=by
      funext y;simp
    rw [e]
    have:∀ n,x < n → (List.range n).filter (fun y=>decide (x = y)) = [x]:=by
      intro n
      induction n with
      | zero=>intro h;(first | lia | omega)
      | succ n ih =>
        intro h
        rw [List.range_succ,List.filter_append]
        by_cases c:x < n
        · rw [ih c]
          have:¬ x = n:=by (first | lia | omega)
          simp [this]
        · have e:x = n:=by (first | lia | omega)
          have:(List.range n).filter (fun y=>decide (x = y)) = []:=by
            rw [List.filter_eq_nil_iff]
            intro a ha
            have:=List.mem_range.mp ha
            simp;(first | lia | omega)
          rw [this]
          simp [e]
    rw [this many hx];rfl
  · rw [List.mem_singleton]
    constructor
    · rintro rfl;exact ⟨hx,rfl⟩
    · rintro ⟨hy,q⟩
      rw [cv y hy,cv x hx] at q;exact q
theorem filter_one {P:Nat → Bool} {a:Nat}:∀ {R:List Nat},R.Nodup → a ∈ R → (R.filter fun i=>decide (i = a) || P i).length = (R.filter P).length + if P a = true then 0 else 1
  | [],_,h=>by cases h
  | r :: R,nd,h=>by
    obtain ⟨n1,n2⟩:=List.nodup_cons.mp nd
    by_cases c:r = a
    · subst c
      have e:R.filter (fun i=>decide (i = r) || P i) = R.filter P:=by
        apply List.filter_congr
        intro i hi
        have:¬ i = r:=fun q=>n1 (q ▸ hi)
        simp [this]
      rw [List.filter_cons_of_pos (by simp),e,List.filter_cons]
      split <;> simp_all
    · have ha:a ∈ R:=by
        rcases List.mem_cons.mp h with h | h
        · exact absurd h.symm c
        · exact h
      have ih:=filter_one (P:=P) n2 ha
      rw [List.filter_cons,List.filter_cons]
      have e:(decide (r = a) || P r) = P r:=by simp [c]
      rw [e]
      split
      · rw [List.length_cons,List.length_cons,ih];(first | lia | omega)
      · exact ih
theorem nums_cons {a:Nat} (ha:a < 8) (l:List Nat):(numsV (a :: l)).length = (numsV l).length + if a ∈ l then 0 else 1:=by
  unfold numsV
  have e:(fun i=>(a :: l).contains i) = fun i=>decide (i = a) || l.contains i:=by
    funext i
    rw [List.contains_cons]
    congr 1
  rw [e,filter_one List.nodup_range (List.mem_range.mpr ha)]
  congr 1
  simp only [List.contains_iff_mem]
theorem nums_le:∀ {l:List Nat},(∀ a ∈ l,a < 8) → (numsV l).length ≤ l.length
  | [],_=>by decide
  | a :: l,h=>by
    rw [nums_cons (h a List.mem_cons_self),List.length_cons]
    have:=nums_le (l:=l) fun x hx=>h x (List.mem_cons_of_mem _ hx)
    split <;> (first | lia | omega)
theorem nums_nodup:∀ {l:List Nat},(∀ a ∈ l,a < 8) → (l.length ≤ (numsV l).length ↔ l.Nodup)
  | [],_=>by simp
  | a :: l,h=>by
    have hl:∀ x ∈ l,x < 8:=fun x hx=>h x (List.mem_cons_of_mem _ hx)
    have ih:=nums_nodup hl
    have le:=nums_le hl
    rw [nums_cons (h a List.mem_cons_self),List.length_cons,List.nodup_cons,← ih]
    split
    · constructor
      · intro q;(first | lia | omega)
      · rintro ⟨q,_⟩;exact absurd (by assumption) q
    · constructor
      · intro q;exact ⟨by assumption,by (first | lia | omega)⟩
      · rintro ⟨_,q⟩;(first | lia | omega)
theorem nums_mem {l:List Nat} (h:∀ a ∈ l,a < 8) {v:Nat}:v ∈ numsV l ↔ v ∈ l:=by
  unfold numsV
  rw [List.mem_filter,List.mem_range,List.contains_iff_mem]
  exact ⟨fun q=>q.2,fun q=>⟨h v q,q⟩⟩
theorem nums_sorted (l:List Nat):(numsV l).Pairwise (· < ·):=List.Pairwise.filter _ List.pairwise_lt_range
theorem up_iff {pr:List (Nat × Nat)}:∀ {l:List Nat},upB pr l = true ↔ l.Pairwise fun a b=>(a,b) ∈ pr
  | []=>by simp [upB]
  | a :: l=>by
    rw [upB,Bool.and_eq_true,List.pairwise_cons,up_iff,List.all_eq_true]
    simp only [decide_eq_true_eq]
noncomputable def clC (cs:List Nat) (qs:List (Nat × Nat)) (u v:Nat):Prop:=∃ q ∈ qs,(cV cs q.1 = u ∧ cV cs q.2 = v) ∨ (cV cs q.1 = v ∧ cV cs q.2 = u)
theorem clC_symm {cs:List Nat} {qs:List (Nat × Nat)} {u v:Nat} (h:clC cs qs u v):clC cs qs v u:=let ⟨q,h1,h2⟩:=h;⟨q,h1,h2.symm⟩
theorem cc_mem {cs:List Nat} {qs:List (Nat × Nat)} {u v:Nat} (h:u < v):(u,v) ∈ ccV cs qs ↔ clC cs qs u v:=by
  unfold ccV clC
  rw [List.mem_map]
  constructor
  · rintro ⟨q,hq,e⟩
    refine ⟨q,hq,?_⟩
    have e1:=congrArg Prod.fst e
    have e2:=congrArg Prod.snd e
    dsimp only at e1 e2
    (first | lia | omega)
  · rintro ⟨q,hq,e⟩
    refine ⟨q,hq,?_⟩
    rw [Prod.mk.injEq]
    (first | lia | omega)
theorem far_iff {many:Nat} {cs:List Nat} {bs:List (List Nat)} (h:Cls many cs bs) {qs:List (Nat × Nat)} (hq:∀ q ∈ qs,q.1 < many ∧ q.2 < many) {x y:Nat} (hx:x < many) (hy:y < many) :
    farB bs qs x y = true ↔ cV cs x ≠ cV cs y ∧ clC cs qs (cV cs x) (cV cs y):=by
  obtain ⟨fx,mx⟩:=h.at hx
  obtain ⟨fy,my⟩:=h.at hy
  unfold farB
  rw [Bool.not_eq_true',Bool.or_eq_false_iff,decide_eq_false_iff_not,h.same hx hy,Bool.not_eq_false']
  refine and_congr Iff.rfl ?_
  unfold apartV clC
  rw [List.any_eq_true]
  constructor
  · rintro ⟨i,hi,q⟩
    obtain ⟨j,hj,q⟩:=List.any_eq_true.mp q
    rw [Bool.or_eq_true,decide_eq_true_eq,decide_eq_true_eq] at q
    have ei:=((mx i).mp hi).2
    have ej:=((my j).mp hj).2
    rcases q with q | q
    · exact ⟨_,q,.inl ⟨ei,ej⟩⟩
    · exact ⟨_,q,.inr ⟨ej,ei⟩⟩
  · rintro ⟨⟨a,b⟩,hm,q⟩
    obtain ⟨ha,hb⟩:=hq _ hm
    rcases q with ⟨q1,q2⟩ | ⟨q1,q2⟩
    · exact ⟨a,(mx a).mpr ⟨ha,q1⟩,List.any_eq_true.mpr ⟨b,(my b).mpr ⟨hb,q2⟩,by simp [hm]⟩⟩
    · exact ⟨b,(mx b).mpr ⟨hb,q2⟩,List.any_eq_true.mpr ⟨a,(my a).mpr ⟨ha,q1⟩,by simp [hm]⟩⟩
theorem meet_iff {bs:List (List Nat)} {qs:List (Nat × Nat)} {ps:List Nat}:meetB bs qs ps = true ↔ ps.Pairwise fun x y=>farB bs qs x y = true:=by
  unfold meetB
  rw [List.all_eq_true,List.pairwise_iff_getElem]
  constructor
  · intro h i j hi hj hij
    have:=List.all_eq_true.mp (h j (List.mem_range.mpr hj)) i (List.mem_range.mpr hij)
    rw [List.getD_eq_getElem?_getD,List.getD_eq_getElem?_getD,List.getElem?_eq_getElem hi,List.getElem?_eq_getElem hj] at this
    exact this
  · intro h j hj
    rw [List.all_eq_true]
    intro i hi
    have hj:=List.mem_range.mp hj
    have hi:=List.mem_range.mp hi
    have:=h i j (by (first | lia | omega)) hj hi
    rw [List.getD_eq_getElem?_getD,List.getD_eq_getElem?_getD,List.getElem?_eq_getElem (by (first | lia | omega)),List.getElem?_eq_getElem hj]
    exact this
theorem crowd_same {many:Nat} {cs:List Nat} {bs:List (List Nat)} (h:Cls many cs bs) {qs:List (Nat × Nat)} (hq:∀ q ∈ qs,q.1 < many ∧ q.2 < many) {ps:List Nat} (hp:∀ p ∈ ps,p < many) (k:Nat) :
    crowdV cs qs k ps = (!decide (ps.length < k) && meetB bs qs ps):=by
  have h8:∀ a ∈ ps.map (cV cs),a < 8:=by
    intro a ha
    obtain ⟨p,hp',rfl⟩:=List.mem_map.mp ha
    exact cV_lt h (hp p hp')
  unfold crowdV
  rw [Bool.not_or,Bool.and_assoc]
  congr 1
  rw [Bool.eq_iff_iff,Bool.and_eq_true,Bool.not_eq_true',decide_eq_false_iff_not,Nat.not_lt,meet_iff]
  have e1:=nums_nodup h8
  rw [List.length_map] at e1
  rw [e1,up_iff]
  have e2:(ps.Pairwise fun x y=>farB bs qs x y = true) ↔ (ps.map (cV cs)).Pairwise fun u v=>u ≠ v ∧ clC cs qs u v:=by
    rw [List.pairwise_map]
    constructor
    · intro q
      exact q.imp_of_mem fun ha hb hr=>(far_iff h hq (hp _ ha) (hp _ hb)).mp hr
    · intro q
      exact q.imp_of_mem fun ha hb hr=>(far_iff h hq (hp _ ha) (hp _ hb)).mpr hr
  rw [e2]
  constructor
  · rintro ⟨nd,up⟩
    refine List.Pairwise.imp_of_mem ?_ nd
    intro u v hu hv ne
    refine ⟨ne,?_⟩
    have hu':=(nums_mem h8).mpr hu
    have hv':=(nums_mem h8).mpr hv
    have both:=List.Pairwise.and (nums_sorted (ps.map (cV cs))) up
    rcases pairwise_two both hu' hv' ne with ⟨lt,m⟩ | ⟨lt,m⟩
    · exact (cc_mem lt).mp m
    · exact clC_symm ((cc_mem lt).mp m)
  · intro q
    have nd:(ps.map (cV cs)).Nodup:=q.imp fun r=>r.1
    refine ⟨nd,List.Pairwise.imp_of_mem ?_ (nums_sorted (ps.map (cV cs)))⟩
    intro u v hu hv lt
    have hu':=(nums_mem h8).mp hu
    have hv':=(nums_mem h8).mp hv
    refine (cc_mem lt).mpr ?_
    rcases pairwise_two q hu' hv' (by (first | lia | omega)) with ⟨_,m⟩ | ⟨_,m⟩
    · exact m
    · exact clC_symm m
theorem shows_same {many:Nat} (k:Nat):∀ (t:Tre) {cs:List Nat} {bs:List (List Nat)},Cls many cs bs → ∀ {qs:List (Nat × Nat)},(∀ q ∈ qs,q.1 < many ∧ q.2 < many) → t.ok many → showsV cs qs k t = shownV bs qs k t
  | .crowd ps,cs,bs,h,qs,hq,ok=>by
    rw [showsV,shownV]
    exact crowd_same h hq ok.1 k
  | .pair i j a b,cs,bs,h,qs,hq,ok=>by
    obtain ⟨hi,hj,oa,ob⟩:=ok
    rw [showsV,shownV,shows_same k a (h.put hi hj) hq oa,shows_same k b h (qs:=qs ++ [(i,j)]) (by
      intro q hm
      rcases List.mem_append.mp hm with hm | hm
      · exact hq q hm
      · rw [List.mem_singleton.mp hm];exact ⟨hi,hj⟩) ob]
end Tr
namespace Tr
open PySem
section
variable (adj:Nat → Nat → Bool)
noncomputable def naP:List Nat → Nat
  | []=>0
  | a :: r=>(r.countP fun b=>!adj a b) + naP r
noncomputable def edP:List Nat → Nat
  | []=>0
  | a :: r=>(r.countP fun b=>adj a b) + edP r
theorem naP_perm (sy:∀ a b,adj a b = adj b a):∀ {l l':List Nat},l.Perm l' → naP adj l = naP adj l' ∧ edP adj l = edP adj l':=by
  intro l l' h
  induction h with
  | nil=>exact ⟨rfl,rfl⟩
  | cons a h ih=>exact ⟨by rw [naP,naP,h.countP_eq,ih.1],by rw [edP,edP,h.countP_eq,ih.2]⟩
  | swap a b l =>
    constructor
    · simp only [naP,List.countP_cons,sy a b];(first | lia | omega)
    · simp only [edP,List.countP_cons,sy a b];(first | lia | omega)
  | trans _ _ h1 h2=>exact ⟨h1.1.trans h2.1,h1.2.trans h2.2⟩
theorem na_ed:∀ l:List Nat,2 * (naP adj l + edP adj l) + l.length = l.length * l.length
  | []=>rfl
  | a :: r=>by
    have h:=na_ed r
    have h2:(r.countP fun b=>!adj a b) + (r.countP fun b=>adj a b) = r.length:=by
      clear h
      induction r with
      | nil=>rfl
      | cons b r ih =>
        rw [List.countP_cons,List.countP_cons,List.length_cons]
        cases adj a b <;> simp <;> (first | lia | omega)
    rw [naP,edP,List.length_cons]
    have e:(r.length + 1) * (r.length + 1) = r.length * r.length + 2 * r.length + 1:=by
      rw [Nat.add_mul,Nat.mul_add];(first | lia | omega)
    (first | lia | omega)
theorem naP_congr {adj':Nat → Nat → Bool}:∀ {l:List Nat},(∀ a ∈ l,∀ b ∈ l,adj a b = adj' a b) → naP adj l = naP adj' l
  | [],_=>rfl
  | a :: r,h=>by
    rw [naP,naP,naP_congr (l:=r) fun x hx y hy=>h x (List.mem_cons_of_mem _ hx) y (List.mem_cons_of_mem _ hy)]
    congr 1
    exact List.countP_congr fun b hb=>by rw [h a List.mem_cons_self b (List.mem_cons_of_mem _ hb)]
theorem na_merge (adj':Nat → Nat → Bool) (u v:Nat) (R:List Nat) (huv:adj u v = false) (h1:∀ a ∈ R,∀ b ∈ R,adj' a b = adj a b) (h2:∀ b ∈ R,adj' u b = (adj u b || adj v b)) :
    ∃ z,naP adj (u :: v :: R) = naP adj' (u :: R) + 1 + (R.length - z) ∧ z ≤ R.length ∧ 2 * z ≤ edP adj (u :: v :: R):=by
  refine ⟨R.countP fun b=>adj u b && adj v b,?_,List.countP_le_length,?_⟩
  · simp only [naP,List.countP_cons,huv]
    rw [naP_congr adj' (adj':=adj) h1]
    have e:(R.countP fun b=>!adj u b) + (R.countP fun b=>!adj v b) = (R.countP fun b=>!adj' u b) + (R.length - R.countP fun b=>adj u b && adj v b):=by
      clear h1
      induction R with
      | nil=>rfl
      | cons b r ih =>
        have ih:=ih fun b hb=>h2 b (List.mem_cons_of_mem _ hb)
        have hl:(r.countP fun b=>adj u b && adj v b) ≤ r.length:=List.countP_le_length
        simp only [List.countP_cons,List.length_cons,h2 b List.mem_cons_self]
        cases adj u b <;> cases adj v b <;> simp <;> (first | lia | omega)
    simp
    (first | lia | omega)
  · simp only [edP,List.countP_cons,huv]
    have e:2 * (R.countP fun b=>adj u b && adj v b) ≤ (R.countP fun b=>adj u b) + R.countP fun b=>adj v b:=by
      clear h1 h2
      induction R with
      | nil=>exact Nat.le_refl _
      | cons b r ih =>
        simp only [List.countP_cons]
        cases adj u b <;> cases adj v b <;> simp <;> (first | lia | omega)
    simp
    (first | lia | omega)
theorem naP_apart (adj':Nat → Nat → Bool) (u v:Nat) (R:List Nat) (huv:adj u v = false) (h1:∀ a ∈ R,∀ b ∈ R,adj' a b = adj a b) (h2:∀ b ∈ R,adj' u b = adj u b) (h3:∀ b ∈ R,adj' v b = adj v b) (h4:adj' u v = true) :
    naP adj (u :: v :: R) = naP adj' (u :: v :: R) + 1:=by
  simp only [naP,List.countP_cons,huv,h4]
  rw [naP_congr adj' (adj':=adj) h1,List.countP_congr (p:=fun b=>!adj' u b) (q:=fun b=>!adj u b) fun b hb=>by rw [h2 b hb],List.countP_congr (p:=fun b=>!adj' v b) (q:=fun b=>!adj v b) fun b hb=>by rw [h3 b hb]]
  simp
  (first | lia | omega)
end
noncomputable def tbL:List (List Nat):=[[1,1,1,1,1,1,1,1,1,1,1,1,1,1,1,1,1,1,1,1,1,1],[1,1,1,1,1,1,1,1,1,1,1,1,1,1,1,1,1,1,1,1,1,1],[1,3,3,3,3,3,3,3,3,3,3,3,3,3,3,3,3,3,3,3,3,3],[1,3,5,9,9,9,9,9,9,9,9,9,9,9,9,9,9,9,9,9,9,9],[1,3,7,11,17,23,33,33,33,33,33,33,33,33,33,33,33,33,33,33,33,33],[1,3,7,15,27,39,57,75,99,123,157,157,157,157,157,157,157,157,157,157,157,157],[1,3,7,15,31,59,99,157,215,291,367,467,567,691,815,973,973,973,973,973,973,973],[1,3,7,15,31,63,123,223,381,597,889,1257,1625,2093,2561,3129,3697,4389,5081,5897,6713,7687]]
noncomputable def tb (n m:Nat):Nat:=(tbL.getD n []).getD m 0
theorem tb_one:∀ n,n < 8 → ∀ m,m < 22 → 1 ≤ tb n m:=by decide +kernel
noncomputable def stB (n m z:Nat):Bool:=!(decide (2 * (2 * z + (m + 1)) + (n + 2) ≤ (n + 2) * (n + 2)) && decide (n ≤ m + z)) || decide (1 + tb (n + 1) (m - (n - z)) + tb (n + 2) m ≤ tb (n + 2) (m + 1))
theorem tb_all:((List.range 6).all fun n=>(List.range 21).all fun m=>(List.range (n + 1)).all fun z=>stB n m z) = true:=by decide +kernel
theorem tb_step {n m z:Nat} (hn:n < 6) (hm:m < 21) (hz:z ≤ n) (h1:2 * (2 * z + (m + 1)) + (n + 2) ≤ (n + 2) * (n + 2)) (h2:n ≤ m + z):1 + tb (n + 1) (m - (n - z)) + tb (n + 2) m ≤ tb (n + 2) (m + 1):=by
  have h:=List.all_eq_true.mp (List.all_eq_true.mp (List.all_eq_true.mp tb_all n (List.mem_range.mpr hn)) m (List.mem_range.mpr hm)) z (List.mem_range.mpr (by (first | lia | omega)))
  unfold stB at h
  rw [decide_eq_true h1,decide_eq_true h2] at h
  simpa using h
theorem tb_top:∀ n,n < 8 → ∀ m,m < 22 → tb n m ≤ 7687:=by decide +kernel
noncomputable def adjC (cs:List Nat) (qs:List (Nat × Nat)) (u v:Nat):Bool:=qs.any fun q=>(decide (cV cs q.1 = u) && decide (cV cs q.2 = v)) || (decide (cV cs q.1 = v) && decide (cV cs q.2 = u))
theorem adj_iff {cs:List Nat} {qs:List (Nat × Nat)} {u v:Nat}:adjC cs qs u v = true ↔ clC cs qs u v:=by
  unfold adjC clC
  rw [List.any_eq_true]
  simp only [Bool.or_eq_true,Bool.and_eq_true,decide_eq_true_eq]
theorem adj_sym (cs:List Nat) (qs:List (Nat × Nat)) (u v:Nat):adjC cs qs u v = adjC cs qs v u:=by
  rw [Bool.eq_iff_iff,adj_iff,adj_iff]
  exact ⟨clC_symm,clC_symm⟩
structure Cst (many:Nat) (cs:List Nat) (qs:List (Nat × Nat)):Prop where
  len:cs.length = many
  m7:many ≤ 7
  lt:∀ v,v < many → cV cs v < many
  idem:∀ v,v < many → cV cs (cV cs v) = cV cs v
  qlt:∀ q ∈ qs,q.1 < many ∧ q.2 < many
  ne:∀ q ∈ qs,cV cs q.1 ≠ cV cs q.2
section
variable {many k:Nat} {cs:List Nat} {qs:List (Nat × Nat)} {u v:Nat}
theorem cV_mem {x:Nat} (h:x ∈ cs):∃ w,w < cs.length ∧ cV cs w = x:=by
  obtain ⟨w,hw,e⟩:=List.getElem_of_mem h
  exact ⟨w,hw,by unfold cV;rw [List.getD_eq_getElem?_getD,List.getElem?_eq_getElem hw];exact e⟩
theorem mem_cV {w:Nat} (h:w < cs.length):cV cs w ∈ cs:=by
  unfold cV;rw [List.getD_eq_getElem?_getD,List.getElem?_eq_getElem h];exact List.getElem_mem h
theorem Cst.lt8 (C:Cst many cs qs):∀ x ∈ cs,x < 8:=fun x hx=>by
  obtain ⟨w,hw,rfl⟩:=cV_mem hx
  have:=C.lt w (C.len ▸ hw)
  have:=C.m7
  (first | lia | omega)
theorem Cst.num (C:Cst many cs qs) {c:Nat}:c ∈ numsV cs ↔ c < many ∧ cV cs c = c:=by
  rw [nums_mem C.lt8]
  constructor
  · intro h
    obtain ⟨w,hw,rfl⟩:=cV_mem h
    rw [C.len] at hw
    exact ⟨C.lt w hw,C.idem w hw⟩
  · rintro ⟨h,e⟩
    rw [← e]
    exact mem_cV (by rw [C.len];exact h)
theorem Cst.cls (C:Cst many cs qs) {w:Nat} (h:w < many):cV cs w ∈ numsV cs:=C.num.mpr ⟨C.lt w h,C.idem w h⟩
theorem nums_nd (l:List Nat):(numsV l).Nodup:=(nums_sorted l).imp fun h=>Nat.ne_of_lt h
theorem Cst.cvp (C:Cst many cs qs) (hu:u ∈ numsV cs) (hv:v ∈ numsV cs) {x:Nat} (hx:x < many):cV (putV cs u v) x = if cV cs x = v then u else cV cs x:=by
  rw [cV_put (by rw [C.len];exact hx),(C.num.mp hu).2,(C.num.mp hv).2]
theorem Cst.put (C:Cst many cs qs) (hu:u ∈ numsV cs) (hv:v ∈ numsV cs) (huv:u ≠ v) (na:adjC cs qs u v = false):Cst many (putV cs u v) qs:=by
  have U:=C.num.mp hu
  have W:=C.num.mp hv
  refine ⟨by unfold putV;rw [List.length_map];exact C.len,C.m7,fun x hx=>?_,fun x hx=>?_,C.qlt,fun q hq=>?_⟩
  · rw [C.cvp hu hv hx]
    split
    · exact U.1
    · exact C.lt x hx
  · rw [C.cvp hu hv hx]
    split
    · rw [C.cvp hu hv U.1,U.2,if_neg huv]
    · rename_i h
      rw [C.cvp hu hv (C.lt x hx),C.idem x hx,if_neg h]
  · have h1:=C.cvp hu hv (C.qlt q hq).1
    have h2:=C.cvp hu hv (C.qlt q hq).2
    have h3:=C.ne q hq
    have h4:¬ clC cs qs u v:=fun z=>by rw [adj_iff.mpr z] at na;cases na
    rw [h1,h2]
    intro e
    by_cases a:cV cs q.1 = v
    · rw [if_pos a] at e
      by_cases b:cV cs q.2 = v
      · exact h3 (a.trans b.symm)
      · rw [if_neg b] at e
        exact h4 ⟨q,hq,.inr ⟨a,e.symm⟩⟩
    · rw [if_neg a] at e
      by_cases b:cV cs q.2 = v
      · rw [if_pos b] at e
        exact h4 ⟨q,hq,.inl ⟨e,b⟩⟩
      · rw [if_neg b] at e
        exact h3 e
theorem Cst.apart (C:Cst many cs qs) (hu:u ∈ numsV cs) (hv:v ∈ numsV cs) (huv:u ≠ v):Cst many cs (qs ++ [(u,v)]):=by
  have U:=C.num.mp hu
  have W:=C.num.mp hv
  refine ⟨C.len,C.m7,C.lt,C.idem,fun q hq=>?_,fun q hq=>?_⟩
  · rcases List.mem_append.mp hq with h | h
    · exact C.qlt q h
    · rw [List.mem_singleton.mp h];exact ⟨U.1,W.1⟩
  · rcases List.mem_append.mp hq with h | h
    · exact C.ne q h
    · rw [List.mem_singleton.mp h];show cV cs u ≠ cV cs v;rw [U.2,W.2];exact huv
theorem Cst.start {ps:List (Nat × Nat)} (hm:many ≤ 7) (hp:∀ p ∈ ps,p.1 < p.2 ∧ p.2 < many):Cst many (List.range many) ps:=by
  have e:∀ x,x < many → cV (List.range many) x = x:=fun x hx=>by
    unfold cV;rw [List.getD_eq_getElem?_getD,List.getElem?_range hx];rfl
  refine ⟨List.length_range,hm,fun x hx=>by rw [e x hx];exact hx,fun x hx=>by rw [e x hx,e x hx],fun q hq=>⟨by have:=hp q hq;(first | lia | omega),(hp q hq).2⟩,fun q hq=>?_⟩
  have:=hp q hq
  rw [e _ (by (first | lia | omega)),e _ this.2];(first | lia | omega)
theorem Cst.count (C:Cst many cs qs) (hu:u ∈ numsV cs) (hv:v ∈ numsV cs) (huv:u ≠ v) (na:adjC cs qs u v = false) :
    ∃ R z,(numsV cs).length = R + 2 ∧ (numsV (putV cs u v)).length = R + 1 ∧ z ≤ R ∧ naP (adjC cs qs) (numsV cs) = naP (adjC (putV cs u v) qs) (numsV (putV cs u v)) + 1 + (R - z) ∧
      2 * (2 * z + naP (adjC cs qs) (numsV cs)) + (R + 2) ≤ (R + 2) * (R + 2) ∧ naP (adjC cs qs) (numsV cs) = naP (adjC cs (qs ++ [(u,v)])) (numsV cs) + 1:=by
  have nd:=nums_nd cs
  have P:(numsV cs).Perm (u :: v :: ((numsV cs).erase u).erase v):=(List.perm_cons_erase hu).trans (.cons u (List.perm_cons_erase ((nd.mem_erase_iff).mpr ⟨Ne.symm huv,hv⟩)))
  have mR:∀ a,a ∈ ((numsV cs).erase u).erase v ↔ a ∈ numsV cs ∧ a ≠ u ∧ a ≠ v:=fun a=>by
    rw [(nd.erase u).mem_erase_iff,nd.mem_erase_iff]
    exact ⟨fun h=>⟨h.2.2,h.2.1,h.1⟩,fun h=>⟨h.2.2,h.2.1,h.1⟩⟩
  have ndR:=(nd.erase u).erase v
  generalize ((numsV cs).erase u).erase v = R at *
  have C':=C.put hu hv huv na
  have P':(numsV (putV cs u v)).Perm (u :: R):=by
    refine (List.perm_ext_iff_of_nodup (nums_nd _) (List.nodup_cons.mpr ⟨fun h=>((mR u).mp h).2.1 rfl,ndR⟩)).mpr fun a=>?_
    rw [C'.num,List.mem_cons,mR]
    constructor
    · rintro ⟨h1,h2⟩
      rw [C.cvp hu hv h1] at h2
      split at h2
      · exact .inl h2.symm
      · rename_i hn
        rw [h2] at hn
        by_cases e:a = u
        · exact .inl e
        · exact .inr ⟨C.num.mpr ⟨h1,h2⟩,e,hn⟩
    · rintro (rfl | ⟨h1,h2,h3⟩)
      · have U:=C.num.mp hu
        exact ⟨U.1,by rw [C.cvp hu hv U.1,U.2,if_neg huv]⟩
      · have W:=C.num.mp h1
        exact ⟨W.1,by rw [C.cvp hu hv W.1,W.2,if_neg h3]⟩
  have r1:∀ a ∈ R,∀ b ∈ R,adjC (putV cs u v) qs a b = adjC cs qs a b:=by
    intro a ha b hb
    have ha:=(mR a).mp ha
    have hb:=(mR b).mp hb
    rw [Bool.eq_iff_iff,adj_iff,adj_iff]
    unfold clC
    refine exists_congr fun q=>and_congr_right fun hq=>?_
    rw [C.cvp hu hv (C.qlt q hq).1,C.cvp hu hv (C.qlt q hq).2]
    have a1:=ha.2.1
    have a2:=ha.2.2
    have b1:=hb.2.1
    have b2:=hb.2.2
    clear ha hb P P' mR ndR C' nd
    split <;> split <;> (first | lia | omega)
  have r2:∀ b ∈ R,adjC (putV cs u v) qs u b = (adjC cs qs u b || adjC cs qs v b):=by
    intro b hb
    have hb:=(mR b).mp hb
    rw [Bool.eq_iff_iff,Bool.or_eq_true,adj_iff,adj_iff,adj_iff]
    have b1:=hb.2.1
    have b2:=hb.2.2
    unfold clC
    clear P P' mR ndR C' nd r1
    constructor
    · rintro ⟨q,hq,h⟩
      rw [C.cvp hu hv (C.qlt q hq).1,C.cvp hu hv (C.qlt q hq).2] at h
      by_cases c1:cV cs q.1 = v <;> by_cases c2:cV cs q.2 = v <;> simp only [c1,c2,if_true,if_false] at h
      · (first | lia | omega)
      · exact .inr ⟨q,hq,by (first | lia | omega)⟩
      · exact .inr ⟨q,hq,by (first | lia | omega)⟩
      · exact .inl ⟨q,hq,h⟩
    · rintro (⟨q,hq,h⟩ | ⟨q,hq,h⟩)
      · refine ⟨q,hq,?_⟩
        rw [C.cvp hu hv (C.qlt q hq).1,C.cvp hu hv (C.qlt q hq).2]
        split <;> split <;> (first | lia | omega)
      · refine ⟨q,hq,?_⟩
        rw [C.cvp hu hv (C.qlt q hq).1,C.cvp hu hv (C.qlt q hq).2]
        split <;> split <;> (first | lia | omega)
  obtain ⟨z,z1,z2,z3⟩:=na_merge (adjC cs qs) (adjC (putV cs u v) qs) u v R na r1 r2
  have p1:=naP_perm (adjC cs qs) (adj_sym cs qs) P
  have p2:=naP_perm (adjC (putV cs u v) qs) (adj_sym _ qs) P'
  have l1:=P.length_eq
  have l2:=P'.length_eq
  rw [List.length_cons,List.length_cons] at l1
  rw [List.length_cons] at l2
  have q1:=na_ed (adjC cs qs) (u :: v :: R)
  replace q1:2 * (naP (adjC cs qs) (u :: v :: R) + edP (adjC cs qs) (u :: v :: R)) + (R.length + 2) = (R.length + 2) * (R.length + 2):=q1
  have qe:∀ a b,adjC cs (qs ++ [(u,v)]) a b = (adjC cs qs a b || ((decide (u = a) && decide (v = b)) || (decide (u = b) && decide (v = a)))):=fun a b=>by
    unfold adjC
    rw [List.any_append,List.any_cons,List.any_nil,Bool.or_false,(C.num.mp hu).2,(C.num.mp hv).2]
  have s1:∀ a ∈ R,∀ b ∈ R,adjC cs (qs ++ [(u,v)]) a b = adjC cs qs a b:=fun a ha b hb=>by
    have ha:=((mR a).mp ha).2
    have hb:=((mR b).mp hb).2
    rw [qe,decide_eq_false (Ne.symm ha.1),decide_eq_false (Ne.symm hb.1)];simp
  have s2:∀ b ∈ R,adjC cs (qs ++ [(u,v)]) u b = adjC cs qs u b:=fun b hb=>by
    have hb:=((mR b).mp hb).2
    rw [qe,decide_eq_false (Ne.symm hb.2),decide_eq_false (Ne.symm hb.1)];simp
  have s3:∀ b ∈ R,adjC cs (qs ++ [(u,v)]) v b = adjC cs qs v b:=fun b hb=>by
    have hb:=((mR b).mp hb).2
    rw [qe,decide_eq_false huv,decide_eq_false (Ne.symm hb.1)];simp
  have s4:=naP_apart (adjC cs qs) (adjC cs (qs ++ [(u,v)])) u v R na s1 s2 s3 (by rw [qe];simp)
  have p3:=naP_perm (adjC cs (qs ++ [(u,v)])) (adj_sym _ _) P
  refine ⟨R.length,z,l1,l2,z2,by rw [p1.1,p2.1,z1],?_,by rw [p1.1,p3.1,s4]⟩
  rw [p1.1]
  (first | lia | omega)
noncomputable def Hard (many k:Nat) (cs:List Nat) (qs:List (Nat × Nat)):Prop:=∀ j,j < k → ¬ ∃ c:Nat → Nat,(∀ w,w < many → c w < j) ∧ (∀ q ∈ qs,c q.1 ≠ c q.2) ∧ ∀ w,w < many → c (cV cs w) = c w
theorem Hard.put (h:Hard many k cs qs) (C:Cst many cs qs) (hu:u ∈ numsV cs) (hv:v ∈ numsV cs) (huv:u ≠ v) (na:adjC cs qs u v = false):Hard many k (putV cs u v) qs:=by
  rintro j hj ⟨c,c1,c2,c3⟩
  have W:=C.num.mp hv
  have e:c v = c u:=by
    have:=c3 v W.1
    rw [C.cvp hu hv W.1,W.2,if_pos rfl] at this
    exact this.symm
  refine h j hj ⟨c,c1,c2,fun w hw=>?_⟩
  have:=c3 w hw
  rw [C.cvp hu hv hw] at this
  split at this
  · rename_i hq;rw [hq,e];exact this
  · exact this
theorem Hard.apart (h:Hard many k cs qs):Hard many k cs (qs ++ [(u,v)]):=by
  rintro j hj ⟨c,c1,c2,c3⟩
  exact h j hj ⟨c,c1,fun q hq=>c2 q (List.mem_append_left _ hq),c3⟩
theorem Hard.le (h:Hard many k cs qs) (C:Cst many cs qs):k ≤ (numsV cs).length:=by
  by_cases hk:k ≤ (numsV cs).length
  · exact hk
  · exfalso
    refine h (numsV cs).length (by (first | lia | omega)) ⟨fun w=>(numsV cs).idxOf (cV cs w),fun w hw=>List.idxOf_lt_length_iff.mpr (C.cls hw),fun q hq e=>?_,fun w hw=>by show (numsV cs).idxOf _ = _;rw [C.idem w hw]⟩
    have h1:=C.cls (C.qlt q hq).1
    have h2:=C.cls (C.qlt q hq).2
    have e1:=List.getElem_idxOf (List.idxOf_lt_length_iff.mpr h1)
    have e2:=List.getElem_idxOf (List.idxOf_lt_length_iff.mpr h2)
    refine C.ne q hq ?_
    rw [← e1,← e2]
    congr 1
theorem Hard.start {ps:List (Nat × Nat)} (h:Chi many ps k) (hp:∀ p ∈ ps,p.1 < p.2 ∧ p.2 < many):Hard many k (List.range many) ps:=by
  rintro j hj ⟨c,c1,c2,_⟩
  exact h.2 j hj ⟨c,c2,c1⟩
end
noncomputable def foldS (F:Nat → List Nat → List Nat) (best:List Nat):List Nat → List Nat
  | []=>best
  | p :: r=>foldS F (if best.length < (F p r).length then F p r else best) r
noncomputable def gr (ps:List (Nat × Nat)):Nat → List Nat → List Nat → List Nat
  | 0,c,_=>c
  | f + 1,c,parts=>foldS (fun p r=>gr ps f (c ++ [p]) (r.filter fun o=>decide ((p,o) ∈ ps))) c parts
theorem foldS_ge (F:Nat → List Nat → List Nat):∀ (best l:List Nat),best.length ≤ (foldS F best l).length
  | _,[]=>Nat.le_refl _
  | best,p :: r=>by
    rw [foldS]
    refine Nat.le_trans ?_ (foldS_ge F _ r)
    split <;> (first | lia | omega)
theorem foldS_first (F:Nat → List Nat → List Nat) (best:List Nat) (p:Nat) (r:List Nat):(F p r).length ≤ (foldS F best (p :: r)).length:=by
  rw [foldS]
  refine Nat.le_trans ?_ (foldS_ge F _ r)
  split <;> (first | lia | omega)
theorem foldS_is (F:Nat → List Nat → List Nat) (P:List Nat → Prop):∀ (best l:List Nat),P best → (∀ p r,(p :: r).Sublist l → P (F p r)) → P (foldS F best l)
  | _,[],h,_=>h
  | best,p :: r,h,hf=>by
    rw [foldS]
    refine foldS_is F P _ r ?_ fun q s hs=>hf q s (hs.trans (List.sublist_cons_self p r))
    split
    · exact hf p r (List.Sublist.refl _)
    · exact h
theorem gr_is (ps:List (Nat × Nat)):∀ (f:Nat) (c parts:List Nat),∃ d:List Nat,gr ps f c parts = c ++ d ∧ d.Sublist parts ∧ d.Pairwise fun a b=>(a,b) ∈ ps
  | 0,c,parts=>⟨[],by rw [gr,List.append_nil],List.nil_sublist _,.nil⟩
  | f + 1,c,parts=>by
    rw [gr]
    refine foldS_is _ (fun x=>∃ d:List Nat,x = c ++ d ∧ d.Sublist parts ∧ d.Pairwise fun a b=>(a,b) ∈ ps) c parts ⟨[],(List.append_nil _).symm,List.nil_sublist _,.nil⟩ fun p r hs=>?_
    obtain ⟨d,h1,h2,h3⟩:=gr_is ps f (c ++ [p]) (r.filter fun o=>decide ((p,o) ∈ ps))
    refine ⟨p :: d,by rw [h1,List.append_assoc];rfl,?_,List.pairwise_cons.mpr ⟨fun b hb=>?_,h3⟩⟩
    · exact ((h2.trans List.filter_sublist).cons₂ p).trans hs
    · have:=h2.mem hb
      exact of_decide_eq_true (List.mem_filter.mp this).2
theorem gr_all (ps:List (Nat × Nat)):∀ (f:Nat) (c parts:List Nat),parts.length ≤ f → (parts.Pairwise fun a b=>(a,b) ∈ ps) → c.length + parts.length ≤ (gr ps f c parts).length
  | 0,c,parts,h,_=>by rw [gr];(first | lia | omega)
  | f + 1,c,[],_,_=>by rw [gr,foldS];exact Nat.le_refl _
  | f + 1,c,p :: r,h,hp=>by
    rw [List.pairwise_cons] at hp
    have e:(r.filter fun o=>decide ((p,o) ∈ ps)) = r:=List.filter_eq_self.mpr fun o ho=>decide_eq_true (hp.1 o ho)
    have ih:=gr_all ps f (c ++ [p]) r (by rw [List.length_cons] at h;(first | lia | omega)) hp.2
    rw [gr]
    refine Nat.le_trans ?_ (foldS_first _ c p r)
    rw [e,List.length_cons]
    rw [List.length_append,List.length_singleton] at ih
    (first | lia | omega)
theorem nodup_lt:∀ (j:Nat) (l:List Nat),l.Nodup → (∀ a ∈ l,a < j) → l.length ≤ j
  | 0,[],_,_=>Nat.le_refl _
  | 0,a :: l,_,h=>absurd (h a List.mem_cons_self) (by (first | lia | omega))
  | j + 1,l,nd,h=>by
    have h1:=nodup_lt j (l.erase j) (nd.erase j) fun a ha=>by
      have h2:=nd.mem_erase_iff.mp ha
      have:=h a h2.2
      have:=h2.1
      (first | lia | omega)
    rw [List.length_erase] at h1
    split at h1 <;> (first | lia | omega)
theorem crowd_col {c:Nat → Nat} {j:Nat}:∀ {l:List Nat},(∀ a ∈ l,c a < j) → (l.Pairwise fun a b=>c a ≠ c b) → l.length ≤ j:=by
  intro l h1 h2
  have nd:(l.map c).Nodup:=List.pairwise_map.mpr h2
  have:=nodup_lt j _ nd fun x hx=>by
    obtain ⟨a,ha,rfl⟩:=List.mem_map.mp hx
    exact h1 a ha
  rwa [List.length_map] at this
theorem shows_sound {many j k:Nat} {c:Nat → Nat} (c1:∀ w,w < many → c w < j):∀ (t:Tre) (cs:List Nat) (qs:List (Nat × Nat)),cs.length = many → (∀ x ∈ cs,x < many) → many ≤ 8 → t.ok many → (∀ q ∈ qs,c q.1 ≠ c q.2) → (∀ q ∈ qs,q.1 < many ∧ q.2 < many) → (∀ w,w < many → c (cV cs w) = c w) → showsV cs qs k t = true → k ≤ j
  | .crowd ps,cs,qs,hl,hv,hm,ht,hq,hql,hc,h=>by
    have h:crowdV cs qs k ps = true:=h
    unfold crowdV at h
    rw [Bool.and_eq_true,Bool.not_eq_true',Bool.or_eq_false_iff,decide_eq_false_iff_not,decide_eq_false_iff_not] at h
    obtain ⟨⟨h1,h2⟩,h3⟩:=h
    have lt8:∀ a ∈ ps.map (cV cs),a < 8:=fun a ha=>by
      obtain ⟨p,hp,rfl⟩:=List.mem_map.mp ha
      have:=hv _ (mem_cV (cs:=cs) (w:=p) (by rw [hl];exact ht.1 p hp))
      (first | lia | omega)
    have up:=up_iff.mp h3
    have so:=nums_sorted (ps.map (cV cs))
    have:(numsV (ps.map (cV cs))).length ≤ j:=by
      refine crowd_col (c:=c) (fun a ha=>?_) ?_
      · obtain ⟨p,hp,rfl⟩:=List.mem_map.mp ((nums_mem lt8).mp ha)
        rw [hc p (ht.1 p hp)]
        exact c1 p (ht.1 p hp)
      · refine (so.and up).imp fun {a b} hab=>?_
        obtain ⟨q,hq',e⟩:=(cc_mem hab.1).mp hab.2
        have n1:=hq q hq'
        have n2:=hql q hq'
        rcases e with ⟨e1,e2⟩ | ⟨e1,e2⟩
        · rw [← e1,← e2,hc _ n2.1,hc _ n2.2];exact n1
        · rw [← e1,← e2,hc _ n2.1,hc _ n2.2];exact Ne.symm n1
    (first | lia | omega)
  | .pair i j' a b,cs,qs,hl,hv,hm,ht,hq,hql,hc,h=>by
    obtain ⟨hi,hj,oa,ob⟩:=ht
    have h:(showsV (putV cs i j') qs k a && showsV cs (qs ++ [(i,j')]) k b) = true:=h
    rw [Bool.and_eq_true] at h
    by_cases e:c i = c j'
    · refine shows_sound c1 a (putV cs i j') qs (by unfold putV;rw [List.length_map];exact hl) (fun x hx=>?_) hm oa hq hql (fun w hw=>?_) h.1
      · obtain ⟨y,hy,rfl⟩:=List.mem_map.mp hx
        split
        · exact hv _ (mem_cV (by rw [hl];exact hi))
        · exact hv y hy
      · rw [cV_put (by rw [hl];exact hw)]
        split
        · rename_i h2
          rw [hc i hi,e,← hc j' hj,← h2,hc w hw]
        · exact hc w hw
    · refine shows_sound c1 b cs (qs ++ [(i,j')]) hl hv hm ob (fun q hq'=>?_) (fun q hq'=>?_) hc h.2
      · rcases List.mem_append.mp hq' with z | z
        · exact hq q z
        · rw [List.mem_singleton.mp z];exact e
      · rcases List.mem_append.mp hq' with z | z
        · exact hql q z
        · rw [List.mem_singleton.mp z];exact ⟨hi,hj⟩
noncomputable def Tre.size:Tre → Nat
  | .crowd _=>1
  | .pair _ _ a b=>1 + a.size + b.size
noncomputable def plV (cs:List Nat) (qs:List (Nat × Nat)):List (Nat × Nat):=(ccV cs qs).map fun p=>((numsV cs).idxOf p.1,(numsV cs).idxOf p.2)
section
variable {many k:Nat} {cs:List Nat} {qs:List (Nat × Nat)}
theorem getD_lt {N:List Nat} {a:Nat} (h:a < N.length):N.getD a 0 = N[a]:=by rw [List.getD_eq_getElem?_getD,List.getElem?_eq_getElem h];rfl
theorem sorted_lt {N:List Nat} (so:N.Pairwise (· < ·)) {a b:Nat} (h:a < b) (hb:b < N.length):N.getD a 0 < N.getD b 0:=by
  rw [getD_lt (by (first | lia | omega)),getD_lt hb]
  exact List.pairwise_iff_getElem.mp so a b (by (first | lia | omega)) hb h
theorem sorted_lt' {N:List Nat} (so:N.Pairwise (· < ·)) {a b:Nat} (ha:a < N.length) (hb:b < N.length) (h:N.getD a 0 < N.getD b 0):a < b:=by
  rcases Nat.lt_trichotomy a b with z | z | z
  · exact z
  · rw [z] at h;(first | lia | omega)
  · have:=sorted_lt so z ha;(first | lia | omega)
theorem idx_at {N:List Nat} (nd:N.Nodup) {a:Nat} (h:a < N.length):N.idxOf (N.getD a 0) = a:=by
  rw [getD_lt h]
  have h1:N.idxOf N[a] < N.length:=List.idxOf_lt_length_iff.mpr (List.getElem_mem h)
  exact (List.getElem_inj nd).mp (List.getElem_idxOf h1)
theorem Cst.cc_num (C:Cst many cs qs) {p:Nat × Nat} (h:p ∈ ccV cs qs):p.1 ∈ numsV cs ∧ p.2 ∈ numsV cs ∧ p.1 < p.2:=by
  unfold ccV at h
  obtain ⟨q,hq,rfl⟩:=List.mem_map.mp h
  have h1:=C.cls (C.qlt q hq).1
  have h2:=C.cls (C.qlt q hq).2
  have h3:=C.ne q hq
  refine ⟨?_,?_,?_⟩
  · dsimp only;rcases Nat.le_total (cV cs q.1) (cV cs q.2) with z | z
    · rw [Nat.min_eq_left z];exact h1
    · rw [Nat.min_eq_right z];exact h2
  · dsimp only;rcases Nat.le_total (cV cs q.1) (cV cs q.2) with z | z
    · rw [Nat.max_eq_right z];exact h2
    · rw [Nat.max_eq_left z];exact h1
  · dsimp only;(first | lia | omega)
theorem Cst.pl_iff (C:Cst many cs qs) {a b:Nat} (hab:a < b) (hb:b < (numsV cs).length):(a,b) ∈ plV cs qs ↔ adjC cs qs ((numsV cs).getD a 0) ((numsV cs).getD b 0) = true:=by
  have so:=nums_sorted cs
  have nd:=nums_nd cs
  have lt:=sorted_lt so hab hb
  rw [adj_iff,← cc_mem lt]
  unfold plV
  rw [List.mem_map]
  constructor
  · rintro ⟨p,hp,e⟩
    obtain ⟨h1,h2,h3⟩:=C.cc_num hp
    rw [Prod.mk.injEq] at e
    have i1:(numsV cs).getD a 0 = p.1:=by rw [← e.1,getD_lt (List.idxOf_lt_length_iff.mpr h1)];exact List.getElem_idxOf _
    have i2:(numsV cs).getD b 0 = p.2:=by rw [← e.2,getD_lt (List.idxOf_lt_length_iff.mpr h2)];exact List.getElem_idxOf _
    rw [i1,i2];exact hp
  · intro h
    exact ⟨_,h,by rw [idx_at nd (by (first | lia | omega)),idx_at nd hb]⟩
theorem pw_mem {R:Nat → Nat → Prop}:∀ {d:List Nat},d.Pairwise (fun a b=>a < b ∧ R a b) → ∀ i ∈ d,∀ j ∈ d,i < j → R i j
  | [],_,i,hi,_,_,_=>by cases hi
  | a :: r,h,i,hi,j,hj,hij=>by
    rw [List.pairwise_cons] at h
    rcases List.mem_cons.mp hi with rfl | hi'
    · rcases List.mem_cons.mp hj with rfl | hj'
      · (first | lia | omega)
      · exact (h.1 j hj').2
    · rcases List.mem_cons.mp hj with rfl | hj'
      · have:=(h.1 i hi').1;(first | lia | omega)
      · exact pw_mem h.2 i hi' j hj' hij
theorem Cst.leaf (C:Cst many cs qs) {d:List Nat} (sub:d.Sublist (List.range (numsV cs).length)) (hd:d.Pairwise fun a b=>(a,b) ∈ plV cs qs) (hk:k ≤ d.length) :
    (Tre.crowd (d.map fun a=>(numsV cs).getD a 0)).ok many ∧ showsV cs qs k (.crowd (d.map fun a=>(numsV cs).getD a 0)) = true:=by
  have so:=nums_sorted cs
  have nd:=nums_nd cs
  have dlt:∀ a ∈ d,a < (numsV cs).length:=fun a ha=>List.mem_range.mp (sub.mem ha)
  have dso:d.Pairwise (· < ·):=List.Pairwise.sublist sub List.pairwise_lt_range
  have dpw:d.Pairwise fun a b=>a < b ∧ (a,b) ∈ plV cs qs:=dso.and hd
  have mem:∀ x ∈ d.map (fun a=>(numsV cs).getD a 0),x ∈ numsV cs:=fun x hx=>by
    obtain ⟨a,ha,rfl⟩:=List.mem_map.mp hx
    rw [getD_lt (dlt a ha)];exact List.getElem_mem _
  have lso:(d.map fun a=>(numsV cs).getD a 0).Pairwise (· < ·):=by
    rw [List.pairwise_map]
    exact dso.imp_of_mem fun {a b} ha hb h=>sorted_lt so h (dlt b hb)
  have lnd:(d.map fun a=>(numsV cs).getD a 0).Nodup:=lso.imp fun h=>Nat.ne_of_lt h
  have adj:∀ x ∈ d.map (fun a=>(numsV cs).getD a 0),∀ y ∈ d.map (fun a=>(numsV cs).getD a 0),x < y → (x,y) ∈ ccV cs qs:=fun x hx y hy hxy=>by
    obtain ⟨a,ha,rfl⟩:=List.mem_map.mp hx
    obtain ⟨b,hb,rfl⟩:=List.mem_map.mp hy
    have hab:=sorted_lt' so (dlt a ha) (dlt b hb) hxy
    rw [cc_mem hxy,← adj_iff,← C.pl_iff hab (dlt b hb)]
    exact pw_mem dpw a ha b hb hab
  have hlen:(d.map fun a=>(numsV cs).getD a 0).length = d.length:=List.length_map ..
  generalize (d.map fun a=>(numsV cs).getD a 0) = L at *
  have id1:L.map (cV cs) = L:=by
    have:L.map (cV cs) = L.map id:=List.map_congr_left fun x hx=>(C.num.mp (mem x hx)).2
    rw [this,List.map_id]
  have l8:∀ a ∈ L,a < 8:=fun a ha=>by
    have:=(C.num.mp (mem a ha)).1
    have:=C.m7
    (first | lia | omega)
  have lm:∀ a ∈ L,a < many:=fun a ha=>(C.num.mp (mem a ha)).1
  refine ⟨⟨lm,nodup_lt many L lnd lm⟩,?_⟩
  show crowdV cs qs k L = true
  unfold crowdV
  rw [id1,Bool.and_eq_true,Bool.not_eq_true',Bool.or_eq_false_iff,decide_eq_false_iff_not,decide_eq_false_iff_not]
  refine ⟨⟨by (first | lia | omega),?_⟩,up_iff.mpr ?_⟩
  · have:=(nums_nodup l8).mpr lnd;(first | lia | omega)
  · exact (nums_sorted L).imp_of_mem fun {a b} ha hb h=>adj a ((nums_mem l8).mp ha) b ((nums_mem l8).mp hb) h
theorem Cst.nle (C:Cst many cs qs):(numsV cs).length ≤ 7:=by
  have:=nodup_lt many (numsV cs) (nums_nd cs) fun a ha=>(C.num.mp ha).1
  have:=C.m7
  (first | lia | omega)
theorem Cst.na_lt (C:Cst many cs qs):naP (adjC cs qs) (numsV cs) < 22:=by
  have h:=na_ed (adjC cs qs) (numsV cs)
  have hn:=C.nle
  generalize (numsV cs).length = n at *
  have:n * n ≤ 42 + n:=by
    rcases (by (first | lia | omega):n = 0 ∨ n = 1 ∨ n = 2 ∨ n = 3 ∨ n = 4 ∨ n = 5 ∨ n = 6 ∨ n = 7) with rfl | rfl | rfl | rfl | rfl | rfl | rfl | rfl <;> decide
  (first | lia | omega)
theorem idx_cast (N:List Nat) (x:Nat):(N.map fun a:Nat=>(a:Int)).idxOf (x:Int) = N.idxOf x:=by
  induction N with
  | nil=>rfl
  | cons a r ih =>
    rw [List.map_cons,List.idxOf_cons,List.idxOf_cons,ih]
    have:((a:Int) == (x:Int)) = (a == x):=by
      rw [Bool.eq_iff_iff,beq_iff_eq,beq_iff_eq];(first | lia | omega)
    rw [this]
theorem run_index {N:List Nat} {x:Nat} (h:x ∈ N):Mt.run .index (.lst (N.map natI)) (.int (x:Int)) = .ok (.int (N.idxOf x:Nat)):=by
  show (do let ns ← intsOf (N.map natI);when (ns.contains (x:Int)) (.ok (D.int (ns.idxOf (x:Int):Nat)))) = _
  rw [ints_nat,Res.ok_bind,idx_cast,when_of]
  rw [List.contains_iff_mem]
  exact List.mem_map.mpr ⟨x,h,rfl⟩
end
noncomputable def Tre.sep:Tre → Prop
  | .crowd _=>True
  | .pair i j a b=>i ≠ j ∧ a.sep ∧ b.sep
theorem Tre.size_pos:∀ t:Tre,0 < t.size
  | .crowd _=>Nat.one_pos
  | .pair _ _ a b=>by rw [Tre.size];(first | lia | omega)
theorem tre_pl:∀ (t:Tre) (d:Nat),t.deep + 2 ≤ d → D.pl d t.enc = true
  | .crowd ps,d,h=>by
    obtain ⟨d,rfl⟩ : ∃ e,d = e + 2:=⟨d - 2,by rw [Tre.deep] at h;(first | lia | omega)⟩
    rw [Tre.enc,pl_tup]
    simp only [D.pls,pl_lst]
    rw [show D.pls (d + 1) (ps.map natI) = true from pls_map natI d (natI_pl d) ps]
    simp [D.pl]
  | .pair i j a b,d,h=>by
    rw [Tre.deep] at h
    obtain ⟨d,rfl⟩ : ∃ e,d = e + 1:=⟨d - 1,by (first | lia | omega)⟩
    rw [Tre.enc,pl_tup]
    simp only [D.pls]
    rw [tre_pl a d (by (first | lia | omega)),tre_pl b d (by (first | lia | omega))]
    simp [D.pl]
noncomputable def lenS (bs:List (List Nat)):Nat:=(bs.map List.length).sum
theorem lenS_cons (b:List Nat) (bs:List (List Nat)):lenS (b :: bs) = b.length + lenS bs:=by unfold lenS;rw [List.map_cons,List.sum_cons]
theorem lenS_mem {b:List Nat}:∀ {bs:List (List Nat)},b ∈ bs → b.length ≤ lenS bs
  | c :: bs,h=>by
    rw [lenS_cons]
    rcases List.mem_cons.mp h with rfl | h
    · (first | lia | omega)
    · have:=lenS_mem h;(first | lia | omega)
theorem lenS_one (B:List Nat):∀ (bs:List (List Nat)),lenS (bs.filter fun b=>!decide (b = B)) + (if B ∈ bs then B.length else 0) ≤ lenS bs
  | []=>by simp [lenS]
  | b :: bs=>by
    have ih:=lenS_one B bs
    rw [List.filter_cons,lenS_cons]
    by_cases e:b = B
    · subst e
      rw [decide_eq_true rfl,if_neg (by simp),if_pos List.mem_cons_self]
      split at ih <;> (first | lia | omega)
    · rw [decide_eq_false e,if_pos (show (!false) = true from rfl),lenS_cons]
      by_cases m:B ∈ bs
      · rw [if_pos m] at ih
        rw [if_pos (List.mem_cons_of_mem _ m)]
        (first | lia | omega)
      · rw [if_neg m] at ih
        rw [if_neg (fun z=>(List.mem_cons.mp z).elim (fun q=>e q.symm) m)]
        (first | lia | omega)
theorem lenS_tog {bs:List (List Nat)} {i j:Nat} (hi:blkV bs i ∈ bs) (hj:blkV bs j ∈ bs):lenS (togV bs i j) ≤ lenS bs:=by
  unfold togV
  by_cases e:blkV bs i = blkV bs j
  · rw [if_pos e];exact Nat.le_refl _
  · rw [if_neg e]
    have h1:=lenS_one (blkV bs i) bs
    rw [if_pos hi] at h1
    have h2:=lenS_one (blkV bs j) (bs.filter fun b=>!decide (b = blkV bs i))
    rw [if_pos (List.mem_filter.mpr ⟨hj,by simpa using fun z=>e z.symm⟩),List.filter_filter] at h2
    have h3:(bs.filter fun b=>!(decide (b = blkV bs i) || decide (b = blkV bs j))) = bs.filter fun b=>!decide (b = blkV bs j) && !decide (b = blkV bs i):=by
      congr 1
      funext b
      rw [Bool.not_or,Bool.and_comm]
    rw [h3]
    unfold lenS at *
    rw [List.map_append,List.sum_append]
    simp only [List.map_cons,List.map_nil,List.sum_cons,List.sum_nil,List.length_append]
    (first | lia | omega)
theorem Cls.blk_mem {many:Nat} {cs:List Nat} {bs:List (List Nat)} (h:Cls many cs bs) {x:Nat} (hx:x < many):blkV bs x ∈ bs:=by
  obtain ⟨fi,_⟩:=h.at hx
  exact (List.mem_filter.mp (by rw [fi];exact List.mem_singleton.mpr rfl:blkV bs x ∈ bs.filter fun b=>decide (x ∈ b))).1
noncomputable def Rise:Nat → List Nat → Prop
  | _,[]=>True
  | m,x :: r=>x ≤ m ∧ Rise (max m (x + 1)) r
theorem rise_app:∀ (g:List Nat) (m x:Nat),Rise m g → x ≤ g.foldl (fun m x=>max m (x + 1)) m → Rise m (g ++ [x])
  | [],m,x,_,h=>⟨h,trivial⟩
  | a :: r,m,x,h,hx=>⟨h.1,rise_app r _ x h.2 hx⟩
theorem gw_rise {ps:List (Nat × Nat)} {k:Nat}:∀ {r:Nat} {g h:List Nat},gw ps k r g = some h → Rise 0 g → Rise 0 h
  | 0,g,h,e,hr=>by rw [gw] at e;cases e;exact hr
  | r + 1,g,h,e,hr=>by
    rw [gw] at e
    obtain ⟨x,hx,e⟩:=List.exists_of_findSome?_eq_some e
    split at e
    · refine gw_rise e (rise_app g 0 x hr ?_)
      have:=List.mem_range.mp hx
      show x ≤ usedV g
      (first | lia | omega)
    · cases e
theorem gw_uses {ps:List (Nat × Nat)} {many k:Nat} {g:List Nat} (hp:∀ p ∈ ps,p.1 < p.2 ∧ p.2 < many) (hk:Chi many ps k) (h:gw ps k many [] = some g):g.length = many ∧ okG ps g ∧ usedV g = k:=by
  obtain ⟨h1,h2,h3⟩:=gw_sound (fun p hm=>(hp p hm).1) h (fun p _ hl=>absurd hl (by simp)) (fun x hx=>by cases hx)
  rw [List.length_nil,Nat.zero_add] at h3
  have le:usedV g ≤ k:=by
    have:∀ (l:List Nat) (m:Nat),m ≤ k → (∀ x ∈ l,x < k) → l.foldl (fun m x=>max m (x + 1)) m ≤ k:=by
      intro l
      induction l with
      | nil=>intro m hm _;exact hm
      | cons a r ih =>
        intro m hm hx
        rw [List.foldl_cons]
        have:=hx a List.mem_cons_self
        exact ih _ (by (first | lia | omega)) fun x h=>hx x (List.mem_cons_of_mem _ h)
    exact this g 0 (Nat.zero_le _) h2
  refine ⟨h3,h1,?_⟩
  by_cases e:usedV g < k
  · exfalso
    refine hk.2 _ e ⟨fun v=>g.getD v 0,fun p hm=>h1 p hm (by rw [h3];exact (hp p hm).2),fun v hv=>?_⟩
    have hm:g.getD v 0 ∈ g:=by rw [getD_lt (by (first | lia | omega))];exact List.getElem_mem _
    exact used_lt (m:=0) hm
  · (first | lia | omega)
theorem chi_less {ps qs:List (Nat × Nat)} {many k k':Nat} {p:Nat × Nat} (hp:∀ q ∈ ps,q.1 < q.2 ∧ q.2 < many) (h1:∀ q,q ∈ ps → q ∈ qs ∨ q = p) (h2:∀ q ∈ qs,q ∈ ps) (hpm:p ∈ ps) (hk:Chi many ps k) (hk':Chi many qs k'):k' = k ∨ k' + 1 = k:=by
  have le1:k' ≤ k:=by
    by_cases h:k' ≤ k
    · exact h
    · obtain ⟨c,c1,c2⟩:=hk.1
      exact absurd ⟨c,fun q hq=>c1 q (h2 q hq),c2⟩ (hk'.2 k (by (first | lia | omega)))
  have le2:k ≤ k' + 1:=by
    by_cases h:k ≤ k' + 1
    · exact h
    · exfalso
      obtain ⟨c,c1,c2⟩:=hk'.1
      refine hk.2 (k' + 1) (by (first | lia | omega)) ⟨fun v=>if v = p.2 then k' else c v,fun q hq=>?_,fun v hv=>?_⟩
      · have b:=hp q hq
        dsimp only
        by_cases e1:q.1 = p.2
        · have n2:q.2 ≠ p.2:=by (first | lia | omega)
          rw [if_pos e1,if_neg n2]
          have:=c2 q.2 b.2
          (first | lia | omega)
        · rw [if_neg e1]
          by_cases e2:q.2 = p.2
          · rw [if_pos e2]
            have:=c2 q.1 (by (first | lia | omega))
            (first | lia | omega)
          · rw [if_neg e2]
            rcases h1 q hq with z | z
            · exact c1 q z
            · rw [z] at e2;exact absurd rfl e2
      · dsimp only
        split
        · (first | lia | omega)
        · have:=c2 v hv;(first | lia | omega)
  (first | lia | omega)
theorem crowd_le {ps:List (Nat × Nat)} {many k:Nat} (hk:Chi many ps k):(gr ps many [] (List.range many)).length ≤ k:=by
  obtain ⟨d,d1,d2,d3⟩:=gr_is ps many [] (List.range many)
  obtain ⟨c,c1,c2⟩:=hk.1
  rw [d1,List.nil_append]
  refine crowd_col (c:=c) (fun a ha=>c2 a (List.mem_range.mp (d2.mem ha))) (d3.imp fun {a b} h=>c1 _ h)
theorem shows_more {ps:List (Nat × Nat)} {many k:Nat} {t:Tre} (hm:many ≤ 7) (hp:∀ p ∈ ps,p.1 < p.2 ∧ p.2 < many) (hk:Chi many ps k) (ht:t.ok many):showsV (List.range many) ps (k + 1) t = false:=by
  rw [Bool.eq_false_iff]
  intro h
  obtain ⟨c,c1,c2⟩:=hk.1
  have e:∀ x,x < many → cV (List.range many) x = x:=fun x hx=>by
    unfold cV;rw [List.getD_eq_getElem?_getD,List.getElem?_range hx];rfl
  have:=shows_sound c2 t (List.range many) ps List.length_range (fun x hx=>List.mem_range.mp hx) (by (first | lia | omega)) ht c1 (fun q hq=>⟨by have:=hp q hq;(first | lia | omega),(hp q hq).2⟩) (fun w hw=>by rw [e w hw]) h
  (first | lia | omega)
theorem lenS_start (many:Nat):lenS ((List.range many).map fun x=>[x]) = many:=by
  unfold lenS
  rw [List.map_map]
  have:(List.length ∘ fun x:Nat=>[x]) = fun _=>1:=rfl
  rw [this]
  induction many with
  | zero=>rfl
  | succ n ih=>rw [List.range_succ,List.map_append,List.sum_append,ih];rfl
end Tr
namespace K33
open PySem Tr
noncomputable def c_may_join_1:E :=
  (.cmp .Eq (.ix (.var 4) (.var 0)) (.var 3))
noncomputable def e_may_join_2:E :=
  (.cmp .NotIn (.tup (.acons (.var 0) (.acons (.var 2) .anil))) (.var 1))
noncomputable def b_may_join:S :=
  (.cons (.asg (.one 3) (.bt .len (.acons (.var 1) .anil)))
  (.cons (.ret (.bt .all (.acons (.comp 1 [0,3,2,1] (.one 0) e_may_join_2 (.rng (.var 3)) c_may_join_1) .anil)))
  .nil))
noncomputable def b_groups_within_1:S :=
  (.cons (.ite (.call 0 (.acons (.var 1) (.acons (.var 3) (.acons (.var 5) .anil))))
  (.cons (.asg (.one 6) (.call 1 (.acons (.var 0) (.acons (.var 1) (.acons (.var 2) (.acons (.bin .Add (.var 3) (.lst (.acons (.var 5) .anil))) .anil))))))
  (.cons (.ite (.cmp .IsNot (.var 6) (.con .non))
  (.cons (.ret (.var 6))
  .nil)
  .nil)
  .nil))
  .nil)
  .nil)
noncomputable def b_groups_within:S :=
  (.cons (.ite (.cmp .Eq (.bt .len (.acons (.var 3) .anil)) (.var 0))
  (.cons (.ret (.var 3))
  .nil)
  .nil)
  (.cons (.asg (.one 4) (.bin .Add (.maxd (.var 3) (.neg (.con (.int 1)))) (.con (.int 1))))
  (.cons (.forS (.one 5) (.rng (.bt .min (.acons (.bin .Add (.var 4) (.con (.int 1))) (.acons (.var 2) .anil)))) b_groups_within_1)
  (.cons (.ret (.con .non))
  .nil))))
noncomputable def c_fewest_of_1:E :=
  (.cmp .Is (.var 3) (.con .non))
noncomputable def b_fewest_of_2:S :=
  (.cons (.aug 2 .Add (.con (.int 1)))
  (.cons (.asg (.one 3) (.call 1 (.acons (.var 0) (.acons (.var 1) (.acons (.var 2) (.acons (.lst .anil) .anil))))))
  .nil))
noncomputable def b_fewest_of:S :=
  (.cons (.asg (.one 2) (.con (.int 0)))
  (.cons (.asg (.one 3) (.call 1 (.acons (.var 0) (.acons (.var 1) (.acons (.var 2) (.acons (.lst .anil) .anil))))))
  (.cons (.whl 1000 c_fewest_of_1 b_fewest_of_2)
  (.cons (.ret (.tup (.acons (.var 2) (.acons (.var 3) .anil))))
  .nil))))
noncomputable def c_greatest_with_1:E :=
  (.cmp .In (.tup (.acons (.var 2) (.acons (.var 0) .anil))) (.var 1))
noncomputable def e_greatest_with_2:E :=
  (.var 0)
noncomputable def b_greatest_with_3:S :=
  (.cons (.asg (.one 6) (.comp 1 [0,5] (.one 0) e_greatest_with_2 (.seq (.sl (.var 2) (.bin .Add (.var 4) (.con (.int 1))) .omit)) c_greatest_with_1))
  (.cons (.asg (.one 7) (.call 3 (.acons (.var 0) (.acons (.bin .Add (.var 1) (.lst (.acons (.var 5) .anil))) (.acons (.var 6) .anil)))))
  (.cons (.ite (.cmp .Gt (.bt .len (.acons (.var 7) .anil)) (.bt .len (.acons (.var 3) .anil)))
  (.cons (.asg (.one 3) (.var 7))
  .nil)
  .nil)
  .nil)))
noncomputable def b_greatest_with:S :=
  (.cons (.asg (.one 3) (.var 1))
  (.cons (.forS (.many [4,5]) (.enum (.var 2)) b_greatest_with_3)
  (.cons (.ret (.var 3))
  .nil)))
noncomputable def b_crowd_of:S :=
  (.cons (.ret (.call 3 (.acons (.var 1) (.acons (.lst .anil) (.acons (.lrng (.var 0)) .anil)))))
  .nil)
noncomputable def e_put_together_1:E :=
  (.ife (.cmp .Eq (.var 0) (.ix (.var 1) (.var 3))) (.ix (.var 1) (.var 2)) (.var 0))
noncomputable def b_put_together:S :=
  (.cons (.ret (.comp 1 [0,1,2] (.one 0) e_put_together_1 (.seq (.var 0)) (.con (.bl true))))
  .nil)
noncomputable def e_class_clashes_1:E :=
  (.tup (.acons (.ix (.var 2) (.var 0)) (.acons (.ix (.var 2) (.var 1)) .anil)))
noncomputable def e_class_clashes_2:E :=
  (.tup (.acons (.bt .min (.acons (.var 0) .anil)) (.acons (.bt .max (.acons (.var 0) .anil)) .anil)))
noncomputable def b_class_clashes:S :=
  (.cons (.asg (.one 2) (.comp 2 [0] (.many [0,1]) e_class_clashes_1 (.seq (.var 1)) (.con (.bl true))))
  (.cons (.ret (.comp 1 [] (.one 0) e_class_clashes_2 (.seq (.var 2)) (.con (.bl true))))
  .nil))
noncomputable def e_crowd_shows_1:E :=
  (.ix (.var 1) (.var 0))
noncomputable def e_crowd_shows_2:E :=
  (.cmp .In (.tup (.acons (.var 2) (.acons (.var 0) .anil))) (.var 1))
noncomputable def b_crowd_shows_3:S :=
  (.cons (.ite (.not (.bt .all (.acons (.comp 1 [5,7] (.one 0) e_crowd_shows_2 (.seq (.sl (.var 4) (.bin .Add (.var 6) (.con (.int 1))) .omit)) (.con (.bl true))) .anil)))
  (.cons (.ret (.con (.bl false)))
  .nil)
  .nil)
  .nil)
noncomputable def b_crowd_shows:S :=
  (.cons (.asg (.one 4) (.sset (.comp 1 [0] (.one 0) e_crowd_shows_1 (.seq (.var 3)) (.con (.bl true)))))
  (.cons (.ite (.or (.cmp .Lt (.bt .len (.acons (.var 3) .anil)) (.var 2)) (.cmp .Lt (.bt .len (.acons (.var 4) .anil)) (.bt .len (.acons (.var 3) .anil))))
  (.cons (.ret (.con (.bl false)))
  .nil)
  .nil)
  (.cons (.asg (.one 5) (.call 6 (.acons (.var 0) (.acons (.var 1) .anil))))
  (.cons (.forS (.many [6,7]) (.enum (.var 4)) b_crowd_shows_3)
  (.cons (.ret (.con (.bl true)))
  .nil)))))
noncomputable def b_shows_from:S :=
  (.cons (.ite (.cmp .Eq (.ix (.var 3) (.con (.int 0))) (.con (.str "crowd")))
  (.cons (.ret (.call 7 (.acons (.var 0) (.acons (.var 1) (.acons (.var 2) (.acons (.ix (.var 3) (.con (.int 1))) .anil))))))
  .nil)
  .nil)
  (.cons (.asg (.one 4) (.ix (.var 3) (.con (.int 1))))
  (.cons (.asg (.one 5) (.ix (.var 3) (.con (.int 2))))
  (.cons (.ite (.not (.call 8 (.acons (.call 5 (.acons (.var 0) (.acons (.var 4) (.acons (.var 5) .anil)))) (.acons (.var 1) (.acons (.var 2) (.acons (.ix (.var 3) (.con (.int 3))) .anil))))))
  (.cons (.ret (.con (.bl false)))
  .nil)
  .nil)
  (.cons (.ret (.call 8 (.acons (.var 0) (.acons (.bin .Add (.var 1) (.lst (.acons (.tup (.acons (.var 4) (.acons (.var 5) .anil))) .anil))) (.acons (.var 2) (.acons (.ix (.var 3) (.con (.int 4))) .anil))))))
  .nil)))))
noncomputable def b_shows:S :=
  (.cons (.ret (.call 8 (.acons (.lrng (.var 0)) (.acons (.var 1) (.acons (.var 2) (.acons (.var 3) .anil))))))
  .nil)
noncomputable def b_places_apart_1:S :=
  (.cons (.ite (.cmp .NotIn (.tup (.acons (.var 2) (.acons (.var 3) .anil))) (.var 1))
  (.cons (.ret (.tup (.acons (.var 2) (.acons (.var 3) .anil))))
  .nil)
  .nil)
  .nil)
noncomputable def b_places_apart_2:S :=
  (.cons (.forS (.one 3) (.rng2 (.bin .Add (.var 2) (.con (.int 1))) (.var 0)) b_places_apart_1)
  .nil)
noncomputable def b_places_apart:S :=
  (.cons (.forS (.one 2) (.rng (.var 0)) b_places_apart_2)
  (.cons (.ret (.con .non))
  .nil))
noncomputable def e_tree_from_1:E :=
  (.tup (.acons (.mth .index (.var 2) (.var 0)) (.acons (.mth .index (.var 2) (.var 1)) .anil)))
noncomputable def e_tree_from_2:E :=
  (.ix (.var 1) (.var 0))
noncomputable def b_tree_from:S :=
  (.cons (.asg (.one 3) (.sset (.var 0)))
  (.cons (.asg (.one 4) (.comp 2 [3] (.many [0,1]) e_tree_from_1 (.seq (.call 6 (.acons (.var 0) (.acons (.var 1) .anil)))) (.con (.bl true))))
  (.cons (.asg (.one 5) (.call 4 (.acons (.bt .len (.acons (.var 3) .anil)) (.acons (.var 4) .anil))))
  (.cons (.ite (.cmp .GtE (.bt .len (.acons (.var 5) .anil)) (.var 2))
  (.cons (.ret (.tup (.acons (.con (.str "crowd")) (.acons (.comp 1 [3] (.one 0) e_tree_from_2 (.seq (.var 5)) (.con (.bl true))) .anil))))
  .nil)
  .nil)
  (.cons (.asg (.one 6) (.call 10 (.acons (.bt .len (.acons (.var 3) .anil)) (.acons (.var 4) .anil))))
  (.cons (.asg (.one 7) (.ix (.var 3) (.ix (.var 6) (.con (.int 0)))))
  (.cons (.asg (.one 8) (.ix (.var 3) (.ix (.var 6) (.con (.int 1)))))
  (.cons (.asg (.one 9) (.call 11 (.acons (.call 5 (.acons (.var 0) (.acons (.var 7) (.acons (.var 8) .anil)))) (.acons (.var 1) (.acons (.var 2) .anil)))))
  (.cons (.asg (.one 10) (.call 11 (.acons (.var 0) (.acons (.bin .Add (.var 1) (.lst (.acons (.tup (.acons (.var 7) (.acons (.var 8) .anil))) .anil))) (.acons (.var 2) .anil)))))
  (.cons (.ret (.tup (.acons (.con (.str "pair")) (.acons (.var 7) (.acons (.var 8) (.acons (.var 9) (.acons (.var 10) .anil)))))))
  .nil))))))))))
noncomputable def b_tree_of:S :=
  (.cons (.ret (.call 11 (.acons (.lrng (.var 0)) (.acons (.var 1) (.acons (.ix (.call 2 (.acons (.var 0) (.acons (.var 1) .anil))) (.con (.int 0))) .anil)))))
  .nil)
noncomputable def b_law_cell_at:S :=
  (.cons (.ite (.cmp .Lt (.var 1) (.bt .len (.acons (.var 0) .anil)))
  (.cons (.ret (.ix (.var 0) (.var 1)))
  .nil)
  .nil)
  (.cons (.ret (.con (.int 0)))
  .nil))
noncomputable def b_law_mixed:S :=
  (.cons (.ret (.bin .Mod (.bin .Add (.bin .Add (.bin .Mult (.var 0) (.con (.int 48271))) (.bin .Mult (.bin .Mult (.var 1) (.var 1)) (.con (.int 69621)))) (.con (.int 5))) (.con (.int 2147483647))))
  .nil)
noncomputable def e_pairs_1:E :=
  (.tup (.acons (.var 1) (.acons (.var 0) .anil)))
noncomputable def b_pairs_2:S :=
  (.cons (.asg (.one 1) (.bin .Add (.var 1) (.comp 1 [2] (.one 0) e_pairs_1 (.rng2 (.bin .Add (.var 2) (.con (.int 1))) (.var 0)) (.con (.bl true)))))
  .nil)
noncomputable def b_law_pairs:S :=
  (.cons (.asg (.one 1) (.lst .anil))
  (.cons (.forS (.one 2) (.rng (.var 0)) b_pairs_2)
  (.cons (.ret (.var 1))
  .nil)))
noncomputable def b_clashes_1:S :=
  (.cons (.asg (.one 6) (.call 14 (.acons (.ix (.bin .Add (.var 0) (.lst (.acons (.bin .Mult (.con (.int 3)) (.var 5)) .anil))) (.bt .min (.acons (.var 5) (.acons (.bt .len (.acons (.var 0) .anil)) .anil)))) (.acons (.var 5) .anil))))
  (.cons (.ite (.cmp .Lt (.bin .Mod (.var 6) (.con (.int 12))) (.var 2))
  (.cons (.app 4 (.ix (.var 3) (.var 5)))
  .nil)
  .nil)
  .nil))
noncomputable def b_law_clashes:S :=
  (.cons (.asg (.one 3) (.call 15 (.acons (.var 1) .anil)))
  (.cons (.asgO 4 (.lst .anil))
  (.cons (.forS (.one 5) (.rng (.bt .len (.acons (.var 3) .anil))) b_clashes_1)
  (.cons (.ite (.cmp .Eq (.bin .Mod (.var 2) (.con (.int 2))) (.con (.int 1)))
  (.cons (.rev 4)
  .nil)
  .nil)
  (.cons (.retO 4)
  .nil)))))
noncomputable def c_together_1:E :=
  (.cmp .In (.var 1) (.var 0))
noncomputable def e_together_2:E :=
  (.var 0)
noncomputable def c_together_3:E :=
  (.cmp .In (.var 1) (.var 0))
noncomputable def e_together_4:E :=
  (.var 0)
noncomputable def c_together_5:E :=
  (.cmp .NotIn (.var 0) (.tup (.acons (.var 1) (.acons (.var 2) .anil))))
noncomputable def e_together_6:E :=
  (.var 0)
noncomputable def b_law_together:S :=
  (.cons (.asg (.one 3) (.ix (.comp 1 [1] (.one 0) e_together_2 (.seq (.var 0)) c_together_1) (.con (.int 0))))
  (.cons (.asg (.one 4) (.ix (.comp 1 [2] (.one 0) e_together_4 (.seq (.var 0)) c_together_3) (.con (.int 0))))
  (.cons (.ite (.cmp .Eq (.var 3) (.var 4))
  (.cons (.ret (.var 0))
  .nil)
  .nil)
  (.cons (.ret (.bin .Add (.comp 1 [3,4] (.one 0) e_together_6 (.seq (.var 0)) c_together_5) (.lst (.acons (.bin .Add (.var 3) (.var 4)) .anil))))
  .nil))))
noncomputable def b_apart_1:S :=
  (.cons (.ite (.or (.cmp .In (.tup (.acons (.var 3) (.acons (.var 4) .anil))) (.var 0)) (.cmp .In (.tup (.acons (.var 4) (.acons (.var 3) .anil))) (.var 0)))
  (.cons (.ret (.con (.bl true)))
  .nil)
  .nil)
  .nil)
noncomputable def b_apart_2:S :=
  (.cons (.forS (.one 4) (.seq (.var 2)) b_apart_1)
  .nil)
noncomputable def b_law_apart:S :=
  (.cons (.forS (.one 3) (.seq (.var 1)) b_apart_2)
  (.cons (.ret (.con (.bl false)))
  .nil))
noncomputable def c_end_shows_1:E :=
  (.cmp .In (.var 1) (.var 0))
noncomputable def e_end_shows_2:E :=
  (.var 0)
noncomputable def b_end_shows_3:S :=
  (.cons (.app 4 (.ix (.comp 1 [5] (.one 0) e_end_shows_2 (.seq (.var 0)) c_end_shows_1) (.con (.int 0))))
  .nil)
noncomputable def b_end_shows_4:S :=
  (.cons (.ite (.or (.cmp .Eq (.ix (.rd 4) (.var 7)) (.ix (.rd 4) (.var 6))) (.not (.call 18 (.acons (.var 1) (.acons (.ix (.rd 4) (.var 7)) (.acons (.ix (.rd 4) (.var 6)) .anil))))))
  (.cons (.ret (.con (.bl false)))
  .nil)
  .nil)
  .nil)
noncomputable def b_end_shows_5:S :=
  (.cons (.forS (.one 7) (.rng (.var 6)) b_end_shows_4)
  .nil)
noncomputable def b_law_end_shows:S :=
  (.cons (.ite (.or (.not (.isi (.var 3) .list)) (.cmp .Lt (.bt .len (.acons (.var 3) .anil)) (.var 2)))
  (.cons (.ret (.con (.bl false)))
  .nil)
  .nil)
  (.cons (.asgO 4 (.lst .anil))
  (.cons (.forS (.one 5) (.seq (.var 3)) b_end_shows_3)
  (.cons (.forS (.one 6) (.rng (.bt .len (.acons (.rd 4) .anil))) b_end_shows_5)
  (.cons (.ret (.con (.bl true)))
  .nil)))))
noncomputable def e_walked_1:E :=
  (.lst (.acons (.var 0) .anil))
noncomputable def c_walked_2:E :=
  (.cmp .NotEq (.rd 4) (.lst .anil))
noncomputable def b_walked_3:S :=
  (.cons (.asgP (.many [6,7,8,9]) 4 .omit)
  (.cons (.asg (.one 5) (.bin .Add (.var 5) (.con (.int 1))))
  (.cons (.ite (.or (.not (.isi (.var 6) .tuple)) (.or (.cmp .Gt (.var 9) (.con (.int 30))) (.cmp .Gt (.var 5) (.con (.int 10000)))))
  (.cons (.ret (.con (.bl false)))
  .nil)
  .nil)
  (.cons (.ite (.and (.cmp .Eq (.bt .len (.acons (.var 6) .anil)) (.con (.int 5))) (.and (.cmp .Eq (.ix (.var 6) (.con (.int 0))) (.con (.str "pair"))) (.and (.cmp .NotEq (.ix (.var 6) (.con (.int 1))) (.ix (.var 6) (.con (.int 2)))) (.and (.chain .LtE .Lt (.con (.int 0)) (.ix (.var 6) (.con (.int 1))) (.var 0)) (.chain .LtE .Lt (.con (.int 0)) (.ix (.var 6) (.con (.int 2))) (.var 0))))))
  (.cons (.app 4 (.tup (.acons (.ix (.var 6) (.con (.int 3))) (.acons (.call 17 (.acons (.var 7) (.acons (.ix (.var 6) (.con (.int 1))) (.acons (.ix (.var 6) (.con (.int 2))) .anil)))) (.acons (.var 8) (.acons (.bin .Add (.var 9) (.con (.int 1))) .anil))))))
  (.cons (.app 4 (.tup (.acons (.ix (.var 6) (.con (.int 4))) (.acons (.var 7) (.acons (.bin .Add (.var 8) (.lst (.acons (.tup (.acons (.ix (.var 6) (.con (.int 1))) (.acons (.ix (.var 6) (.con (.int 2))) .anil))) .anil))) (.acons (.bin .Add (.var 9) (.con (.int 1))) .anil))))))
  .nil))
  (.cons (.ite (.or (.cmp .NotEq (.bt .len (.acons (.var 6) .anil)) (.con (.int 2))) (.or (.cmp .NotEq (.ix (.var 6) (.con (.int 0))) (.con (.str "crowd"))) (.not (.call 19 (.acons (.var 7) (.acons (.var 8) (.acons (.var 2) (.acons (.ix (.var 6) (.con (.int 1))) .anil))))))))
  (.cons (.ret (.con (.bl false)))
  .nil)
  .nil)
  .nil))
  .nil))))
noncomputable def b_law_walked:S :=
  (.cons (.asgO 4 (.lst (.acons (.tup (.acons (.var 3) (.acons (.comp 1 [] (.one 0) e_walked_1 (.rng (.var 0)) (.con (.bl true))) (.acons (.var 1) (.acons (.con (.int 0)) .anil))))) .anil)))
  (.cons (.asg (.one 5) (.con (.int 0)))
  (.cons (.whl 20000 c_walked_2 b_walked_3)
  (.cons (.ret (.con (.bl true)))
  .nil))))
noncomputable def b_is_right_1:S :=
  (.cons (.ite (.or (.isi (.var 4) .bool) (.not (.chain .LtE .LtE (.con (.int 0)) (.var 4) (.var 3))))
  (.cons (.ret (.con (.bl false)))
  .nil)
  .nil)
  (.cons (.asg (.one 3) (.bt .max (.acons (.var 3) (.acons (.bin .Add (.var 4) (.con (.int 1))) .anil))))
  .nil))
noncomputable def b_is_right_2:S :=
  (.cons (.ite (.cmp .Eq (.ix (.var 1) (.var 5)) (.ix (.var 1) (.var 6)))
  (.cons (.ret (.con (.bl false)))
  .nil)
  .nil)
  .nil)
noncomputable def b_law_is_right:S :=
  (.cons (.asg (.one 3) (.con (.int 0)))
  (.cons (.forS (.one 4) (.seq (.var 1)) b_is_right_1)
  (.cons (.forS (.many [5,6]) (.seq (.var 0)) b_is_right_2)
  (.cons (.ret (.cmp .Eq (.var 3) (.var 2)))
  .nil))))
noncomputable def b_law:S :=
  (.cons (.asg (.one 1) (.bin .Mod (.call 13 (.acons (.var 0) (.acons (.con (.int 0)) .anil))) (.con (.int 8))))
  (.cons (.asg (.one 2) (.call 16 (.acons (.sl (.var 0) (.con (.int 2)) (.con (.int 30))) (.acons (.var 1) (.acons (.bin .Mod (.call 13 (.acons (.var 0) (.acons (.con (.int 1)) .anil))) (.con (.int 13))) .anil)))))
  (.cons (.asg (.one 3) (.bt .list (.acons (.var 2) .anil)))
  (.cons (.asg (.many [4,5]) (.call 2 (.acons (.var 1) (.acons (.var 2) .anil))))
  (.cons (.ite (.or (.not (.isi (.var 5) .list)) (.or (.cmp .NotEq (.bt .len (.acons (.var 5) .anil)) (.var 1)) (.not (.call 21 (.acons (.var 2) (.acons (.var 5) (.acons (.var 4) .anil)))))))
  (.cons (.ret (.con (.bl false)))
  .nil)
  .nil)
  (.cons (.asg (.one 6) (.call 12 (.acons (.var 1) (.acons (.var 2) .anil))))
  (.cons (.ite (.or (.not (.call 20 (.acons (.var 1) (.acons (.var 2) (.acons (.var 4) (.acons (.var 6) .anil)))))) (.cmp .IsNot (.call 9 (.acons (.var 1) (.acons (.var 2) (.acons (.var 4) (.acons (.var 6) .anil))))) (.con (.bl true))))
  (.cons (.ret (.con (.bl false)))
  .nil)
  .nil)
  (.cons (.ite (.or (.cmp .IsNot (.call 9 (.acons (.var 1) (.acons (.var 2) (.acons (.bin .Add (.var 4) (.con (.int 1))) (.acons (.var 6) .anil))))) (.con (.bl false))) (.cmp .Gt (.bt .len (.acons (.call 4 (.acons (.var 1) (.acons (.var 2) .anil))) .anil)) (.var 4)))
  (.cons (.ret (.con (.bl false)))
  .nil)
  .nil)
  (.cons (.ite (.cmp .NotEq (.var 2) (.lst .anil))
  (.cons (.asg (.one 7) (.bin .Mod (.bin .FloorDiv (.call 13 (.acons (.var 0) (.acons (.con (.int 1)) .anil))) (.con (.int 13))) (.bt .len (.acons (.var 2) .anil))))
  (.cons (.ite (.cmp .NotIn (.ix (.call 2 (.acons (.var 1) (.acons (.bin .Add (.sl (.var 2) .omit (.var 7)) (.sl (.var 2) (.bin .Add (.var 7) (.con (.int 1))) .omit)) .anil))) (.con (.int 0))) (.tup (.acons (.var 4) (.acons (.bin .Sub (.var 4) (.con (.int 1))) .anil))))
  (.cons (.ret (.con (.bl false)))
  .nil)
  .nil)
  .nil))
  .nil)
  (.cons (.ret (.cmp .Eq (.var 2) (.var 3)))
  .nil))))))))))
noncomputable def T:Tab:=⟨fun g=>match g with | _=>.non,fun f=>f == 5 || f == 6 || f == 16⟩
@[simp] theorem T_fresh3:T.fresh 3 = false:=id rfl
@[simp] theorem T_fresh7:T.fresh 7 = false:=id rfl
@[simp] theorem T_fresh8:T.fresh 8 = false:=id rfl
@[simp] theorem T_fresh11:T.fresh 11 = false:=id rfl
noncomputable def dfs:List Df:=[⟨4,3,b_may_join,none⟩,⟨7,4,b_groups_within,none⟩,⟨4,2,b_fewest_of,none⟩,⟨8,3,b_greatest_with,none⟩,⟨2,2,b_crowd_of,none⟩,⟨3,3,b_put_together,none⟩,⟨3,2,b_class_clashes,none⟩,⟨8,4,b_crowd_shows,none⟩,⟨6,4,b_shows_from,none⟩,⟨4,4,b_shows,none⟩,⟨4,2,b_places_apart,none⟩,⟨11,3,b_tree_from,none⟩,⟨2,2,b_tree_of,none⟩,⟨2,2,b_law_cell_at,none⟩,⟨2,2,b_law_mixed,none⟩,⟨3,1,b_law_pairs,none⟩,⟨7,3,b_law_clashes,none⟩,⟨5,3,b_law_together,none⟩,⟨5,3,b_law_apart,none⟩,⟨8,4,b_law_end_shows,none⟩,⟨10,4,b_law_walked,none⟩,⟨7,3,b_law_is_right,none⟩,⟨8,1,b_law,none⟩]
end K33
namespace K33
open PySem Tr
theorem cell_at (n:Nat) (ns:List Int) (k:Nat):callF T dfs (n + 1) 13 [.lst (ns.map D.int),.int k] = .ok (.int (cellV ns k)):=by
  unfold cellV
  refine callF_rt (k:=false) rfl rfl rfl ?_
  by_cases h:k < ns.length
  · have hi:(ns.map D.int)[k]? = some (.int (ns.getD k 0)):=by simp [h]
    have f1:freshE T ((E.var 0).ix (E.var 1)) = false:=rfl
    simp [b_law_cell_at,h,ix_l hi,f1]
  · simp [b_law_cell_at,h]
theorem law_mixed (n:Nat) (c k:Int) (hk:0 ≤ k ∧ k < 1000000):callF T dfs (n + 1) 14 [.int c,.int k] = .ok (.int (mixV c k)):=by
  refine callF_rt (k:=false) rfl rfl rfl ?_
  have hk2:-(2 ^ 64) < k ∧ k < 2 ^ 64:=by (first | lia | omega)
  have e1:D.bin .Mult (.int c) (.int 48271) = .ok (.int (c * 48271)):=bin_mulR (by decide)
  have e2:D.bin .Mult (.int k) (.int k) = .ok (.int (k * k)):=bin_mulR hk2
  have e3:D.bin .Mult (.int (k * k)) (.int 69621) = .ok (.int (k * k * 69621)):=bin_mulR (by decide)
  simp [b_law_mixed,e1,e2,e3,mixV]
theorem pairs_loop (n:Nat) (many:Nat) (hm:many ≤ 8):∀ (m k:Nat) (x:Sl),k + m = many → ∃ x',forL (bodyF T (callF T dfs n) (.one 2) b_pairs_2) ((List.range' k m).map natI) [.v (.int many),.v (.lst ((pairsTo many k).map pairD)),x] = .ok (.nx [.v (.int many),.v (.lst ((pairsTo many many).map pairD)),x'])
  | 0,k,x,h=>⟨x,by rw [show k = many by (first | lia | omega)];rfl⟩
  | m + 1,k,x,h=>by
    have hb:=ten_big
    have rg:=rng2_succ (s:=k) (m:=many) (by (first | lia | omega)) (by (first | lia | omega))
    have c:compL (compF T (callF T dfs n) 1 [2] (.one 0) e_pairs_1 (.con (.bl true)) [.v (.int many),.v (.lst ((pairsTo many k).map pairD)),.v (.int k)]) ((List.range' (k + 1) (many - (k + 1))).map natI) = .ok ((pairsFrom many k).map pairD):=by
      rw [compL_enc natI (fun j=>some (pairD (k,j))) (by
        intro j _
        simp [compF,Tr.compEnv,natI,e_pairs_1,pairD]),List.filterMap_eq_map']
      unfold pairsFrom
      rw [List.map_map];rfl
    have l1:=pairsTo_length many k
    have l2:(pairsFrom many k).length ≤ 8:=by rw [pairsFrom,List.length_map,List.length_range'];(first | lia | omega)
    have l3:k * many ≤ 8 * 8:=Nat.mul_le_mul (by (first | lia | omega)) hm
    have ad:D.bin .Add (.lst ((pairsTo many k).map pairD)) (.lst ((pairsFrom many k).map pairD)) = .ok (.lst ((pairsTo many (k + 1)).map pairD)):=by
      rw [add_lsts (by rw [List.length_map,List.length_map];(first | lia | omega)),pairsTo,List.map_append]
    have e:bodyF T (callF T dfs n) (.one 2) b_pairs_2 (natI k) [.v (.int many),.v (.lst ((pairsTo many k).map pairD)),x] = .ok (.nx [.v (.int many),.v (.lst ((pairsTo many (k + 1)).map pairD)),.v (.int k)]):=by
      have l4:many - (k + 1) ≤ big:=by (first | lia | omega)
      simp [bodyF,b_pairs_2,natI,rg,c,l4,ad]
    obtain ⟨x',e2⟩:=pairs_loop n many hm m (k + 1) (.v (.int k)) (by (first | lia | omega))
    exact ⟨x',by rw [List.range'_succ,List.map_cons,forL_nx e,e2]⟩
theorem law_pairs (n:Nat) (many:Nat) (hm:many ≤ 8):callF T dfs (n + 1) 15 [.int many] = .ok (.lst ((pairsOf many).map pairD)):=by
  have rg:=rng_nat (n:=many) (by (first | lia | omega))
  rw [List.range_eq_range'] at rg
  obtain ⟨x',e⟩:=pairs_loop n many hm many 0 .no (by (first | lia | omega))
  refine callF_rt (k:=false) rfl rfl rfl ?_
  have e0:(pairsTo many 0).map pairD = []:=rfl
  rw [e0] at e
  simp [b_law_pairs,rg,e,pairsOf]
theorem clash_body (n:Nat) (cells:List Int) (hc:cells.length ≤ 63) (many share:Int) (ps:List (Nat × Nat)) (k:Nat) (hk:k < ps.length) (hp:ps.length < 1000) (acc:List (Nat × Nat)) (ha:acc.length < 1000) (hm:∀ p ∈ acc,p ∈ ps) (x y:Sl) :
    ∃ acc':List (Nat × Nat),(∀ p ∈ acc',p ∈ ps) ∧ acc'.length ≤ acc.length + 1 ∧ ∃ x' y',bodyF T (callF T dfs (n + 1)) (.one 5) b_clashes_1 (natI k) [.v (.lst (cells.map D.int)),.v (.int many),.v (.int share),.v (.lst (ps.map pairD)),.o (.lst (acc.map pairD)),x,y] =
      .ok (.nx [.v (.lst (cells.map D.int)),.v (.int many),.v (.int share),.v (.lst (ps.map pairD)),.o (.lst (acc'.map pairD)),x',y']):=by
  have hb:=ten_big
  have e1:D.bin .Mult (.int 3) (.int (k:Int)) = .ok (.int (3 * (k:Int))):=bin_mulL (by decide)
  have e2:D.bin .Add (.lst (cells.map D.int)) (.lst [.int (3 * (k:Int))]) = .ok (.lst ((cells ++ [3 * (k:Int)]).map D.int)):=by
    rw [add_lsts (by simp;(first | lia | omega)),List.map_append];rfl
  have e3:Bt.run .min [.int (k:Int),.int (cells.length:Int)] = .ok (.int ((min k cells.length:Nat):Int)):=by
    show Res.ok (D.int (if (cells.length:Int) < (k:Int) then (cells.length:Int) else (k:Int))) = _
    split
    · rw [Nat.min_eq_right (by (first | lia | omega))]
    · rw [Nat.min_eq_left (by (first | lia | omega))]
  have hlt:min k cells.length < (cells ++ [3 * (k:Int)]).length:=by simp;(first | lia | omega)
  have e4:D.ix (.lst ((cells ++ [3 * (k:Int)]).map D.int)) (.int ((min k cells.length:Nat):Int)) = .ok (.int ((cells ++ [3 * (k:Int)])[min k cells.length])):=ix_l (by rw [List.getElem?_map,List.getElem?_eq_getElem hlt];rfl)
  generalize (cells ++ [3 * (k:Int)])[min k cells.length] = v at e4
  have e5:=law_mixed n v k (by (first | lia | omega))
  have e6:D.ix (.lst (ps.map pairD)) (.int (k:Int)) = .ok (pairD ps[k]):=ix_l (by rw [List.getElem?_map,List.getElem?_eq_getElem hk];rfl)
  have e7:(acc.map pairD).length < big:=by simp;(first | lia | omega)
  generalize hC:(cells ++ [3 * (k:Int)]).map D.int = CC at *
  generalize hmin:((min k cells.length:Nat):Int) = mm at *
  by_cases c:mixV v k % 12 < share
  · refine ⟨acc ++ [ps[k]],?_,by simp,.v (.int k),.v (.int (mixV v k)),?_⟩
    · intro p h
      rcases List.mem_append.mp h with h | h
      · exact hm p h
      · rw [List.mem_singleton.mp h];exact List.getElem_mem hk
    · rw [List.length_map] at e7
      rw [List.map_append]
      simp [bodyF,b_clashes_1,natI,e1,e2,e3,e4,e5,c,e6,e7]
  · refine ⟨acc,hm,by (first | lia | omega),.v (.int k),.v (.int (mixV v k)),?_⟩
    simp [bodyF,b_clashes_1,natI,e1,e2,e3,e4,e5,c]
theorem clash_loop (n:Nat) (cells:List Int) (hc:cells.length ≤ 63) (many share:Int) (ps:List (Nat × Nat)) (hp:ps.length < 500):∀ (ks:List Nat),(∀ k ∈ ks,k < ps.length) → ∀ (acc:List (Nat × Nat)) (x y:Sl),acc.length + ks.length < 1000 → (∀ p ∈ acc,p ∈ ps) →
    ∃ acc':List (Nat × Nat),(∀ p ∈ acc',p ∈ ps) ∧ acc'.length ≤ acc.length + ks.length ∧ ∃ x' y',forL (bodyF T (callF T dfs (n + 1)) (.one 5) b_clashes_1) (ks.map natI) [.v (.lst (cells.map D.int)),.v (.int many),.v (.int share),.v (.lst (ps.map pairD)),.o (.lst (acc.map pairD)),x,y] =
      .ok (.nx [.v (.lst (cells.map D.int)),.v (.int many),.v (.int share),.v (.lst (ps.map pairD)),.o (.lst (acc'.map pairD)),x',y'])
  | [],_,acc,x,y,_,hm=>⟨acc,hm,by simp,x,y,rfl⟩
  | k :: ks,hk,acc,x,y,ha,hm=>by
    rw [List.length_cons] at ha
    obtain ⟨a1,h1,h2,x1,y1,e1⟩:=clash_body n cells hc many share ps k (hk k List.mem_cons_self) (by (first | lia | omega)) acc (by (first | lia | omega)) hm x y
    obtain ⟨a2,h3,h4,x2,y2,e2⟩:=clash_loop n cells hc many share ps hp ks (fun k' h'=>hk k' (List.mem_cons_of_mem _ h')) a1 x1 y1 (by (first | lia | omega)) h1
    exact ⟨a2,h3,by rw [List.length_cons];(first | lia | omega),x2,y2,by rw [List.map_cons,forL_nx e1,e2]⟩
theorem pairs_in {many:Nat} {p:Nat × Nat} (h:p ∈ pairsOf many):p.1 < p.2 ∧ p.2 < many:=by
  unfold pairsOf at h
  have:=pairsTo_mem h
  (first | lia | omega)
theorem law_clashes (n:Nat) (cells:List Int) (hc:cells.length ≤ 63) (many:Nat) (hm:many ≤ 8) (share:Int) :
    ∃ ps:List (Nat × Nat),(∀ p ∈ ps,p.1 < p.2 ∧ p.2 < many) ∧ ps.length ≤ 64 ∧ callF T dfs (n + 2) 16 [.lst (cells.map D.int),.int many,.int share] = .ok (.lst (ps.map pairD)):=by
  have hb:=ten_big
  have e1:=law_pairs n many hm
  have hl:(pairsOf many).length ≤ 64:=by
    have h2:=pairsTo_length many many
    have h3:many * many ≤ 8 * 8:=Nat.mul_le_mul hm hm
    unfold pairsOf
    (first | lia | omega)
  have hin:∀ p ∈ pairsOf many,p.1 < p.2 ∧ p.2 < many:=fun p h=>pairs_in h
  generalize pairsOf many = ps at *
  have rg:=rng_nat (n:=ps.length) (by (first | lia | omega))
  obtain ⟨acc,h1,h2,x,y,e2⟩:=clash_loop n cells hc many share ps (by (first | lia | omega)) (List.range ps.length) (by simp) [] .no .no (by simp;(first | lia | omega)) (by simp)
  rw [List.map_nil] at e2
  rw [List.length_range] at h2
  by_cases c:share % 2 = 1
  · refine ⟨acc.reverse,fun p h=>hin p (h1 p (List.mem_reverse.mp h)),by simp at h2 ⊢;(first | lia | omega),callF_rt (k:=true) rfl rfl rfl ?_⟩
    simp [b_law_clashes,e1,rg,e2,c]
  · refine ⟨acc,fun p h=>hin p (h1 p h),by simp at h2;(first | lia | omega),callF_rt (k:=true) rfl rfl rfl ?_⟩
    simp [b_law_clashes,e1,rg,e2,c]
theorem g_at {g:List Nat} {i:Nat} (h:i < g.length):D.ix (.lst (g.map natI)) (.int i) = .ok (.int (g.getD i 0:Nat)):=ix_l (by rw [List.getElem?_map,List.getElem?_eq_getElem h,List.getD_eq_getElem?_getD,List.getElem?_eq_getElem h];rfl)
theorem notin_pairD (p:Nat × Nat) (ps:List (Nat × Nat)):D.cmp .NotIn (pairD p) (.lst (ps.map pairD)) = .ok (.bl (!decide (p ∈ ps))):=by
  show (do let k ← when (D.pls 30 (ps.map pairD) && D.pl 29 (pairD p)) (.ok (D.mem (pairD p) (ps.map pairD)));.ok (D.bl (!k))) = _
  rw [pls_map pairD 29 (pairD_pl 28),pairD_pl 28,mem_pairD];rfl
theorem may_join (n:Nat) (ps:List (Nat × Nat)) (g:List Nat) (hg:g.length ≤ 20) (x:Nat):callF T dfs (n + 1) 0 [.lst (ps.map pairD),.lst (g.map natI),.int x] = .ok (.bl (joinB ps g x)):=by
  have hb:=ten_big
  have rg:=rng_nat (n:=g.length) (by (first | lia | omega))
  have c:compL (compF T (callF T dfs n) 1 [0,3,2,1] (.one 0) e_may_join_2 c_may_join_1 [.v (.lst (ps.map pairD)),.v (.lst (g.map natI)),.v (.int x),.v (.int g.length)]) ((List.range g.length).map natI) =
      .ok (((List.range g.length).filter fun i=>g.getD i 0 == x).map fun i=>D.bl (!decide ((i,g.length) ∈ ps))):=by
    rw [compL_enc natI (fun i=>if (g.getD i 0 == x) = true then some (D.bl (!decide ((i,g.length) ∈ ps))) else none) (by
      intro i hi
      have hi:i < g.length:=by simpa using hi
      have e1:=g_at hi
      have e2:=notin_pairD (i,g.length) ps
      unfold pairD at e2
      dsimp only at e2
      have eqi:(((g.getD i 0:Nat):Int) == (x:Int)) = (g.getD i 0 == x):=by
        by_cases h:g.getD i 0 = x
        · rw [h];simp
        · rw [show (g.getD i 0 == x) = false from beq_eq_false_iff_ne.mpr h];exact beq_eq_false_iff_ne.mpr (by (first | lia | omega))
      generalize g.getD i 0 = z at *
      generalize (!decide ((i,g.length) ∈ ps)) = w at *
      generalize g.length = m at *
      unfold pairD
      cases q:(z == x) with
      | true=>rw [q] at eqi;simp only [if_true];simp [compF,Tr.compEnv,natI,c_may_join_1,e_may_join_2,e1,e2,eqi]
      | false=>rw [q] at eqi;simp [compF,Tr.compEnv,natI,c_may_join_1,e_may_join_2,e1,eqi])]
    refine congrArg Res.ok ?_
    generalize List.range g.length = l
    induction l with
    | nil=>rfl
    | cons i r ih =>
      rw [List.filterMap_cons,List.filter_cons]
      cases q:(g.getD i 0 == x) with
      | true=>rw [if_pos rfl,if_pos rfl];dsimp only;rw [ih];rfl
      | false=>rw [if_neg Bool.false_ne_true,if_neg Bool.false_ne_true];exact ih
  have bl:=blsOf_map (fun i=>!decide ((i,g.length) ∈ ps)) ((List.range g.length).filter fun i=>g.getD i 0 == x)
  have al:(((List.range g.length).filter fun i=>g.getD i 0 == x).map fun i=>!decide ((i,g.length) ∈ ps)).all id = joinB ps g x:=by
    unfold joinB
    rw [List.all_map,List.all_filter]
    congr 1
  have l1:g.length ≤ big:=by (first | lia | omega)
  refine callF_rt (k:=false) rfl rfl rfl ?_
  generalize ((List.range g.length).filter fun i=>g.getD i 0 == x) = F at *
  generalize joinB ps g x = J at *
  generalize F.map (fun i=>D.bl (!decide ((i,g.length) ∈ ps))) = FD at *
  generalize F.map (fun i=>!decide ((i,g.length) ∈ ps)) = FB at *
  simp [b_may_join,rg,c,l1,bl,al]
noncomputable def optG:Option (List Nat) → D
  | none=>.non
  | some g=>.lst (g.map natI)
theorem groups_within (n:Nat) (ps:List (Nat × Nat)) (many k:Nat) (hm:many ≤ 10) (hk:k ≤ 20):∀ (r:Nat) (g:List Nat),g.length + r = many → callF T dfs (n + r + 2) 1 [.int many,.lst (ps.map pairD),.int k,.lst (g.map natI)] = .ok (optG (gw ps k r g))
  | 0,g,hl=>by
    have h:g.length = many:=by (first | lia | omega)
    refine callF_rt (k:=false) rfl rfl rfl ?_
    simp [b_groups_within,h,gw,optG]
  | r + 1,g,hl=>by
    have hne:¬ (g.length:Int) = (many:Int):=by (first | lia | omega)
    have hb:=ten_big
    have mx:=maxD_used g
    have l1:g.length ≤ big:=by (first | lia | omega)
    have mn:Bt.run .min [.int ((usedV g:Int) + 1),.int (k:Int)] = .ok (.int ((min (usedV g + 1) k:Nat):Int)):=by
      show Res.ok (D.int (if (k:Int) < (usedV g:Int) + 1 then (k:Int) else (usedV g:Int) + 1)) = _
      congr 2
      split <;> (first | lia | omega)
    have rg:=rng_nat (n:=min (usedV g + 1) k) (by (first | lia | omega))
    have loop:=forL_findN (f:=bodyF T (callF T dfs (n + r + 2)) (.one 5) b_groups_within_1) (fun e=>∃ x5 x6,e = [.v (.int many),.v (.lst (ps.map pairD)),.v (.int k),.v (.lst (g.map natI)),.v (.int (usedV g:Int)),x5,x6])
      (fun x=>(if joinB ps g x = true then gw ps k r (g ++ [x]) else none).map fun h=>(D.lst (h.map natI),false)) (List.range (min (usedV g + 1) k)) [.v (.int many),.v (.lst (ps.map pairD)),.v (.int k),.v (.lst (g.map natI)),.v (.int (usedV g:Int)),.no,.no] ⟨.no,.no,rfl⟩ (by
        rintro x hx e ⟨x5,x6,rfl⟩
        have e1:=may_join (n + r + 1) ps g (by (first | lia | omega)) x
        have e2:=groups_within n ps many k hm hk r (g ++ [x]) (by simp;(first | lia | omega))
        have ad:D.bin .Add (.lst (g.map natI)) (.lst [.int (x:Int)]) = .ok (.lst ((g ++ [x]).map natI)):=by
          rw [add_lsts (by simp;(first | lia | omega)),List.map_append];rfl
        cases j:joinB ps g x with
        | false =>
          rw [j] at e1
          rw [if_neg Bool.false_ne_true]
          exact ⟨[.v (.int many),.v (.lst (ps.map pairD)),.v (.int k),.v (.lst (g.map natI)),.v (.int (usedV g:Int)),.v (.int x),x6],.inl (by simp [bodyF,b_groups_within_1,natI,e1]),.v (.int x),x6,rfl⟩
        | true =>
          rw [j] at e1
          rw [if_pos rfl]
          generalize (g ++ [x]).map natI = gx at *
          cases q:gw ps k r (g ++ [x]) with
          | none =>
            rw [q] at e2
            exact ⟨[.v (.int many),.v (.lst (ps.map pairD)),.v (.int k),.v (.lst (g.map natI)),.v (.int (usedV g:Int)),.v (.int x),.v .non],.inl (by simp [bodyF,b_groups_within_1,natI,e1,ad,e2,optG]),.v (.int x),.v .non,rfl⟩
          | some h =>
            rw [q] at e2
            have nn:(D.lst (h.map natI)).isNon = false:=rfl
            simp only [optG] at e2
            simp [bodyF,b_groups_within_1,natI,e1,ad,e2,nn])
    rw [findSome_omap] at loop
    rw [gw]
    refine callF_rt (k:=false) rfl rfl rfl ?_
    have ng:(usedV g:Int) - 1 + 1 = (usedV g:Int):=by (first | lia | omega)
    have nf:n + (r + 1) + 1 = n + r + 2:=by (first | lia | omega)
    rw [nf]
    cases hf:(List.range (min (usedV g + 1) k)).findSome? (fun x=>if joinB ps g x = true then gw ps k r (g ++ [x]) else none) with
    | some h =>
      rw [hf] at loop
      dsimp only [Option.map_some] at loop
      simp [b_groups_within,hne,mx,mn,rg,optG,ng,l1]
      rw [loop];rfl
    | none =>
      rw [hf] at loop
      obtain ⟨e',h1,x5,x6,rfl⟩:=loop
      simp [b_groups_within,hne,mx,mn,rg,h1,optG,ng,l1]
theorem least_of (P:Nat → Bool):∀ m:Nat,P m = true → ∃ K,K ≤ m ∧ P K = true ∧ ∀ k,k < K → P k = false
  | 0,h=>⟨0,Nat.le_refl _,h,fun k hk=>absurd hk (by (first | lia | omega))⟩
  | m + 1,h=>by
    by_cases c:∃ k,k < m + 1 ∧ P k = true
    · obtain ⟨k,hk,hp⟩:=c
      have:∀ a:Nat,a ≤ m → P a = true → ∃ K,K ≤ m ∧ P K = true ∧ ∀ k,k < K → P k = false:=by
        intro a
        induction a using Nat.strongRecOn with
        | _ a ih =>
          intro ha pa
          by_cases q:∃ b,b < a ∧ P b = true
          · obtain ⟨b,hb,pb⟩:=q
            exact ih b hb (by (first | lia | omega)) pb
          · refine ⟨a,ha,pa,fun k hk=>?_⟩
            cases z:P k with
            | false=>rfl
            | true=>exact absurd ⟨k,hk,z⟩ q
      obtain ⟨K,h1,h2,h3⟩:=this k (by (first | lia | omega)) hp
      exact ⟨K,by (first | lia | omega),h2,h3⟩
    · refine ⟨m + 1,Nat.le_refl _,h,fun k hk=>?_⟩
      cases z:P k with
      | false=>rfl
      | true=>exact absurd ⟨k,hk,z⟩ c
theorem fewest_of (n:Nat) (ps:List (Nat × Nat)) (many:Nat) (hm:many ≤ 10) (hp:∀ p ∈ ps,p.1 < p.2 ∧ p.2 < many):∃ (k:Nat) (g:List Nat),Chi many ps k ∧ k ≤ many ∧ gw ps k many [] = some g ∧ callF T dfs (n + many + 3) 2 [.int many,.lst (ps.map pairD)] = .ok (.tup [.int k,.lst (g.map natI)]):=by
  obtain ⟨K,h1,h2,h3⟩:=least_of (fun k=>(gw ps k many []).isSome) many ((col_gw hp).mpr (col_many hp))
  obtain ⟨g,hg⟩:=Option.isSome_iff_exists.mp h2
  refine ⟨K,g,⟨(col_gw hp).mp h2,fun k hk c=>?_⟩,h1,hg,?_⟩
  · have:=h3 k hk
    rw [(col_gw hp).mpr c] at this
    cases this
  have gwn:=fun (k:Nat) (hk:k ≤ 20)=>groups_within n ps many k hm hk many [] (by simp)
  rw [List.map_nil] at gwn
  have g0:=gwn 0 (by (first | lia | omega))
  rw [show ((0:Nat):Int) = 0 from rfl] at g0
  obtain ⟨e',w1,w2⟩:=whileL_inv (c:=testF T (callF T dfs (n + many + 2)) c_fewest_of_1) (f:=exS T (callF T dfs (n + many + 2)) b_fewest_of_2)
    (fun j e=>∃ k:Nat,k + j = K ∧ e = [.v (.int many),.v (.lst (ps.map pairD)),.v (.int k),.v (optG (gw ps k many []))])
    (by
      rintro j e ⟨k,hk,rfl⟩
      have no:gw ps k many [] = none:=by
        have:=h3 k (by (first | lia | omega))
        cases q:gw ps k many [] with
        | none=>rfl
        | some x=>rw [q] at this;cases this
      have nx:=gwn (k + 1) (by (first | lia | omega))
      rw [show ((k + 1:Nat):Int) = (k:Int) + 1 by (first | lia | omega)] at nx
      rw [no]
      refine ⟨by simp [testF,c_fewest_of_1,optG],[.v (.int many),.v (.lst (ps.map pairD)),.v (.int ((k:Int) + 1)),.v (optG (gw ps (k + 1) many []))],?_,k + 1,by (first | lia | omega),?_⟩
      · simp [b_fewest_of_2,nx]
      · rw [show ((k + 1:Nat):Int) = (k:Int) + 1 by (first | lia | omega)])
    (by
      rintro e ⟨k,hk,rfl⟩
      have:k = K:=by (first | lia | omega)
      subst this
      rw [hg]
      have nn:(D.lst (g.map natI)).isNon = false:=rfl
      simp [testF,c_fewest_of_1,optG,nn]) K 1000 [.v (.int many),.v (.lst (ps.map pairD)),.v (.int 0),.v (optG (gw ps 0 many []))] ⟨0,by (first | lia | omega),rfl⟩ (by (first | lia | omega))
  obtain ⟨k,hk,rfl⟩:=w2
  have:k = K:=by (first | lia | omega)
  subst this
  rw [hg] at w1
  refine callF_rt (k:=false) rfl rfl rfl ?_
  rw [show optG (some g) = .lst (g.map natI) from rfl] at w1
  simp [b_fewest_of,g0]
  rw [w1]
  simp
theorem nat_at {cs:List Nat} {x:Nat} (h:x < cs.length):D.ix (.lst (cs.map natI)) (.int (x:Int)) = .ok (.int (cV cs x:Int)):=ix_l (by
  unfold cV
  rw [List.getElem?_map,List.getElem?_eq_getElem h,List.getD_eq_getElem?_getD,List.getElem?_eq_getElem h];rfl)
theorem put_together (n:Nat) (cs:List Nat) (hl:cs.length ≤ 100) (i j:Nat) (hi:i < cs.length) (hj:j < cs.length):callF T dfs (n + 1) 5 [.lst (cs.map natI),.int (i:Int),.int (j:Int)] = .ok (.lst ((putV cs i j).map natI)):=by
  have hb:=ten_big
  have ei:=nat_at hi
  have ej:=nat_at hj
  refine callF_rt (k:=true) rfl rfl rfl ?_
  have c:compL (compF T (callF T dfs n) 1 [0,1,2] (.one 0) e_put_together_1 (.con (.bl true)) [.v (.lst (cs.map natI)),.v (.int (i:Int)),.v (.int (j:Int))]) (cs.map natI) = .ok ((putV cs i j).map natI):=by
    rw [compL_enc natI (fun v=>some (natI (if v = cV cs j then cV cs i else v))) (by
      intro v _
      by_cases q:v = cV cs j
      · have q':((v:Int) == (cV cs j:Int)) = true:=by rw [q];simp
        simp [compF,Tr.compEnv,natI,e_put_together_1,ei,ej,q]
      · have q':¬ (v:Int) = (cV cs j:Int):=by (first | lia | omega)
        simp [compF,Tr.compEnv,natI,e_put_together_1,ei,ej,q,q']),List.filterMap_eq_map']
    unfold putV
    rw [List.map_map];rfl
  have l:cs.length ≤ big:=by (first | lia | omega)
  simp [b_put_together,c,l]
theorem class_clashes (n:Nat) (cs:List Nat) (qs:List (Nat × Nat)) (hl:qs.length ≤ 500) (hq:∀ q ∈ qs,q.1 < cs.length ∧ q.2 < cs.length):callF T dfs (n + 1) 6 [.lst (cs.map natI),.lst (qs.map pairD)] = .ok (.lst ((ccV cs qs).map pairD)):=by
  have hb:=ten_big
  refine callF_rt (k:=true) rfl rfl rfl ?_
  have c1:compL (compF T (callF T dfs n) 2 [0] (.many [0,1]) e_class_clashes_1 (.con (.bl true)) [.v (.lst (cs.map natI)),.v (.lst (qs.map pairD)),.no]) (qs.map pairD) = .ok ((qs.map fun p=>(cV cs p.1,cV cs p.2)).map pairD):=by
    rw [compL_enc pairD (fun p=>some (pairD (cV cs p.1,cV cs p.2))) (by
      intro p hp
      have h:=hq p hp
      have g1:=nat_at h.1
      have g2:=nat_at h.2
      simp [compF,Tr.compEnv,pairD,e_class_clashes_1,g1,g2]),List.filterMap_eq_map',List.map_map]
    rfl
  have mn:∀ a b:Nat,Bt.run .min [.tup [.int (a:Int),.int (b:Int)]] = .ok (.int ((min a b:Nat):Int)):=by
    intro a b
    show Res.ok (D.int (if (b:Int) < (a:Int) then (b:Int) else (a:Int))) = _
    congr 2
    split <;> (first | lia | omega)
  have mx:∀ a b:Nat,Bt.run .max [.tup [.int (a:Int),.int (b:Int)]] = .ok (.int ((max a b:Nat):Int)):=by
    intro a b
    show Res.ok (D.int (if (b:Int) > (a:Int) then (b:Int) else (a:Int))) = _
    congr 2
    split <;> (first | lia | omega)
  have c2:compL (compF T (callF T dfs n) 1 [] (.one 0) e_class_clashes_2 (.con (.bl true)) [.v (.lst (cs.map natI)),.v (.lst (qs.map pairD)),.v (.lst ((qs.map fun p=>(cV cs p.1,cV cs p.2)).map pairD))]) ((qs.map fun p=>(cV cs p.1,cV cs p.2)).map pairD) = .ok ((ccV cs qs).map pairD):=by
    rw [compL_enc pairD (fun p=>some (pairD (min p.1 p.2,max p.1 p.2))) (by
      intro p _
      have m1:=mn p.1 p.2
      have m2:=mx p.1 p.2
      generalize hA:min p.1 p.2 = A at *
      generalize hB:max p.1 p.2 = B at *
      simp [compF,Tr.compEnv,pairD,e_class_clashes_2,m1,m2]),List.filterMap_eq_map']
    unfold ccV
    rw [List.map_map,List.map_map];rfl
  have l:qs.length ≤ big:=by (first | lia | omega)
  have l2:(qs.map fun p=>(cV cs p.1,cV cs p.2)).length ≤ big:=by rw [List.length_map];exact l
  generalize (qs.map fun p=>(cV cs p.1,cV cs p.2)) = rs at c1 c2 l2
  simp [b_class_clashes,c1,c2,l,l2]
theorem sset_nat {l:List Nat} (h:∀ a ∈ l,a < 8):ssetR (.lst (l.map natI)) = .ok (.lst ((numsV l).map natI)):=by
  have e1:l.map natI = (l.map fun a:Nat=>(a:Int)).map D.int:=by rw [List.map_map];rfl
  show (intsOf (l.map natI) >>= _) = _
  rw [e1,intsOf_map,Res.ok_bind,when_of]
  · have e2:sset8 (l.map fun a:Nat=>(a:Int)) = (numsV l).map natI:=by
      unfold sset8 numsV
      have e3:(fun i:Nat=>(l.map fun a:Nat=>(a:Int)).contains (i:Int)) = fun i=>l.contains i:=by
        funext i
        rw [Bool.eq_iff_iff,List.contains_iff_mem,List.contains_iff_mem,List.mem_map]
        constructor
        · rintro ⟨a,ha,e⟩
          have:a = i:=by (first | lia | omega)
          rw [← this];exact ha
        · intro hi;exact ⟨i,hi,rfl⟩
      rw [e3];rfl
    rw [e2]
  · rw [List.all_eq_true]
    intro n hn
    obtain ⟨a,ha,rfl⟩:=List.mem_map.mp hn
    have:=h a ha
    rw [Bool.and_eq_true,decide_eq_true_eq,decide_eq_true_eq]
    (first | lia | omega)
theorem cut_from {α:Type} {xs:List α} {a:Nat} (ha:a ≤ xs.length):cut xs (some (a:Int)) none = xs.drop a:=by
  unfold cut sIx
  dsimp only
  rw [if_neg (by (first | lia | omega)),Int.toNat_natCast,Nat.min_eq_left ha]
  rw [List.take_of_length_le (by rw [List.length_drop];(first | lia | omega))]
theorem up_loop (n:Nat) (x0 x1 x2 x3:Sl) (nums:List Nat) (hn:nums.length ≤ 100) (pr:List (Nat × Nat)):∀ (m a:Nat),a + m = nums.length → ∀ (x6 x7:Sl),
    if upB pr (nums.drop a) = true then ∃ x6' x7',forL (bodyF T (callF T dfs n) (.many [6,7]) b_crowd_shows_3) ((List.range' a m).map fun k:Nat=>D.tup [.int (k:Int),natI (nums.getD k 0)]) [x0,x1,x2,x3,.v (.lst (nums.map natI)),.v (.lst (pr.map pairD)),x6,x7] = .ok (.nx [x0,x1,x2,x3,.v (.lst (nums.map natI)),.v (.lst (pr.map pairD)),x6',x7'])
    else forL (bodyF T (callF T dfs n) (.many [6,7]) b_crowd_shows_3) ((List.range' a m).map fun k:Nat=>D.tup [.int (k:Int),natI (nums.getD k 0)]) [x0,x1,x2,x3,.v (.lst (nums.map natI)),.v (.lst (pr.map pairD)),x6,x7] = .ok (.rt (.bl false) false)
  | 0,a,h,x6,x7=>by
    rw [List.drop_eq_nil_of_le (by (first | lia | omega)),upB,if_pos rfl]
    exact ⟨x6,x7,rfl⟩
  | m + 1,a,h,x6,x7=>by
    have hb:=ten_big
    have ha:a < nums.length:=by (first | lia | omega)
    have ed:nums.drop a = nums.getD a 0 :: nums.drop (a + 1):=by
      rw [List.drop_eq_getElem_cons ha,List.getD_eq_getElem?_getD,List.getElem?_eq_getElem ha];rfl
    have ec:cut (nums.map natI) (some ((a:Int) + 1)) none = (nums.drop (a + 1)).map natI:=by
      have:((a:Int) + 1) = ((a + 1:Nat):Int):=by push_cast;rfl
      rw [this,cut_from (by rw [List.length_map];(first | lia | omega)),List.map_drop]
    have c:compL (compF T (callF T dfs n) 1 [5,7] (.one 0) e_crowd_shows_2 (.con (.bl true)) [x0,x1,x2,x3,.v (.lst (nums.map natI)),.v (.lst (pr.map pairD)),.v (.int (a:Int)),.v (natI (nums.getD a 0))]) ((nums.drop (a + 1)).map natI) = .ok ((nums.drop (a + 1)).map fun o=>D.bl (decide ((nums.getD a 0,o) ∈ pr))):=by
      rw [compL_enc natI (fun o=>some (D.bl (decide ((nums.getD a 0,o) ∈ pr)))) (by
        intro o _
        have g:D.cmp .In (.tup [natI (nums.getD a 0),.int (o:Int)]) (.lst (pr.map pairD)) = .ok (.bl (decide ((nums.getD a 0,o) ∈ pr))):=in_pairD (nums.getD a 0,o) pr
        generalize nums.getD a 0 = v at *
        simp [compF,Tr.compEnv,e_crowd_shows_2,natI] at g ⊢
        simp [g]),List.filterMap_eq_map']
    have l:(nums.drop (a + 1)).length ≤ big:=by rw [List.length_drop];(first | lia | omega)
    have bl:=blsOf_map (fun o=>decide ((nums.getD a 0,o) ∈ pr)) (nums.drop (a + 1))
    have al:((nums.drop (a + 1)).map fun o=>decide ((nums.getD a 0,o) ∈ pr)).all id = (nums.drop (a + 1)).all fun o=>decide ((nums.getD a 0,o) ∈ pr):=by rw [List.all_map];rfl
    have e:bodyF T (callF T dfs n) (.many [6,7]) b_crowd_shows_3 (D.tup [.int (a:Int),natI (nums.getD a 0)]) [x0,x1,x2,x3,.v (.lst (nums.map natI)),.v (.lst (pr.map pairD)),x6,x7] = (if ((nums.drop (a + 1)).all fun o=>decide ((nums.getD a 0,o) ∈ pr)) = true then .ok (.nx [x0,x1,x2,x3,.v (.lst (nums.map natI)),.v (.lst (pr.map pairD)),.v (.int (a:Int)),.v (natI (nums.getD a 0))]) else .ok (.rt (.bl false) false)):=by
      generalize nums.getD a 0 = v at *
      generalize hr:nums.drop (a + 1) = rest at *
      have rn:Bt.run .all [.lst (rest.map fun o=>D.bl (decide ((v,o) ∈ pr)))] = .ok (.bl (rest.all fun o=>decide ((v,o) ∈ pr))):=by
        show (blsOf _ >>= _) = _
        rw [bl,Res.ok_bind,al]
      cases hA:(rest.all fun o=>decide ((v,o) ∈ pr)) with
      | true =>
        rw [hA] at rn
        simp [bodyF,b_crowd_shows_3,ec,c,l,rn]
      | false =>
        rw [hA] at rn
        simp [bodyF,b_crowd_shows_3,ec,c,l,rn]
    rw [ed,upB,List.range'_succ,List.map_cons]
    cases hA:((nums.drop (a + 1)).all fun o=>decide ((nums.getD a 0,o) ∈ pr)) with
    | true =>
      rw [hA,if_pos rfl] at e
      rw [Bool.true_and,forL_nx e]
      exact up_loop n x0 x1 x2 x3 nums hn pr m (a + 1) (by (first | lia | omega)) _ _
    | false =>
      rw [hA,if_neg Bool.false_ne_true] at e
      rw [Bool.false_and,if_neg Bool.false_ne_true,forL_rt e]
theorem crowd_shows (n:Nat) (cs:List Nat) (hv:∀ v ∈ cs,v < 8) (qs:List (Nat × Nat)) (hl:qs.length ≤ 500) (hq:∀ q ∈ qs,q.1 < cs.length ∧ q.2 < cs.length) (k:Nat) (ps:List Nat) (hp:∀ p ∈ ps,p < cs.length) (hpl:ps.length ≤ 100) :
    callF T dfs (n + 2) 7 [.lst (cs.map natI),.lst (qs.map pairD),.int (k:Int),.lst (ps.map natI)] = .ok (.bl (crowdV cs qs k ps)):=by
  have hb:=ten_big
  have h8:∀ a ∈ ps.map (cV cs),a < 8:=by
    intro a ha
    obtain ⟨p,hp',rfl⟩:=List.mem_map.mp ha
    unfold cV
    rw [List.getD_eq_getElem?_getD,List.getElem?_eq_getElem (hp p hp')]
    exact hv _ (List.getElem_mem (hp p hp'))
  have e1:=sset_nat h8
  have e2:=class_clashes n cs qs hl hq
  have c:compL (compF T (callF T dfs (n + 1)) 1 [0] (.one 0) e_crowd_shows_1 (.con (.bl true)) [.v (.lst (cs.map natI)),.v (.lst (qs.map pairD)),.v (.int (k:Int)),.v (.lst (ps.map natI)),.no,.no,.no,.no]) (ps.map natI) = .ok ((ps.map (cV cs)).map natI):=by
    rw [compL_enc natI (fun p=>some (natI (cV cs p))) (by
      intro p hp'
      have g:=nat_at (hp p hp')
      simp [compF,Tr.compEnv,natI,e_crowd_shows_1,g]),List.filterMap_eq_map',List.map_map]
    rfl
  have ln:=nums_le h8
  rw [List.length_map] at ln
  unfold crowdV
  generalize hN:numsV (ps.map (cV cs)) = nums at *
  generalize hM:ps.map (cV cs) = vs at *
  generalize hC:ccV cs qs = pr at *
  have l:ps.length ≤ big:=by (first | lia | omega)
  have lp:=up_loop (n + 1) (.v (.lst (cs.map natI))) (.v (.lst (qs.map pairD))) (.v (.int (k:Int))) (.v (.lst (ps.map natI))) nums (by (first | lia | omega)) pr nums.length 0 (by (first | lia | omega)) .no .no
  have en:enumD 0 (nums.map natI) = (List.range' 0 nums.length).map fun k:Nat=>D.tup [.int (k:Int),natI (nums.getD k 0)]:=by
    have:=enumD_range natI 0 nums 0
    rw [show ((0:Nat):Int) = 0 from rfl] at this
    rw [this,List.range_eq_range']
    apply List.map_congr_left
    intro a _
    rw [Nat.zero_add]
  rw [List.drop_zero] at lp
  generalize ((List.range' 0 nums.length).map fun k:Nat=>D.tup [.int (k:Int),natI (nums.getD k 0)]) = es at lp en
  refine callF_rt (k:=false) rfl rfl rfl ?_
  by_cases q1:ps.length < k
  · have q1':(ps.length:Int) < (k:Int):=by (first | lia | omega)
    simp [b_crowd_shows,c,l,e1,q1,q1']
  · have q1':¬ (ps.length:Int) < (k:Int):=by (first | lia | omega)
    by_cases q2:nums.length < ps.length
    · have q2':(nums.length:Int) < (ps.length:Int):=by (first | lia | omega)
      simp [b_crowd_shows,c,l,e1,q1,q1',q2,q2']
    · have q2':¬ (nums.length:Int) < (ps.length:Int):=by (first | lia | omega)
      cases hU:upB pr nums with
      | true =>
        rw [hU,if_pos rfl] at lp
        obtain ⟨x6,x7,lp⟩:=lp
        simp [b_crowd_shows,c,l,e1,q1,q1',q2,q2',e2,en,lp]
      | false =>
        rw [hU,if_neg Bool.false_ne_true] at lp
        simp [b_crowd_shows,c,l,e1,q1,q1',q2,q2',e2,en,lp]
theorem crowd_eq:D.cmp .Eq (.str "crowd") (.str "crowd") = .ok (.bl true):=cmp_same rfl
theorem pair_ne:D.cmp .Eq (.str "pair") (.str "crowd") = .ok (.bl false):=by
  have h:(("pair" : Str) == "crowd") = false:=by decide +kernel
  show Res.ok (D.bl (("pair" : Str) == "crowd")) = _
  rw [h]
theorem pair_eq:D.cmp .Eq (.str "pair") (.str "pair") = .ok (.bl true):=cmp_same rfl
theorem putV_length (cs:List Nat) (i j:Nat):(putV cs i j).length = cs.length:=by unfold putV;rw [List.length_map]
theorem putV_lt {cs:List Nat} {i j:Nat} (hi:i < cs.length) (hv:∀ v ∈ cs,v < 8):∀ v ∈ putV cs i j,v < 8:=by
  intro v h
  unfold putV at h
  obtain ⟨m,hm,rfl⟩:=List.mem_map.mp h
  split
  · unfold cV
    rw [List.getD_eq_getElem?_getD,List.getElem?_eq_getElem hi]
    exact hv _ (List.getElem_mem hi)
  · exact hv m hm
theorem add_pair {qs:List (Nat × Nat)} (hl:qs.length ≤ 500) (i j:Nat):D.bin .Add (.lst (qs.map pairD)) (.lst [.tup [.int (i:Int),.int (j:Int)]]) = .ok (.lst ((qs ++ [(i,j)]).map pairD)):=by
  have hb:=ten_big
  rw [add_lsts (by simp;(first | lia | omega)),List.map_append];rfl
theorem shows_from (k:Nat):∀ (t:Tre) (n:Nat) (cs:List Nat) (hv:∀ v ∈ cs,v < 8) (hcl:cs.length ≤ 8) (qs:List (Nat × Nat)) (hl:qs.length + t.deep ≤ 500) (hq:∀ q ∈ qs,q.1 < cs.length ∧ q.2 < cs.length) (ht:t.ok cs.length),t.deep ≤ n →
    callF T dfs (n + 3) 8 [.lst (cs.map natI),.lst (qs.map pairD),.int (k:Int),t.enc] = .ok (.bl (showsV cs qs k t))
  | .crowd ps,n,cs,hv,hcl,qs,hl,hq,ht,hd=>by
    have e:=crowd_shows n cs hv qs (by (first | lia | omega)) hq k ps ht.1 (by have:=ht.2;(first | lia | omega))
    refine callF_rt (k:=false) rfl rfl rfl ?_
    simp [b_shows_from,Tre.enc,crowd_eq,e,showsV]
  | .pair i j a b,n,cs,hv,hcl,qs,hl,hq,ht,hd=>by
    obtain ⟨hi,hj,oa,ob⟩:=ht
    rw [Tre.deep] at hd hl
    obtain ⟨n,rfl⟩ : ∃ m,n = m + 1:=⟨n - 1,by (first | lia | omega)⟩
    have e1:=put_together (n + 2) cs (by (first | lia | omega)) i j hi hj
    have e2:=shows_from k a n (putV cs i j) (putV_lt hi hv) (by rw [putV_length];exact hcl) qs (by (first | lia | omega)) (by rw [putV_length];exact hq) (by rw [putV_length];exact oa) (by (first | lia | omega))
    have e3:=shows_from k b n cs hv hcl (qs ++ [(i,j)]) (by rw [List.length_append,List.length_singleton];(first | lia | omega)) (by
      intro q hm
      rcases List.mem_append.mp hm with hm | hm
      · exact hq q hm
      · rw [List.mem_singleton.mp hm];exact ⟨hi,hj⟩) ob (by (first | lia | omega))
    have e4:=add_pair (qs:=qs) (by (first | lia | omega)) i j
    refine callF_rt (k:=false) rfl rfl rfl ?_
    rw [showsV]
    generalize qs ++ [(i,j)] = qs' at *
    generalize showsV (putV cs i j) qs k a = A at *
    generalize showsV cs qs' k b = B at *
    cases A
    · simp [b_shows_from,Tre.enc,pair_ne,e1,e2]
    · simp [b_shows_from,Tre.enc,pair_ne,e1,e2,e3,e4]
theorem lrng_nat {many:Nat} (h:many ≤ 8):lrngR (.int (many:Int)) = .ok (.lst ((List.range many).map natI)):=by
  have hb:=ten_big
  show when (small62 (many:Int) && decide ((many:Int) ≤ ((big:Nat):Int))) (.ok (D.lst (rangeD 0 (many:Int).toNat))) = _
  have c:(small62 (many:Int) && decide ((many:Int) ≤ ((big:Nat):Int))) = true:=by
    unfold small62
    rw [Bool.and_eq_true,Bool.and_eq_true,decide_eq_true_eq,decide_eq_true_eq,decide_eq_true_eq]
    (first | lia | omega)
  rw [when_of c,Int.toNat_natCast]
  have:=rangeD_nat 0 many
  rw [show ((0:Nat):Int) = 0 from rfl] at this
  rw [this,List.range_eq_range']
theorem shows (n many k:Nat) (hm:many ≤ 8) (qs:List (Nat × Nat)) (hl:qs.length ≤ 400) (hq:∀ q ∈ qs,q.1 < many ∧ q.2 < many) (t:Tre) (ht:t.ok many) (hd:t.deep ≤ n) (hd2:t.deep ≤ 100) :
    callF T dfs (n + 4) 9 [.int (many:Int),.lst (qs.map pairD),.int (k:Int),t.enc] = .ok (.bl (showsV (List.range many) qs k t)):=by
  have e1:=lrng_nat hm
  have e2:=shows_from k t n (List.range many) (fun v hv=>by have:=List.mem_range.mp hv;(first | lia | omega)) (by rw [List.length_range];exact hm) qs (by (first | lia | omega)) (by rw [List.length_range];exact hq) (by rw [List.length_range];exact ht) hd
  generalize hR:List.range many = R at *
  refine callF_rt (k:=false) rfl rfl rfl ?_
  simp [b_shows,e1,e2]
theorem in_nat (i:Nat) (ws:List Nat):D.cmp .In (.int (i:Int)) (.lst (ws.map natI)) = .ok (.bl (decide (i ∈ ws))):=by
  show (do let k ← D.inn (.int (i:Int)) (.lst (natD ws));Res.ok (D.bl k)) = _
  show (do let k ← when (D.pls 30 (natD ws) && D.pl 29 (.int (i:Int))) (.ok (D.mem (.int (i:Int)) (natD ws)));Res.ok (D.bl k)) = _
  rw [natD_pls 29 ws,natD_mem i ws];rfl
noncomputable def lN (b:List Nat):D:=.lst (b.map natI)
theorem eqs_nat:∀ a b:List Nat,D.eqs (a.map natI) (b.map natI) = decide (a = b)
  | [],[]=>rfl
  | [],_ :: _=>by rw [decide_eq_false (by simp)];rfl
  | _ :: _,[]=>by rw [decide_eq_false (by simp)];rfl
  | x :: a,y :: b=>by
    show (((x:Int) == (y:Int)) && D.eqs (a.map natI) (b.map natI)) = _
    rw [eqs_nat a b]
    by_cases h1:x = y
    · subst h1
      by_cases h2:a = b
      · simp [h2]
      · simp [h2]
    · have:¬ (x:Int) = (y:Int):=by (first | lia | omega)
      simp [h1,this]
theorem eqb_lN (a b:List Nat):D.eqb (lN a) (lN b) = decide (a = b):=by
  unfold lN
  rw [D.eqb];exact eqs_nat a b
theorem lN_pl (k:Nat) (b:List Nat):D.pl (k + 1) (lN b) = true:=by
  unfold lN
  rw [pl_lst];exact natD_pls k b
theorem cmp_lN (a b:List Nat):D.cmp .Eq (lN a) (lN b) = .ok (.bl (decide (a = b))):=by
  show when (D.pl 30 (lN a) && D.pl 30 (lN b)) (.ok (D.bl (D.eqb (lN a) (lN b)))) = _
  rw [lN_pl 29,lN_pl 29,eqb_lN];rfl
theorem notin_two (b x y:List Nat):D.cmp .NotIn (lN b) (.tup [lN x,lN y]) = .ok (.bl (!(decide (b = x) || decide (b = y)))):=by
  show (do let k ← when (D.pls 30 [lN x,lN y] && D.pl 29 (lN b)) (.ok (D.eqb (lN x) (lN b) || (D.eqb (lN y) (lN b) || false)));Res.ok (D.bl (!k))) = _
  have hp:(D.pls 30 [lN x,lN y] && D.pl 29 (lN b)) = true:=by
    rw [lN_pl 28,Bool.and_true]
    show (D.pl 29 (lN x) && (D.pl 29 (lN y) && D.pls 30 [])) = true
    rw [lN_pl 28,lN_pl 28];rfl
  rw [hp,eqb_lN,eqb_lN,Bool.or_false]
  have e1:decide (x = b) = decide (b = x):=by rw [Bool.eq_iff_iff,decide_eq_true_eq,decide_eq_true_eq];exact eq_comm
  have e2:decide (y = b) = decide (b = y):=by rw [Bool.eq_iff_iff,decide_eq_true_eq,decide_eq_true_eq];exact eq_comm
  rw [e1,e2];rfl
theorem keep_blk {bs:List (List Nat)} {n own:Nat} {caps:List Nat} {e:Nv} {elt cond:E} {x:Nat} (h:∀ b,compF T (callF T dfs n) own caps (.one 0) elt cond e (lN b) = .ok (if decide (x ∈ b) = true then some (lN b) else none)) :
    compL (compF T (callF T dfs n) own caps (.one 0) elt cond e) (bs.map lN) = .ok ((bs.filter fun b=>decide (x ∈ b)).map lN):=compL_keep lN (fun b=>decide (x ∈ b)) (fun b _=>h b)
theorem law_together (n many:Nat) (cs:List Nat) (bs:List (List Nat)) (h:Cls many cs bs) (hl:bs.length ≤ 500) (i j:Nat) (hi:i < many) (hj:j < many) (hbl:∀ b ∈ bs,b.length ≤ 400) :
    callF T dfs (n + 1) 17 [.lst (bs.map lN),.int (i:Int),.int (j:Int)] = .ok (.lst ((togV bs i j).map lN)):=by
  have hb:=ten_big
  obtain ⟨fi,_⟩:=h.at hi
  obtain ⟨fj,_⟩:=h.at hj
  have bi:blkV bs i ∈ bs:=(List.mem_filter.mp (by rw [fi];exact List.mem_singleton.mpr rfl:blkV bs i ∈ bs.filter fun b=>decide (i ∈ b))).1
  have bj:blkV bs j ∈ bs:=(List.mem_filter.mp (by rw [fj];exact List.mem_singleton.mpr rfl:blkV bs j ∈ bs.filter fun b=>decide (j ∈ b))).1
  have li:=hbl _ bi
  have lj:=hbl _ bj
  have c1:compL (compF T (callF T dfs n) 1 [1] (.one 0) e_together_2 c_together_1 [.v (.lst (bs.map lN)),.v (.int (i:Int)),.v (.int (j:Int)),.no,.no]) (bs.map lN) = .ok [lN (blkV bs i)]:=by
    rw [keep_blk (x:=i) (by
      intro b
      have g:=in_nat i b
      by_cases q:i ∈ b
      · simp [compF,Tr.compEnv,e_together_2,c_together_1,lN,g,q]
      · simp [compF,Tr.compEnv,e_together_2,c_together_1,lN,g,q]),fi];rfl
  have c2:compL (compF T (callF T dfs n) 1 [2] (.one 0) e_together_4 c_together_3 [.v (.lst (bs.map lN)),.v (.int (i:Int)),.v (.int (j:Int)),.v (lN (blkV bs i)),.no]) (bs.map lN) = .ok [lN (blkV bs j)]:=by
    rw [keep_blk (x:=j) (by
      intro b
      have g:=in_nat j b
      by_cases q:j ∈ b
      · simp [compF,Tr.compEnv,e_together_4,c_together_3,lN,g,q]
      · simp [compF,Tr.compEnv,e_together_4,c_together_3,lN,g,q]),fj];rfl
  have q0:=cmp_lN (blkV bs i) (blkV bs j)
  have l:bs.length ≤ big:=by (first | lia | omega)
  unfold togV
  by_cases q:blkV bs i = blkV bs j
  · rw [if_pos q]
    refine callF_rt (k:=false) rfl rfl rfl ?_
    rw [decide_eq_true q] at q0
    generalize hBi:blkV bs i = B at *
    generalize hBj:blkV bs j = B' at *
    simp [b_law_together,c1,c2,l,q0]
  · rw [if_neg q]
    refine callF_rt (k:=true) rfl rfl rfl ?_
    rw [decide_eq_false q] at q0
    have c3:compL (compF T (callF T dfs n) 1 [3,4] (.one 0) e_together_6 c_together_5 [.v (.lst (bs.map lN)),.v (.int (i:Int)),.v (.int (j:Int)),.v (lN (blkV bs i)),.v (lN (blkV bs j))]) (bs.map lN) = .ok ((bs.filter fun b=>!(decide (b = blkV bs i) || decide (b = blkV bs j))).map lN):=by
      refine compL_keep lN (fun b=>!(decide (b = blkV bs i) || decide (b = blkV bs j))) (fun b _=>?_)
      have g:=notin_two b (blkV bs i) (blkV bs j)
      generalize (!(decide (b = blkV bs i) || decide (b = blkV bs j))) = K at *
      cases K
      · simp [compF,Tr.compEnv,e_together_6,c_together_5,g]
      · simp [compF,Tr.compEnv,e_together_6,c_together_5,g]
    have a1:D.bin .Add (lN (blkV bs i)) (lN (blkV bs j)) = .ok (lN (blkV bs i ++ blkV bs j)):=by
      unfold lN
      rw [add_lsts (by simp;(first | lia | omega)),List.map_append]
    have lf:(bs.filter fun b=>!(decide (b = blkV bs i) || decide (b = blkV bs j))).length ≤ bs.length:=List.length_filter_le _ _
    rw [List.map_append]
    generalize (bs.filter fun b=>!(decide (b = blkV bs i) || decide (b = blkV bs j))) = fs at *
    have a2:D.bin .Add (.lst (fs.map lN)) (.lst [lN (blkV bs i ++ blkV bs j)]) = .ok (.lst (fs.map lN ++ [lN (blkV bs i ++ blkV bs j)])):=add_lsts (by simp;(first | lia | omega))
    generalize blkV bs i ++ blkV bs j = BB at *
    generalize hBi:blkV bs i = B at *
    generalize hBj:blkV bs j = B' at *
    simp [b_law_together,c1,c2,c3,l,q0,a1,a2]
theorem apart_in (n:Nat) (qs:List (Nat × Nat)) (x1 x2:Sl) (i:Nat):∀ (other:List Nat) (x4:Sl),if (other.any fun j=>decide ((i,j) ∈ qs) || decide ((j,i) ∈ qs)) = true then forL (bodyF T (callF T dfs n) (.one 4) b_apart_1) (other.map natI) [.v (.lst (qs.map pairD)),x1,x2,.v (.int (i:Int)),x4] = .ok (.rt (.bl true) false)
    else ∃ x4',forL (bodyF T (callF T dfs n) (.one 4) b_apart_1) (other.map natI) [.v (.lst (qs.map pairD)),x1,x2,.v (.int (i:Int)),x4] = .ok (.nx [.v (.lst (qs.map pairD)),x1,x2,.v (.int (i:Int)),x4'])
  | [],x4=>by rw [List.any_nil,if_neg Bool.false_ne_true];exact ⟨x4,rfl⟩
  | j :: r,x4=>by
    have g1:D.cmp .In (.tup [.int (i:Int),.int (j:Int)]) (.lst (qs.map pairD)) = .ok (.bl (decide ((i,j) ∈ qs))):=in_pairD (i,j) qs
    have g2:D.cmp .In (.tup [.int (j:Int),.int (i:Int)]) (.lst (qs.map pairD)) = .ok (.bl (decide ((j,i) ∈ qs))):=in_pairD (j,i) qs
    rw [List.any_cons,List.map_cons]
    cases hK:(decide ((i,j) ∈ qs) || decide ((j,i) ∈ qs)) with
    | true =>
      rw [Bool.true_or,if_pos rfl]
      refine forL_rt ?_
      cases h1:decide ((i,j) ∈ qs) with
      | true =>
        rw [h1] at g1
        simp [bodyF,b_apart_1,natI,g1]
      | false =>
        rw [h1,Bool.false_or] at hK
        rw [h1] at g1
        rw [hK] at g2
        simp [bodyF,b_apart_1,natI,g1,g2]
    | false =>
      rw [Bool.or_eq_false_iff] at hK
      rw [hK.1] at g1
      rw [hK.2] at g2
      have e:bodyF T (callF T dfs n) (.one 4) b_apart_1 (natI j) [.v (.lst (qs.map pairD)),x1,x2,.v (.int (i:Int)),x4] = .ok (.nx [.v (.lst (qs.map pairD)),x1,x2,.v (.int (i:Int)),.v (natI j)]):=by
        simp [bodyF,b_apart_1,natI,g1,g2]
      rw [Bool.false_or,forL_nx e]
      exact apart_in n qs x1 x2 i r _
theorem apart_out (n:Nat) (qs:List (Nat × Nat)) (x1:Sl) (other:List Nat):∀ (one:List Nat) (x3 x4:Sl),if apartV qs one other = true then forL (bodyF T (callF T dfs n) (.one 3) b_apart_2) (one.map natI) [.v (.lst (qs.map pairD)),x1,.v (lN other),x3,x4] = .ok (.rt (.bl true) false)
    else ∃ x3' x4',forL (bodyF T (callF T dfs n) (.one 3) b_apart_2) (one.map natI) [.v (.lst (qs.map pairD)),x1,.v (lN other),x3,x4] = .ok (.nx [.v (.lst (qs.map pairD)),x1,.v (lN other),x3',x4'])
  | [],x3,x4=>by unfold apartV;rw [List.any_nil,if_neg Bool.false_ne_true];exact ⟨x3,x4,rfl⟩
  | i :: r,x3,x4=>by
    have a:=apart_in n qs x1 (.v (lN other)) i other x4
    have ih:=apart_out n qs x1 other r
    unfold apartV at ih ⊢
    rw [List.any_cons,List.map_cons]
    cases hK:(other.any fun j=>decide ((i,j) ∈ qs) || decide ((j,i) ∈ qs)) with
    | true =>
      rw [hK,if_pos rfl] at a
      rw [Bool.true_or,if_pos rfl]
      refine forL_rt ?_
      simp [bodyF,b_apart_2,natI,lN] at a ⊢
      simp [a]
    | false =>
      rw [hK,if_neg Bool.false_ne_true] at a
      obtain ⟨x4',a⟩:=a
      have e:bodyF T (callF T dfs n) (.one 3) b_apart_2 (natI i) [.v (.lst (qs.map pairD)),x1,.v (lN other),x3,x4] = .ok (.nx [.v (.lst (qs.map pairD)),x1,.v (lN other),.v (natI i),x4']):=by
        simp [bodyF,b_apart_2,natI,lN] at a ⊢
        simp [a]
      rw [Bool.false_or,forL_nx e]
      exact ih _ _
theorem law_apart (n:Nat) (qs:List (Nat × Nat)) (one other:List Nat):callF T dfs (n + 1) 18 [.lst (qs.map pairD),lN one,lN other] = .ok (.bl (apartV qs one other)):=by
  have a:=apart_out n qs (.v (lN one)) other one .no .no
  refine callF_rt (k:=false) rfl rfl rfl ?_
  cases hK:apartV qs one other with
  | true =>
    rw [hK,if_pos rfl] at a
    simp [b_law_apart,lN] at a ⊢
    simp [a]
  | false =>
    rw [hK,if_neg Bool.false_ne_true] at a
    obtain ⟨x3,x4,a⟩:=a
    simp [b_law_apart,lN] at a ⊢
    simp [a]
theorem cut_drop {xs:List Nat} {a:Nat} (ha:a + 1 ≤ xs.length):cut (xs.map natI) (some ((a:Int) + 1)) none = (xs.drop (a + 1)).map natI:=by
  rw [show ((a:Int) + 1) = ((a + 1:Nat):Int) by (first | lia | omega),cut_from (by rw [List.length_map];exact ha),List.map_drop]
theorem greatest_with (ps:List (Nat × Nat)):∀ (f n:Nat) (c parts:List Nat),parts.length ≤ f → c.length + parts.length ≤ 100 → callF T dfs (n + f + 1) 3 [.lst (ps.map pairD),.lst (c.map natI),.lst (parts.map natI)] = .ok (.lst ((gr ps f c parts).map natI))
  | 0,n,c,parts,h,_=>by
    have e:parts = []:=List.length_eq_zero_iff.mp (by (first | lia | omega))
    subst e
    refine callF_rt (k:=false) rfl rfl rfl ?_
    simp [b_greatest_with,enumD,forL_nil,gr]
  | f + 1,n,c,parts,h,hl=>by
    have hb:=ten_big
    have loop:∀ (suf pre:List Nat) (best:List Nat) (y4 y5 y6 y7:Sl),pre ++ suf = parts →
        ∃ x4 x5 x6 x7,forL (bodyF T (callF T dfs (n + f + 1)) (.many [4,5]) b_greatest_with_3) (enumD (pre.length:Int) (suf.map natI)) [.v (.lst (ps.map pairD)),.v (.lst (c.map natI)),.v (.lst (parts.map natI)),.v (.lst (best.map natI)),y4,y5,y6,y7] =
          .ok (.nx [.v (.lst (ps.map pairD)),.v (.lst (c.map natI)),.v (.lst (parts.map natI)),.v (.lst ((foldS (fun p r=>gr ps f (c ++ [p]) (r.filter fun o=>decide ((p,o) ∈ ps))) best suf).map natI)),x4,x5,x6,x7]):=by
      intro suf
      induction suf with
      | nil=>intro pre best y4 y5 y6 y7 _;exact ⟨y4,y5,y6,y7,by rw [List.map_nil,enumD,forL_nil,foldS]⟩
      | cons p r ih =>
        intro pre best y4 y5 y6 y7 hp
        have hlen:pre.length + (r.length + 1) = parts.length:=by rw [← hp,List.length_append,List.length_cons]
        have e1:=cut_drop (xs:=parts) (a:=pre.length) (by (first | lia | omega))
        have e1':parts.drop (pre.length + 1) = r:=by
          rw [← hp,List.drop_append,List.drop_eq_nil_of_le (by (first | lia | omega))]
          simp
        rw [e1'] at e1
        have c1:∀ x1 x2 x3 x4 x6 x7,compL (compF T (callF T dfs (n + f + 1)) 1 [0,5] (.one 0) e_greatest_with_2 c_greatest_with_1 [.v (.lst (ps.map pairD)),x1,x2,x3,x4,.v (.int (p:Int)),x6,x7]) (r.map natI) = .ok ((r.filter fun o=>decide ((p,o) ∈ ps)).map natI):=by
          intro x1 x2 x3 x4 x6 x7
          refine compL_keep natI _ fun o _=>?_
          have e:=in_pairD (p,o) ps
          unfold pairD at e
          dsimp only at e
          unfold pairD
          generalize decide ((p,o) ∈ ps) = b at e ⊢
          cases b <;> simp [compF,Tr.compEnv,natI,c_greatest_with_1,e_greatest_with_2,e]
        have ad:D.bin .Add (.lst (c.map natI)) (.lst [.int (p:Int)]) = .ok (.lst ((c ++ [p]).map natI)):=by
          rw [add_lsts (by simp;(first | lia | omega)),List.map_append];rfl
        have hfl:=List.length_filter_le (fun o=>decide ((p,o) ∈ ps)) r
        have e2:=greatest_with ps f n (c ++ [p]) (r.filter fun o=>decide ((p,o) ∈ ps)) (by (first | lia | omega)) (by rw [List.length_append,List.length_singleton];(first | lia | omega))
        have l1:r.length ≤ big:=by (first | lia | omega)
        obtain ⟨x4,x5,x6,x7,e3⟩:=ih (pre ++ [p]) (if best.length < (gr ps f (c ++ [p]) (r.filter fun o=>decide ((p,o) ∈ ps))).length then gr ps f (c ++ [p]) (r.filter fun o=>decide ((p,o) ∈ ps)) else best) (.v (.int (pre.length:Int))) (.v (.int (p:Int))) (.v (.lst ((r.filter fun o=>decide ((p,o) ∈ ps)).map natI))) (.v (.lst ((gr ps f (c ++ [p]) (r.filter fun o=>decide ((p,o) ∈ ps))).map natI))) (by rw [List.append_assoc];exact hp)
        refine ⟨x4,x5,x6,x7,?_⟩
        rw [List.length_append,List.length_singleton,show ((pre.length + 1:Nat):Int) = (pre.length:Int) + 1 by (first | lia | omega)] at e3
        have e:bodyF T (callF T dfs (n + f + 1)) (.many [4,5]) b_greatest_with_3 (.tup [.int (pre.length:Int),natI p]) [.v (.lst (ps.map pairD)),.v (.lst (c.map natI)),.v (.lst (parts.map natI)),.v (.lst (best.map natI)),y4,y5,y6,y7] =
            .ok (.nx [.v (.lst (ps.map pairD)),.v (.lst (c.map natI)),.v (.lst (parts.map natI)),.v (.lst ((if best.length < (gr ps f (c ++ [p]) (r.filter fun o=>decide ((p,o) ∈ ps))).length then gr ps f (c ++ [p]) (r.filter fun o=>decide ((p,o) ∈ ps)) else best).map natI)),.v (.int (pre.length:Int)),.v (.int (p:Int)),.v (.lst ((r.filter fun o=>decide ((p,o) ∈ ps)).map natI)),.v (.lst ((gr ps f (c ++ [p]) (r.filter fun o=>decide ((p,o) ∈ ps))).map natI))]):=by
          clear e3 ih
          generalize gr ps f (c ++ [p]) (r.filter fun o=>decide ((p,o) ∈ ps)) = g at *
          generalize (r.filter fun o=>decide ((p,o) ∈ ps)) = fl at *
          generalize (c ++ [p]).map natI = cp at *
          by_cases hc:best.length < g.length
          · have hc':(best.length:Int) < (g.length:Int):=by (first | lia | omega)
            simp [bodyF,b_greatest_with_3,natI,e1,c1,ad,e2,l1,hc,hc']
          · have hc':¬ (best.length:Int) < (g.length:Int):=by (first | lia | omega)
            simp [bodyF,b_greatest_with_3,natI,e1,c1,ad,e2,l1,hc,hc']
        rw [List.map_cons,enumD,forL_nx e,e3,foldS]
    obtain ⟨x4,x5,x6,x7,e⟩:=loop parts [] c .no .no .no .no rfl
    refine callF_rt (k:=false) rfl rfl rfl ?_
    rw [gr]
    replace e:forL (bodyF T (callF T dfs (n + (f + 1))) (.many [4,5]) b_greatest_with_3) (enumD 0 (parts.map natI)) _ = _:=e
    generalize foldS (fun p r=>gr ps f (c ++ [p]) (r.filter fun o=>decide ((p,o) ∈ ps))) c parts = Z at *
    simp [b_greatest_with,e]
theorem crowd_of (n:Nat) (ps:List (Nat × Nat)) (many:Nat) (hm:many ≤ 8):callF T dfs (n + many + 2) 4 [.int (many:Int),.lst (ps.map pairD)] = .ok (.lst ((gr ps many [] (List.range many)).map natI)):=by
  have e1:=lrng_nat hm
  have e2:=greatest_with ps many n [] (List.range many) (by rw [List.length_range];exact Nat.le_refl _) (by rw [List.length_range,List.length_nil];(first | lia | omega))
  rw [List.map_nil] at e2
  generalize gr ps many [] (List.range many) = Z at *
  generalize List.range many = R at *
  refine callF_rt (k:=false) rfl rfl rfl ?_
  simp [b_crowd_of,e1,e2]
noncomputable def gapI (ps:List (Nat × Nat)) (i j:Nat):Option (Nat × Nat):=if (i,j) ∈ ps then none else some (i,j)
noncomputable def gapO (ps:List (Nat × Nat)) (m i:Nat):Option (Nat × Nat):=(List.range' (i + 1) (m - (i + 1))).findSome? (gapI ps i)
noncomputable def gapD:Option (Nat × Nat) → D
  | none=>.non
  | some p=>pairD p
noncomputable def pD (p:Nat × Nat):D × Bool:=(pairD p,false)
theorem places_apart (n:Nat) (ps:List (Nat × Nat)) (m:Nat) (hm:m ≤ 20):callF T dfs (n + 1) 10 [.int (m:Int),.lst (ps.map pairD)] = .ok (gapD ((List.range m).findSome? (gapO ps m))):=by
  have rg:=rng_nat (n:=m) (by (first | lia | omega))
  have loop:=forL_findN (f:=bodyF T (callF T dfs n) (.one 2) b_places_apart_2) (fun e=>∃ x2 x3,e = [.v (.int (m:Int)),.v (.lst (ps.map pairD)),x2,x3])
    (fun i=>(gapO ps m i).map pD) (List.range m) [.v (.int (m:Int)),.v (.lst (ps.map pairD)),.no,.no] ⟨.no,.no,rfl⟩ (by
      rintro i hi e ⟨x2,x3,rfl⟩
      have hi:i < m:=by simpa using hi
      have rg2:=rng2_succ (s:=i) (m:=m) (by (first | lia | omega)) (by (first | lia | omega))
      have inner:=forL_findN (f:=bodyF T (callF T dfs n) (.one 3) b_places_apart_1) (fun e=>∃ x3,e = [.v (.int (m:Int)),.v (.lst (ps.map pairD)),.v (.int (i:Int)),x3])
        (fun j=>(gapI ps i j).map pD) (List.range' (i + 1) (m - (i + 1))) [.v (.int (m:Int)),.v (.lst (ps.map pairD)),.v (.int (i:Int)),x3] ⟨x3,rfl⟩ (by
          rintro j hj e ⟨x3,rfl⟩
          have e:=notin_pairD (i,j) ps
          unfold gapI pD
          unfold pairD at e
          dsimp only at e
          by_cases h:(i,j) ∈ ps
          · rw [decide_eq_true h] at e
            rw [if_pos h]
            refine ⟨[.v (.int (m:Int)),.v (.lst (ps.map pairD)),.v (.int (i:Int)),.v (.int (j:Int))],.inl ?_,_,rfl⟩
            unfold pairD
            simp [bodyF,b_places_apart_1,natI,e]
          · rw [decide_eq_false h] at e
            rw [if_neg h]
            show bodyF T (callF T dfs n) (.one 3) b_places_apart_1 (natI j) _ = .ok (.rt (pairD (i,j)) false)
            unfold pairD
            simp [bodyF,b_places_apart_1,natI,e])
      rw [findSome_omap] at inner
      unfold gapO
      cases hf:(List.range' (i + 1) (m - (i + 1))).findSome? (gapI ps i) with
      | none =>
        rw [hf] at inner
        obtain ⟨e',h1,x3',rfl⟩:=inner
        exact ⟨[.v (.int (m:Int)),.v (.lst (ps.map pairD)),.v (.int (i:Int)),x3'],.inl (by simp [bodyF,b_places_apart_2,natI,rg2,h1]),_,_,rfl⟩
      | some p =>
        rw [hf] at inner
        have inner:forL _ _ _ = .ok (.rt (pairD p) false):=inner
        show bodyF T (callF T dfs n) (.one 2) b_places_apart_2 (natI i) _ = .ok (.rt (pairD p) false)
        simp [bodyF,b_places_apart_2,natI,rg2,inner])
  rw [findSome_omap] at loop
  cases hf:(List.range m).findSome? (gapO ps m) with
  | none =>
    rw [hf] at loop
    obtain ⟨e',h1,x2,x3,rfl⟩:=loop
    refine callF_rt (k:=false) rfl rfl rfl ?_
    simp [b_places_apart,rg,h1,gapD]
  | some p =>
    rw [hf] at loop
    have loop:forL _ _ _ = .ok (.rt (pairD p) false):=loop
    refine callF_rt (k:=false) rfl rfl rfl ?_
    simp [b_places_apart,rg,loop,gapD]
theorem gap_some {ps:List (Nat × Nat)} {m:Nat} {p:Nat × Nat} (h:(List.range m).findSome? (gapO ps m) = some p):p.1 < p.2 ∧ p.2 < m ∧ p ∉ ps:=by
  obtain ⟨i,hi,h⟩:=List.exists_of_findSome?_eq_some h
  obtain ⟨j,hj,h⟩:=List.exists_of_findSome?_eq_some h
  rw [List.mem_range'_1] at hj
  unfold gapI at h
  by_cases hn:(i,j) ∈ ps
  · rw [if_pos hn] at h;cases h
  · rw [if_neg hn] at h
    cases h
    exact ⟨by show i < j;(first | lia | omega),by show j < m;(first | lia | omega),hn⟩
theorem gap_none {ps:List (Nat × Nat)} {m:Nat} (h:(List.range m).findSome? (gapO ps m) = none) {a b:Nat} (hab:a < b) (hb:b < m):(a,b) ∈ ps:=by
  have h1:=List.findSome?_eq_none_iff.mp h a (List.mem_range.mpr (by (first | lia | omega)))
  have h2:=List.findSome?_eq_none_iff.mp h1 b (by rw [List.mem_range'_1];(first | lia | omega))
  unfold gapI at h2
  split at h2
  · assumption
  · cases h2
theorem nums_at {N:List Nat} {a:Nat} (h:a < N.length):D.ix (.lst (N.map natI)) (.int (a:Int)) = .ok (.int ((N.getD a 0:Nat):Int)):=g_at h
theorem tree_pairs (n:Nat) {many:Nat} {cs:List Nat} {qs:List (Nat × Nat)} (C:Cst many cs qs) (x0 x1 x2 x4 x5 x6 x7 x8 x9 x10:Sl) :
    compL (compF T (callF T dfs n) 2 [3] (.many [0,1]) e_tree_from_1 (.con (.bl true)) [x0,x1,x2,.v (.lst ((numsV cs).map natI)),x4,x5,x6,x7,x8,x9,x10]) ((ccV cs qs).map pairD) = .ok ((plV cs qs).map pairD):=by
  rw [compL_enc pairD (fun p=>some (pairD ((numsV cs).idxOf p.1,(numsV cs).idxOf p.2))) (by
    intro p hp
    obtain ⟨h1,h2,_⟩:=C.cc_num hp
    have e1:=run_index h1
    have e2:=run_index h2
    generalize (numsV cs).map natI = N at *
    simp [compF,Tr.compEnv,e_tree_from_1,pairD,e1,e2]),List.filterMap_eq_map',plV,List.map_map]
  rfl
theorem tree_crowd (n:Nat) (N d:List Nat) (h:∀ a ∈ d,a < N.length) (x0 x1 x2 x4 x5 x6 x7 x8 x9 x10:Sl) :
    compL (compF T (callF T dfs n) 1 [3] (.one 0) e_tree_from_2 (.con (.bl true)) [x0,x1,x2,.v (.lst (N.map natI)),x4,x5,x6,x7,x8,x9,x10]) (d.map natI) = .ok ((d.map fun a=>N.getD a 0).map natI):=by
  rw [compL_enc natI (fun a=>some (natI (N.getD a 0))) (by
    intro a ha
    have e1:=nums_at (h a ha)
    generalize N.map natI = N' at *
    simp [compF,Tr.compEnv,e_tree_from_2,natI,e1]),List.filterMap_eq_map',List.map_map]
  rfl
theorem tree_from (many k:Nat) (hk:k ≤ 20):∀ (m n:Nat) (cs:List Nat) (qs:List (Nat × Nat)),Cst many cs qs → Hard many k cs qs → naP (adjC cs qs) (numsV cs) = m → qs.length + m ≤ 400 →
    ∃ t:Tre,t.ok many ∧ t.sep ∧ showsV cs qs k t = true ∧ t.deep ≤ m ∧ t.size ≤ tb (numsV cs).length m ∧ callF T dfs (n + m + 12) 11 [.lst (cs.map natI),.lst (qs.map pairD),.int (k:Int)] = .ok t.enc:=by
  intro m
  induction m using Nat.strongRecOn with
  | _ m ih =>
    intro n cs qs C H hna hql
    have hb:=ten_big
    have nl:=C.nle
    have m22:=C.na_lt
    have hcl:cs.length ≤ 7:=by rw [C.len];exact C.m7
    have e1:=sset_nat C.lt8
    have e2:=class_clashes (n + m + 10) cs qs (by (first | lia | omega)) (by rw [C.len];exact C.qlt)
    have c1:=tree_pairs (n + m + 11) C
    have e3:callF T dfs (n + m + 11) 4 [.int ((numsV cs).length:Int),.lst ((plV cs qs).map pairD)] = .ok (.lst ((gr (plV cs qs) (numsV cs).length [] (List.range (numsV cs).length)).map natI)):=by
      have:=crowd_of (n + m + 9 - (numsV cs).length) (plV cs qs) (numsV cs).length (by (first | lia | omega))
      rw [show n + m + 9 - (numsV cs).length + (numsV cs).length + 2 = n + m + 11 by (first | lia | omega)] at this
      exact this
    obtain ⟨d,d1,d2,d3⟩:=gr_is (plV cs qs) (numsV cs).length [] (List.range (numsV cs).length)
    rw [List.nil_append] at d1
    have dall:=gr_all (plV cs qs) (numsV cs).length [] (List.range (numsV cs).length) (by rw [List.length_range];exact Nat.le_refl _)
    rw [d1] at e3 dall
    rw [List.length_nil,List.length_range] at dall
    have dlt:∀ a ∈ d,a < (numsV cs).length:=fun a ha=>List.mem_range.mp (d2.mem ha)
    have dl:d.length ≤ (numsV cs).length:=by have:=d2.length_le;rwa [List.length_range] at this
    have lq:(ccV cs qs).length ≤ big:=by unfold ccV;rw [List.length_map];(first | lia | omega)
    have ld:d.length ≤ big:=by (first | lia | omega)
    have t1:=tb_one _ (show (numsV cs).length < 8 by (first | lia | omega)) m (by (first | lia | omega))
    by_cases hd:k ≤ d.length
    · obtain ⟨o1,o2⟩:=C.leaf d2 d3 hd
      refine ⟨_,o1,trivial,o2,Nat.zero_le _,t1,?_⟩
      have c2:=tree_crowd (n + m + 11) (numsV cs) d dlt
      have hd':(k:Int) ≤ (d.length:Int):=by (first | lia | omega)
      refine callF_rt (k:=false) rfl rfl rfl ?_
      rw [Tre.enc]
      generalize (d.map fun a=>(numsV cs).getD a 0) = L at *
      generalize hN:(numsV cs).length = NL at *
      have rl:Bt.run .len [.lst ((numsV cs).map natI)] = .ok (.int (NL:Int)):=by rw [run_len_l,List.length_map,hN]
      generalize (numsV cs).map natI = N at *
      simp [b_tree_from,e1,e2,c1,rl,e3,lq,hd',c2,ld]
    · have hd':¬ (k:Int) ≤ (d.length:Int):=by (first | lia | omega)
      have e4:=places_apart (n + m + 10) (plV cs qs) (numsV cs).length (by (first | lia | omega))
      cases hf:(List.range (numsV cs).length).findSome? (gapO (plV cs qs) (numsV cs).length) with
      | none =>
        exfalso
        have h1:=dall (List.pairwise_lt_range.imp_of_mem fun {a b} ha hb' h=>gap_none hf h (List.mem_range.mp hb'))
        have h2:=H.le C
        (first | lia | omega)
      | some p =>
        rw [hf] at e4
        obtain ⟨p1,p2,p3⟩:=gap_some hf
        have so:=nums_sorted cs
        have hu:(numsV cs).getD p.1 0 ∈ numsV cs:=by rw [getD_lt (by (first | lia | omega))];exact List.getElem_mem _
        have hv:(numsV cs).getD p.2 0 ∈ numsV cs:=by rw [getD_lt p2];exact List.getElem_mem _
        have huv:=Nat.ne_of_lt (sorted_lt so p1 p2)
        have na:adjC cs qs ((numsV cs).getD p.1 0) ((numsV cs).getD p.2 0) = false:=by
          rw [Bool.eq_false_iff]
          exact fun z=>p3 ((C.pl_iff p1 p2).mpr z)
        have i1:=nums_at (N:=numsV cs) (show p.1 < _ by (first | lia | omega))
        have i2:=nums_at (N:=numsV cs) p2
        have um:=(C.num.mp hu).1
        have vm:=(C.num.mp hv).1
        obtain ⟨R,z,r1,r2,r3,r4,r5,r6⟩:=C.count hu hv huv na
        generalize (numsV cs).getD p.1 0 = u at *
        generalize (numsV cs).getD p.2 0 = v at *
        have C1:=C.put hu hv huv na
        have C2:=C.apart hu hv huv
        have H1:=H.put C hu hv huv na
        have H2:Hard many k cs (qs ++ [(u,v)]):=H.apart
        obtain ⟨m1,rfl⟩ : ∃ m1,m = m1 + 1:=⟨m - 1,by (first | lia | omega)⟩
        have hm':naP (adjC (putV cs u v) qs) (numsV (putV cs u v)) = m1 - (R - z):=by (first | lia | omega)
        obtain ⟨ta,a1,a0,a2,a3,a4,a5⟩:=ih (m1 - (R - z)) (by (first | lia | omega)) (n + (R - z)) (putV cs u v) qs C1 H1 hm' (by (first | lia | omega))
        obtain ⟨tc,b1,b0,b2,b3,b4,b5⟩:=ih m1 (by (first | lia | omega)) n cs (qs ++ [(u,v)]) C2 H2 (by (first | lia | omega)) (by rw [List.length_append,List.length_singleton];(first | lia | omega))
        rw [show n + (R - z) + (m1 - (R - z)) + 12 = n + (m1 + 1) + 11 by (first | lia | omega)] at a5
        rw [show n + m1 + 12 = n + (m1 + 1) + 11 by (first | lia | omega)] at b5
        have e5:=put_together (n + (m1 + 1) + 10) cs (by (first | lia | omega)) u v (by rw [C.len];exact um) (by rw [C.len];exact vm)
        have e6:=add_pair (qs:=qs) (by (first | lia | omega)) u v
        refine ⟨.pair u v ta tc,⟨um,vm,a1,b1⟩,⟨huv,a0,b0⟩,?_,?_,?_,?_⟩
        · show (showsV (putV cs u v) qs k ta && showsV cs (qs ++ [(u,v)]) k tc) = true
          rw [a2,b2];rfl
        · show max ta.deep tc.deep + 1 ≤ m1 + 1
          (first | lia | omega)
        · show 1 + ta.size + tc.size ≤ _
          rw [r1]
          rw [r2] at a4
          rw [r1] at b4
          have:=tb_step (n:=R) (m:=m1) (z:=z) (by (first | lia | omega)) (by (first | lia | omega)) r3 (by rw [hna] at r5;exact r5) (by (first | lia | omega))
          (first | lia | omega)
        · have y1:D.ix (pairD p) (.int 0) = .ok (.int p.1):=rfl
          have y2:D.ix (pairD p) (.int 1) = .ok (.int p.2):=rfl
          have g1:gapD (some p) = pairD p:=rfl
          rw [g1] at e4
          clear a2 b2 r4 r5 r6 C1 C2 H1 H2 ih hf
          refine callF_rt (k:=false) rfl rfl rfl ?_
          rw [Tre.enc]
          have rl:Bt.run .len [.lst ((numsV cs).map natI)] = .ok (.int ((numsV cs).length:Int)):=by rw [run_len_l,List.length_map]
          generalize hN:(numsV cs).length = NL at *
          generalize (numsV cs).map natI = N at *
          generalize pairD p = pp at *
          generalize ta.enc = tA at *
          generalize tc.enc = tB at *
          generalize qs ++ [(u,v)] = qs' at *
          simp [b_tree_from,e1,e2,c1,rl,e3,lq,hd',e4,y1,y2,i1,i2,e5,e6,a5,b5]
theorem tog_len (bs:List (List Nat)) (i j:Nat):(togV bs i j).length ≤ bs.length + 1:=by
  unfold togV
  split
  · (first | lia | omega)
  · rw [List.length_append,List.length_singleton]
    have:=List.length_filter_le (fun b=>!(decide (b = blkV bs i) || decide (b = blkV bs j))) bs
    (first | lia | omega)
theorem shown_some (n many:Nat) (cs:List Nat) (bs:List (List Nat)) (h:Cls many cs bs) (hl:bs.length ≤ 500) (x1 x2 x3 x6 x7:Sl):∀ (ps:List Nat),(∀ p ∈ ps,p < many) → ∀ (acc:List (List Nat)) (x5:Sl),acc.length + ps.length ≤ 100 →
    ∃ x5',forL (bodyF T (callF T dfs n) (.one 5) b_end_shows_3) (ps.map natI) [.v (.lst (bs.map lN)),x1,x2,x3,.o (.lst (acc.map lN)),x5,x6,x7] = .ok (.nx [.v (.lst (bs.map lN)),x1,x2,x3,.o (.lst ((acc ++ ps.map (blkV bs)).map lN)),x5',x6,x7])
  | [],_,acc,x5,_=>⟨x5,by rw [List.map_nil,List.map_nil,List.append_nil];rfl⟩
  | p :: r,hp,acc,x5,ha=>by
    have hb:=ten_big
    rw [List.length_cons] at ha
    obtain ⟨fp,_⟩:=h.at (hp p List.mem_cons_self)
    have c1:compL (compF T (callF T dfs n) 1 [5] (.one 0) e_end_shows_2 c_end_shows_1 [.v (.lst (bs.map lN)),x1,x2,x3,.o (.lst (acc.map lN)),.v (natI p),x6,x7]) (bs.map lN) = .ok [lN (blkV bs p)]:=by
      rw [keep_blk (x:=p) (by
        intro b
        have g:=in_nat p b
        by_cases q:p ∈ b
        · simp [compF,Tr.compEnv,e_end_shows_2,c_end_shows_1,natI,lN] at g ⊢
          simp [g,q]
        · simp [compF,Tr.compEnv,e_end_shows_2,c_end_shows_1,natI,lN] at g ⊢
          simp [g,q]),fp];rfl
    have l:bs.length ≤ big:=by (first | lia | omega)
    have l2:acc.length < big:=by (first | lia | omega)
    obtain ⟨x5',e2⟩:=shown_some n many cs bs h hl x1 x2 x3 x6 x7 r (fun q hq=>hp q (List.mem_cons_of_mem _ hq)) (acc ++ [blkV bs p]) (.v (natI p)) (by rw [List.length_append,List.length_singleton];(first | lia | omega))
    refine ⟨x5',?_⟩
    have e:bodyF T (callF T dfs n) (.one 5) b_end_shows_3 (natI p) [.v (.lst (bs.map lN)),x1,x2,x3,.o (.lst (acc.map lN)),x5,x6,x7] = .ok (.nx [.v (.lst (bs.map lN)),x1,x2,x3,.o (.lst ((acc ++ [blkV bs p]).map lN)),.v (natI p),x6,x7]):=by
      rw [List.map_append]
      generalize blkV bs p = B at *
      simp [bodyF,b_end_shows_3,c1,l,l2]
    rw [List.map_cons,forL_nx e,e2,List.map_cons,List.append_assoc];rfl
theorem rdl_at {ss:List (List Nat)} {x:Nat} (h:x < ss.length):D.ix (.lst (ss.map lN)) (.int (x:Int)) = .ok (lN (ss.getD x [])):=ix_l (by
  rw [List.getElem?_map,List.getElem?_eq_getElem h,List.getD_eq_getElem?_getD,List.getElem?_eq_getElem h];rfl)
noncomputable def farS (qs:List (Nat × Nat)) (a b:List Nat):Bool:=!(decide (a = b) || !apartV qs a b)
theorem shown_in (n:Nat) (qs:List (Nat × Nat)) (ss:List (List Nat)) (x0 x2 x3 x5:Sl) (j:Nat) (hj:j < ss.length):∀ (is:List Nat),(∀ i ∈ is,i < ss.length) → ∀ (x7:Sl),
    if (is.all fun i=>farS qs (ss.getD i []) (ss.getD j [])) = true then ∃ x7',forL (bodyF T (callF T dfs (n + 1)) (.one 7) b_end_shows_4) (is.map natI) [x0,.v (.lst (qs.map pairD)),x2,x3,.o (.lst (ss.map lN)),x5,.v (.int (j:Int)),x7] = .ok (.nx [x0,.v (.lst (qs.map pairD)),x2,x3,.o (.lst (ss.map lN)),x5,.v (.int (j:Int)),x7'])
    else forL (bodyF T (callF T dfs (n + 1)) (.one 7) b_end_shows_4) (is.map natI) [x0,.v (.lst (qs.map pairD)),x2,x3,.o (.lst (ss.map lN)),x5,.v (.int (j:Int)),x7] = .ok (.rt (.bl false) false)
  | [],_,x7=>by rw [List.all_nil,if_pos rfl];exact ⟨x7,rfl⟩
  | i :: r,hi,x7=>by
    have g1:=rdl_at (hi i List.mem_cons_self)
    have g2:=rdl_at hj
    have g3:=cmp_lN (ss.getD i []) (ss.getD j [])
    have g4:=law_apart n qs (ss.getD i []) (ss.getD j [])
    have ih:=shown_in n qs ss x0 x2 x3 x5 j hj r (fun q hq=>hi q (List.mem_cons_of_mem _ hq))
    rw [List.all_cons,List.map_cons]
    have e:bodyF T (callF T dfs (n + 1)) (.one 7) b_end_shows_4 (natI i) [x0,.v (.lst (qs.map pairD)),x2,x3,.o (.lst (ss.map lN)),x5,.v (.int (j:Int)),x7] = if farS qs (ss.getD i []) (ss.getD j []) = true then .ok (.nx [x0,.v (.lst (qs.map pairD)),x2,x3,.o (.lst (ss.map lN)),x5,.v (.int (j:Int)),.v (natI i)]) else .ok (.rt (.bl false) false):=by
      unfold farS
      generalize ss.getD i [] = A at *
      generalize ss.getD j [] = B at *
      generalize apartV qs A B = K at *
      by_cases q:A = B
      · rw [decide_eq_true q] at g3
        subst q
        simp [bodyF,b_end_shows_4,natI,g1,g2,g3]
      · rw [decide_eq_false q] at g3
        cases K
        · simp [bodyF,b_end_shows_4,natI,g1,g2,g3,g4,q]
        · simp [bodyF,b_end_shows_4,natI,g1,g2,g3,g4,q]
    cases hK:farS qs (ss.getD i []) (ss.getD j []) with
    | true =>
      rw [hK,if_pos rfl] at e
      rw [Bool.true_and,forL_nx e]
      exact ih _
    | false =>
      rw [hK,if_neg Bool.false_ne_true] at e
      rw [Bool.false_and,if_neg Bool.false_ne_true,forL_rt e]
theorem shown_out (n:Nat) (qs:List (Nat × Nat)) (ss:List (List Nat)) (hs:ss.length ≤ 100) (x0 x2 x3 x5:Sl):∀ (js:List Nat),(∀ j ∈ js,j < ss.length) → ∀ (x6 x7:Sl),
    if (js.all fun j=>(List.range j).all fun i=>farS qs (ss.getD i []) (ss.getD j [])) = true then ∃ x6' x7',forL (bodyF T (callF T dfs (n + 1)) (.one 6) b_end_shows_5) (js.map natI) [x0,.v (.lst (qs.map pairD)),x2,x3,.o (.lst (ss.map lN)),x5,x6,x7] = .ok (.nx [x0,.v (.lst (qs.map pairD)),x2,x3,.o (.lst (ss.map lN)),x5,x6',x7'])
    else forL (bodyF T (callF T dfs (n + 1)) (.one 6) b_end_shows_5) (js.map natI) [x0,.v (.lst (qs.map pairD)),x2,x3,.o (.lst (ss.map lN)),x5,x6,x7] = .ok (.rt (.bl false) false)
  | [],_,x6,x7=>by rw [List.all_nil,if_pos rfl];exact ⟨x6,x7,rfl⟩
  | j :: r,hj,x6,x7=>by
    have hj0:=hj j List.mem_cons_self
    have rg:=rng_nat (n:=j) (by (first | lia | omega))
    have a:=shown_in n qs ss x0 x2 x3 x5 j hj0 (List.range j) (fun i hi=>by have:=List.mem_range.mp hi;(first | lia | omega)) x7
    have ih:=shown_out n qs ss hs x0 x2 x3 x5 r (fun q hq=>hj q (List.mem_cons_of_mem _ hq))
    rw [List.all_cons,List.map_cons]
    cases hK:((List.range j).all fun i=>farS qs (ss.getD i []) (ss.getD j [])) with
    | true =>
      rw [hK,if_pos rfl] at a
      obtain ⟨x7',a⟩:=a
      have e:bodyF T (callF T dfs (n + 1)) (.one 6) b_end_shows_5 (natI j) [x0,.v (.lst (qs.map pairD)),x2,x3,.o (.lst (ss.map lN)),x5,x6,x7] = .ok (.nx [x0,.v (.lst (qs.map pairD)),x2,x3,.o (.lst (ss.map lN)),x5,.v (.int (j:Int)),x7']):=by
        simp [bodyF,b_end_shows_5,natI,rg] at a ⊢
        simp [a]
      rw [Bool.true_and,forL_nx e]
      exact ih _ _
    | false =>
      rw [hK,if_neg Bool.false_ne_true] at a
      have e:bodyF T (callF T dfs (n + 1)) (.one 6) b_end_shows_5 (natI j) [x0,.v (.lst (qs.map pairD)),x2,x3,.o (.lst (ss.map lN)),x5,x6,x7] = .ok (.rt (.bl false) false):=by
        simp [bodyF,b_end_shows_5,natI,rg] at a ⊢
        simp [a]
      rw [Bool.false_and,if_neg Bool.false_ne_true,forL_rt e]
theorem meet_far (bs:List (List Nat)) (qs:List (Nat × Nat)) (ps:List Nat):((List.range (ps.map (blkV bs)).length).all fun j=>(List.range j).all fun i=>farS qs ((ps.map (blkV bs)).getD i []) ((ps.map (blkV bs)).getD j [])) = meetB bs qs ps:=by
  unfold meetB
  rw [List.length_map]
  have e:∀ i,i < ps.length → (ps.map (blkV bs)).getD i [] = blkV bs (ps.getD i 0):=by
    intro i hi
    rw [List.getD_eq_getElem?_getD,List.getElem?_map,List.getElem?_eq_getElem hi,List.getD_eq_getElem?_getD,List.getElem?_eq_getElem hi];rfl
  rw [Bool.eq_iff_iff,List.all_eq_true,List.all_eq_true]
  have body:∀ j,j ∈ List.range ps.length → (((List.range j).all fun i=>farS qs ((ps.map (blkV bs)).getD i []) ((ps.map (blkV bs)).getD j [])) = true ↔ ((List.range j).all fun i=>farB bs qs (ps.getD i 0) (ps.getD j 0)) = true):=by
    intro j hj
    have hj:=List.mem_range.mp hj
    rw [List.all_eq_true,List.all_eq_true]
    constructor
    · intro h i hi
      have:=h i hi
      have hi:=List.mem_range.mp hi
      rw [e i (by (first | lia | omega)),e j hj] at this
      exact this
    · intro h i hi
      have:=h i hi
      have hi:=List.mem_range.mp hi
      rw [e i (by (first | lia | omega)),e j hj]
      exact this
  exact ⟨fun h j hj=>(body j hj).mp (h j hj),fun h j hj=>(body j hj).mpr (h j hj)⟩
theorem law_end_shows (n many k:Nat) (hm:many ≤ 8) (cs:List Nat) (bs:List (List Nat)) (h:Cls many cs bs) (hl:bs.length ≤ 100) (qs:List (Nat × Nat)) (ps:List Nat) (ht:(Tre.crowd ps).ok many) (hs:shownV bs qs k (.crowd ps) = true) :
    callF T dfs (n + 2) 19 [.lst (bs.map lN),.lst (qs.map pairD),.int (k:Int),.lst (ps.map natI)] = .ok (.bl true):=by
  have hb:=ten_big
  obtain ⟨h1,h2⟩:=ht
  rw [shownV,← meet_far,Bool.and_eq_true,Bool.not_eq_true',decide_eq_false_iff_not] at hs
  obtain ⟨q1,hK⟩:=hs
  have q1':¬ (ps.length:Int) < (k:Int):=by (first | lia | omega)
  obtain ⟨x5,s1⟩:=shown_some (n + 1) many cs bs h (by (first | lia | omega)) (.v (.lst (qs.map pairD))) (.v (.int (k:Int))) (.v (.lst (ps.map natI))) .no .no ps h1 [] .no (by simp;(first | lia | omega))
  rw [List.nil_append,List.map_nil] at s1
  have hss:(ps.map (blkV bs)).length ≤ 100:=by rw [List.length_map];(first | lia | omega)
  generalize ps.map (blkV bs) = ss at *
  have rg:=rng_nat (n:=ss.length) (by (first | lia | omega))
  have s2:=shown_out n qs ss hss (.v (.lst (bs.map lN))) (.v (.int (k:Int))) (.v (.lst (ps.map natI))) x5 (List.range ss.length) (fun j hj=>List.mem_range.mp hj) .no .no
  rw [hK,if_pos rfl] at s2
  obtain ⟨x6,x7,s2⟩:=s2
  have w2:∀ a,(D.lst a).isTy .list = true:=fun a=>rfl
  refine callF_rt (k:=false) rfl rfl rfl ?_
  simp [b_law_end_shows,w2,q1',rg] at s1 s2 ⊢
  simp [s1,rg,s2]
structure Wk1 where
  t:Tre
  cs:List Nat
  bs:List (List Nat)
  qs:List (Nat × Nat)
  dep:Nat
noncomputable def Wk1.enc (w:Wk1):D:=.tup [w.t.enc,.lst (w.bs.map lN),.lst (w.qs.map pairD),.int (w.dep:Int)]
structure Wk1.Ok (many k:Nat) (w:Wk1):Prop where
  cls:Cls many w.cs w.bs
  lt:∀ q ∈ w.qs,q.1 < many ∧ q.2 < many
  ok:w.t.ok many
  sep:w.t.sep
  sh:showsV w.cs w.qs k w.t = true
  dp:w.dep + w.t.deep ≤ 24
  bl:w.bs.length + w.t.deep ≤ 100
  ls:lenS w.bs ≤ 100
  ql:w.qs.length + w.t.deep ≤ 400
theorem walk_pl {many k:Nat} {w:Wk1} (h:w.Ok many k):D.pl 29 w.enc = true:=by
  have h1:=tre_pl w.t 28 (by have:=h.dp;(first | lia | omega))
  have h2:D.pls 28 (w.bs.map lN) = true:=pls_map lN 27 (lN_pl 26) w.bs
  have h3:D.pls 28 (w.qs.map pairD) = true:=pls_map pairD 27 (pairD_pl 26) w.qs
  unfold Wk1.enc
  rw [pl_tup]
  simp only [D.pls,pl_lst,h1,h2,h3]
  simp [D.pl]
theorem walks_pl {many k:Nat}:∀ {ws:List Wk1},(∀ w ∈ ws,w.Ok many k) → D.pls 30 (ws.map Wk1.enc) = true
  | [],_=>rfl
  | w :: r,h=>by
    rw [List.map_cons]
    simp only [D.pls]
    rw [walk_pl (h w List.mem_cons_self),walks_pl (ws:=r) fun x hx=>h x (List.mem_cons_of_mem _ hx)];rfl
noncomputable def sizeS (ws:List Wk1):Nat:=(ws.map fun w=>w.t.size).sum
theorem sizeS_app (a b:List Wk1):sizeS (a ++ b) = sizeS a + sizeS b:=by unfold sizeS;rw [List.map_append,List.sum_append]
theorem sizeS_one (w:Wk1):sizeS [w] = w.t.size:=by unfold sizeS;simp
theorem sizeS_len:∀ ws:List Wk1,ws.length ≤ sizeS ws
  | []=>Nat.zero_le _
  | w :: r=>by
    have:=sizeS_len r
    have:=w.t.size_pos
    unfold sizeS at *
    rw [List.map_cons,List.sum_cons,List.length_cons]
    (first | lia | omega)
theorem pop_last {α:Type} (xs:List α) (x:α):(xs ++ [x])[xs.length]? = some x ∧ (xs ++ [x]).eraseIdx xs.length = xs:=by
  constructor
  · simp
  · rw [List.eraseIdx_append_of_length_le (Nat.le_refl _),Nat.sub_self];simp
theorem walk_step (n many k:Nat) (hm:many ≤ 7) (x1 x3:Sl) (ws:List Wk1) (w:Wk1) (c:Nat) (x6 x7 x8 x9:Sl) (hw:w.Ok many k) (hwl:ws.length ≤ 20000) (hc:c < 10000) :
    ∃ ws' x6' x7' x8' x9',sizeS ws' + 1 = sizeS (ws ++ [w]) ∧ (∀ x ∈ ws',x ∈ ws ∨ x.Ok many k) ∧
      exS T (callF T dfs (n + 3)) b_walked_3 [.v (.int (many:Int)),x1,.v (.int (k:Int)),x3,.o (.lst ((ws ++ [w]).map Wk1.enc)),.v (.int (c:Int)),x6,x7,x8,x9] =
        .ok (.nx [.v (.int (many:Int)),x1,.v (.int (k:Int)),x3,.o (.lst (ws'.map Wk1.enc)),.v (.int ((c:Int) + 1)),x6',x7',x8',x9']):=by
  have hb:16000000 < big:=by decide
  obtain ⟨t,cs,bs,qs,dep⟩:=w
  obtain ⟨cls,lt,ok,sep,sh,dp,bl,ls,ql⟩:=hw
  dsimp only at *
  have m0:((ws ++ [(⟨t,cs,bs,qs,dep⟩ : Wk1)]).map Wk1.enc) = ws.map Wk1.enc ++ [.tup [t.enc,.lst (bs.map lN),.lst (qs.map pairD),.int (dep:Int)]]:=by rw [List.map_append];rfl
  obtain ⟨p1,p2⟩:=pop_last (ws.map Wk1.enc) (D.tup [t.enc,.lst (bs.map lN),.lst (qs.map pairD),.int (dep:Int)])
  have p0:∀ m,popAt (m + 1) .omit .non = .ok m:=fun m=>rfl
  have hd1:¬ (30:Int) < (dep:Int):=by (first | lia | omega)
  have hc1:¬ (10000:Int) < (c:Int) + 1:=by (first | lia | omega)
  have l1:(ws.map Wk1.enc).length < big:=by rw [List.length_map];(first | lia | omega)
  have l2:(ws.map Wk1.enc).length + 1 < big:=by rw [List.length_map];(first | lia | omega)
  have w1:∀ a,(D.tup a).isTy .tuple = true:=fun a=>rfl
  have o1:∀ x:D,Res.of (some x) = .ok x:=fun x=>rfl
  rw [m0]
  cases t with
  | crowd ps =>
    refine ⟨ws,.v (Tre.crowd ps).enc,.v (.lst (bs.map lN)),.v (.lst (qs.map pairD)),.v (.int (dep:Int)),?_,fun x hx=>.inl hx,?_⟩
    · rw [sizeS_app,sizeS_one];rfl
    · have e1:=law_end_shows (n + 1) many k (by (first | lia | omega)) cs bs cls (by (first | lia | omega)) qs ps ok (by
        rw [← shows_same k (.crowd ps) cls lt ok];exact sh)
      have n1:D.cmp .NotEq (.str "crowd") (.str "crowd") = .ok (.bl false):=cmp_same_ne rfl
      rw [Tre.enc] at *
      generalize ws.map Wk1.enc = WS at *
      generalize bs.map lN = B at *
      generalize qs.map pairD = QD at *
      generalize ps.map natI = PD at *
      simp [b_walked_3,o1,p0,p1,p2,w1,hd1,hc1,e1,n1]
  | pair i j a b =>
    obtain ⟨hi,hj,oa,ob⟩:=ok
    obtain ⟨hij,sa,sb⟩:=sep
    rw [Tre.deep] at dp bl ql
    have sh:(showsV (putV cs i j) qs k a && showsV cs (qs ++ [(i,j)]) k b) = true:=sh
    rw [Bool.and_eq_true] at sh
    have tl:=tog_len bs i j
    have tls:=lenS_tog (cls.blk_mem hi) (cls.blk_mem hj)
    refine ⟨ws ++ [⟨a,putV cs i j,togV bs i j,qs,dep + 1⟩] ++ [⟨b,cs,bs,qs ++ [(i,j)],dep + 1⟩],.v (Tre.pair i j a b).enc,.v (.lst (bs.map lN)),.v (.lst (qs.map pairD)),.v (.int (dep:Int)),?_,?_,?_⟩
    · rw [sizeS_app,sizeS_app,sizeS_app,sizeS_one,sizeS_one,sizeS_one]
      show sizeS ws + a.size + b.size + 1 = sizeS ws + (1 + a.size + b.size)
      (first | lia | omega)
    · intro x hx
      rcases List.mem_append.mp hx with hx | hx
      · rcases List.mem_append.mp hx with hx | hx
        · exact .inl hx
        · rw [List.mem_singleton.mp hx]
          exact .inr ⟨cls.put hi hj,lt,oa,sa,sh.1,by dsimp only;(first | lia | omega),by dsimp only;(first | lia | omega),by dsimp only;(first | lia | omega),by dsimp only;(first | lia | omega)⟩
      · rw [List.mem_singleton.mp hx]
        refine .inr ⟨cls,fun q hq=>?_,ob,sb,sh.2,by dsimp only;(first | lia | omega),by dsimp only;(first | lia | omega),ls,by dsimp only;rw [List.length_append,List.length_singleton];(first | lia | omega)⟩
        rcases List.mem_append.mp hq with hq | hq
        · exact lt q hq
        · rw [List.mem_singleton.mp hq];exact ⟨hi,hj⟩
    · have e1:=law_together (n + 2) many cs bs cls (by (first | lia | omega)) i j hi hj (fun b' hb'=>by have:=lenS_mem hb';(first | lia | omega))
      have e4:=add_pair (qs:=qs) (by (first | lia | omega)) i j
      have c1:D.cmp .NotEq (.int (i:Int)) (.int (j:Int)) = .ok (.bl true):=by
        rw [show D.cmp .NotEq (.int (i:Int)) (.int (j:Int)) = .ok (.bl (!((i:Int) == (j:Int)))) from rfl,show ((i:Int) == (j:Int)) = false from beq_eq_false_iff_ne.mpr (by (first | lia | omega))];rfl
      have b1:(0:Int) ≤ (i:Int):=by (first | lia | omega)
      have b2:(0:Int) ≤ (j:Int):=by (first | lia | omega)
      have b3:(i:Int) < (many:Int):=by (first | lia | omega)
      have b4:(j:Int) < (many:Int):=by (first | lia | omega)
      have m1:((ws ++ [(⟨a,putV cs i j,togV bs i j,qs,dep + 1⟩ : Wk1)] ++ [(⟨b,cs,bs,qs ++ [(i,j)],dep + 1⟩ : Wk1)]).map Wk1.enc) = ws.map Wk1.enc ++ [.tup [a.enc,.lst ((togV bs i j).map lN),.lst (qs.map pairD),.int ((dep:Int) + 1)]] ++ [.tup [b.enc,.lst (bs.map lN),.lst ((qs ++ [(i,j)]).map pairD),.int ((dep:Int) + 1)]]:=by
        rw [List.map_append,List.map_append];rfl
      rw [m1]
      rw [Tre.enc] at *
      generalize ws.map Wk1.enc = WS at *
      generalize (togV bs i j).map lN = TB at *
      generalize bs.map lN = B at *
      generalize (qs ++ [(i,j)]).map pairD = Q2 at *
      generalize qs.map pairD = QD at *
      generalize a.enc = A at *
      generalize b.enc = A2 at *
      simp [b_walked_3,o1,p0,p1,p2,w1,hd1,hc1,pair_eq,c1,b1,b2,b3,b4,e1,e4,l1,l2]
theorem law_walked (n many k:Nat) (hm:many ≤ 7) (qs:List (Nat × Nat)) (hq:∀ q ∈ qs,q.1 < many ∧ q.2 < many) (hql:qs.length ≤ 300) (t:Tre) (ht:t.ok many) (hs:t.sep) (sh:showsV (List.range many) qs k t = true) (hd:t.deep ≤ 22) (hz:t.size ≤ 9000) :
    callF T dfs (n + 4) 20 [.int (many:Int),.lst (qs.map pairD),.int (k:Int),t.enc] = .ok (.bl true):=by
  have hb:=ten_big
  have rg:=rng_nat (n:=many) (by (first | lia | omega))
  have c1:∀ env,compL (compF T (callF T dfs (n + 3)) 1 [] (.one 0) e_walked_1 (.con (.bl true)) env) ((List.range many).map natI) = .ok (((List.range many).map fun x=>[x]).map lN):=by
    intro env
    rw [compL_enc natI (fun x=>some (lN [x])) (by
      intro x _
      simp [compF,Tr.compEnv,e_walked_1,natI,lN]),List.filterMap_eq_map',List.map_map]
    rfl
  have l1:many ≤ big:=by (first | lia | omega)
  obtain ⟨e',w1,w2⟩:=whileL_inv (c:=testF T (callF T dfs (n + 3)) c_walked_2) (f:=exS T (callF T dfs (n + 3)) b_walked_3)
    (fun j e=>∃ (ws:List Wk1) (c:Nat) (x6 x7 x8 x9:Sl),sizeS ws = j ∧ c + j ≤ 9000 ∧ (∀ w ∈ ws,w.Ok many k) ∧ e = [.v (.int (many:Int)),.v (.lst (qs.map pairD)),.v (.int (k:Int)),.v t.enc,.o (.lst (ws.map Wk1.enc)),.v (.int (c:Int)),x6,x7,x8,x9])
    (by
      rintro j e ⟨ws,c,x6,x7,x8,x9,h1,h2,h3,rfl⟩
      have pl:=cmp_lst_nil_ne (walks_pl h3)
      rcases List.eq_nil_or_concat ws with rfl | ⟨ws0,w,rfl⟩
      · cases h1
      · rw [List.concat_eq_append] at *
        have ne:((ws0 ++ [w]).map Wk1.enc).isEmpty = false:=by simp
        rw [ne] at pl
        have hlen:=sizeS_len (ws0 ++ [w])
        rw [List.length_append,List.length_singleton] at hlen
        obtain ⟨ws',y6,y7,y8,y9,s1,s2,s3⟩:=walk_step n many k hm (.v (.lst (qs.map pairD))) (.v t.enc) ws0 w c x6 x7 x8 x9 (h3 w (by simp)) (by (first | lia | omega)) (by (first | lia | omega))
        refine ⟨?_,_,s3,ws',c + 1,y6,y7,y8,y9,by (first | lia | omega),by (first | lia | omega),fun x hx=>?_,by rw [show ((c + 1:Nat):Int) = (c:Int) + 1 by (first | lia | omega)]⟩
        · generalize (ws0 ++ [w]).map Wk1.enc = WS at *
          simp [testF,c_walked_2,pl]
        · rcases s2 x hx with z | z
          · exact h3 x (by simp [z])
          · exact z)
    (by
      rintro e ⟨ws,c,x6,x7,x8,x9,h1,h2,h3,rfl⟩
      have:=sizeS_len ws
      have e0:ws = []:=List.length_eq_zero_iff.mp (by (first | lia | omega))
      subst e0
      have n0:D.cmp .NotEq (.lst []) (.lst []) = .ok (.bl false):=rfl
      simp [testF,c_walked_2,n0]) t.size 20000 [.v (.int (many:Int)),.v (.lst (qs.map pairD)),.v (.int (k:Int)),.v t.enc,.o (.lst [.tup [t.enc,.lst (((List.range many).map fun x=>[x]).map lN),.lst (qs.map pairD),.int 0]]),.v (.int 0),.no,.no,.no,.no]
    ⟨[⟨t,List.range many,(List.range many).map fun x=>[x],qs,0⟩],0,.no,.no,.no,.no,sizeS_one _,by (first | lia | omega),fun w hw=>by
      rw [List.mem_singleton.mp hw]
      exact ⟨Cls.start many (by (first | lia | omega)),hq,ht,hs,sh,by dsimp only;(first | lia | omega),by dsimp only;rw [List.length_map,List.length_range];(first | lia | omega),by dsimp only;rw [lenS_start];(first | lia | omega),by dsimp only;(first | lia | omega)⟩,rfl⟩ (by (first | lia | omega))
  obtain ⟨ws,c,x6,x7,x8,x9,_,_,_,rfl⟩:=w2
  refine callF_rt (k:=false) rfl rfl rfl ?_
  generalize t.enc = tE at *
  generalize ((List.range many).map fun x=>[x]).map lN = B at *
  simp [b_law_walked,rg,c1,l1,w1]
theorem right_loop (n:Nat) (x0 x1 x2 x5 x6:Sl):∀ (g:List Nat) (m:Nat) (x4:Sl),Rise m g →
    ∃ x4',forL (bodyF T (callF T dfs n) (.one 4) b_is_right_1) (g.map natI) [x0,x1,x2,.v (.int (m:Int)),x4,x5,x6] = .ok (.nx [x0,x1,x2,.v (.int ((g.foldl (fun m x=>max m (x + 1)) m:Nat):Int)),x4',x5,x6])
  | [],m,x4,_=>⟨x4,rfl⟩
  | x :: r,m,x4,h=>by
    obtain ⟨x4',e2⟩:=right_loop n x0 x1 x2 x5 x6 r (max m (x + 1)) (.v (.int (x:Int))) h.2
    refine ⟨x4',?_⟩
    have b1:(0:Int) ≤ (x:Int):=by (first | lia | omega)
    have b2:(x:Int) ≤ (m:Int):=by have:=h.1;(first | lia | omega)
    have mx:Bt.run .max [.int (m:Int),.int ((x:Int) + 1)] = .ok (.int ((max m (x + 1):Nat):Int)):=by
      show Res.ok (D.int (if (x:Int) + 1 > (m:Int) then (x:Int) + 1 else (m:Int))) = _
      congr 2
      split <;> (first | lia | omega)
    have w3:(D.int (x:Int)).isTy .bool = false:=rfl
    have e:bodyF T (callF T dfs n) (.one 4) b_is_right_1 (natI x) [x0,x1,x2,.v (.int (m:Int)),x4,x5,x6] = .ok (.nx [x0,x1,x2,.v (.int ((max m (x + 1):Nat):Int)),.v (.int (x:Int)),x5,x6]):=by
      simp [bodyF,b_is_right_1,natI,w3,b1,b2,mx]
    rw [List.map_cons,forL_nx e,e2];rfl
theorem right_pairs (n:Nat) (x0 x2 x3 x4:Sl) (g:List Nat):∀ (ps:List (Nat × Nat)) (x5 x6:Sl),(∀ p ∈ ps,p.1 < g.length ∧ p.2 < g.length ∧ g.getD p.1 0 ≠ g.getD p.2 0) →
    ∃ x5' x6',forL (bodyF T (callF T dfs n) (.many [5,6]) b_is_right_2) (ps.map pairD) [x0,.v (.lst (g.map natI)),x2,x3,x4,x5,x6] = .ok (.nx [x0,.v (.lst (g.map natI)),x2,x3,x4,x5',x6'])
  | [],x5,x6,_=>⟨x5,x6,rfl⟩
  | p :: r,x5,x6,h=>by
    obtain ⟨h1,h2,h3⟩:=h p List.mem_cons_self
    obtain ⟨x5',x6',e2⟩:=right_pairs n x0 x2 x3 x4 g r (.v (.int p.1)) (.v (.int p.2)) fun q hq=>h q (List.mem_cons_of_mem _ hq)
    refine ⟨x5',x6',?_⟩
    have e1:=g_at h1
    have e3:=g_at h2
    generalize g.getD p.1 0 = a at *
    generalize g.getD p.2 0 = b at *
    have ne:¬ (a:Int) = (b:Int):=by (first | lia | omega)
    have e:bodyF T (callF T dfs n) (.many [5,6]) b_is_right_2 (pairD p) [x0,.v (.lst (g.map natI)),x2,x3,x4,x5,x6] = .ok (.nx [x0,.v (.lst (g.map natI)),x2,x3,x4,.v (.int p.1),.v (.int p.2)]):=by
      unfold pairD
      simp [bodyF,b_is_right_2,e1,e3,ne]
    rw [List.map_cons,forL_nx e,e2]
theorem law_is_right (n many k:Nat) (ps:List (Nat × Nat)) (hp:∀ p ∈ ps,p.1 < p.2 ∧ p.2 < many) (g:List Nat) (hl:g.length = many) (ho:okG ps g) (hr:Rise 0 g) (hu:usedV g = k):callF T dfs (n + 1) 21 [.lst (ps.map pairD),.lst (g.map natI),.int (k:Int)] = .ok (.bl true):=by
  obtain ⟨x4,e1⟩:=right_loop n (.v (.lst (ps.map pairD))) (.v (.lst (g.map natI))) (.v (.int (k:Int))) .no .no g 0 .no hr
  rw [show g.foldl (fun m x=>max m (x + 1)) 0 = k from hu] at e1
  obtain ⟨x5,x6,e2⟩:=right_pairs n (.v (.lst (ps.map pairD))) (.v (.int (k:Int))) (.v (.int (k:Int))) x4 g ps .no .no fun p hm=>⟨by have:=hp p hm;(first | lia | omega),by have:=hp p hm;(first | lia | omega),ho p hm (by have:=hp p hm;(first | lia | omega))⟩
  rw [show ((0:Nat):Int) = 0 from rfl] at e1
  refine callF_rt (k:=false) rfl rfl rfl ?_
  simp [b_law_is_right,e1,e2]
theorem tree_of (n many k:Nat) (hm:many ≤ 7) (ps:List (Nat × Nat)) (hp:∀ p ∈ ps,p.1 < p.2 ∧ p.2 < many) (hpl:ps.length ≤ 64) (hk:Chi many ps k) (g:D) (hk20:k ≤ 20) (hf:callF T dfs (n + 33) 2 [.int (many:Int),.lst (ps.map pairD)] = .ok (.tup [.int (k:Int),g])) :
    ∃ t:Tre,t.ok many ∧ t.sep ∧ showsV (List.range many) ps k t = true ∧ t.deep ≤ 21 ∧ t.size ≤ 7687 ∧ callF T dfs (n + 34) 12 [.int (many:Int),.lst (ps.map pairD)] = .ok t.enc:=by
  have C:=Cst.start hm hp
  have H:=Hard.start hk hp
  have m22:=C.na_lt
  have nl:=C.nle
  obtain ⟨t,a1,a2,a3,a4,a5,a6⟩:=tree_from many k hk20 (naP (adjC (List.range many) ps) (numsV (List.range many))) (n + 21 - naP (adjC (List.range many) ps) (numsV (List.range many))) (List.range many) ps C H rfl (by (first | lia | omega))
  rw [show n + 21 - naP (adjC (List.range many) ps) (numsV (List.range many)) + naP (adjC (List.range many) ps) (numsV (List.range many)) + 12 = n + 33 by (first | lia | omega)] at a6
  refine ⟨t,a1,a2,a3,by (first | lia | omega),Nat.le_trans a5 (tb_top _ (by (first | lia | omega)) _ m22),?_⟩
  have e1:=lrng_nat (many:=many) (by (first | lia | omega))
  refine callF_rt (k:=false) rfl rfl rfl ?_
  generalize t.enc = tE at *
  generalize List.range many = R at *
  simp [b_tree_of,e1,hf,a6]
theorem notin_nat2 {a b c:Int} (h:a = b ∨ a = c):D.cmp .NotIn (.int a) (.tup [.int b,.int c]) = .ok (.bl false):=by
  show (do let k ← when (D.pls 30 [D.int b,D.int c] && D.pl 29 (.int a)) (.ok (D.mem (.int a) [.int b,.int c]));Res.ok (D.bl (!k))) = _
  rw [when_of (by simp [D.pls,D.pl]),Res.ok_bind]
  have:D.mem (.int a) [.int b,.int c] = true:=by
    show ((b == a) || ((c == a) || false)) = true
    rcases h with h | h
    · rw [h];simp
    · rw [h];simp
  rw [this];rfl
theorem law_true (ns:List Int) (hn:ns.length ≤ 63):callF T dfs 40 22 [.lst (ns.map D.int)] = .ok (.bl true):=by
  have hb:=ten_big
  have e1:=cell_at 38 ns 0
  rw [show ((0:Nat):Int) = 0 from rfl] at e1
  have e2:=cell_at 38 ns 1
  rw [show ((1:Nat):Int) = 1 from rfl] at e2
  obtain ⟨many,hm⟩ : ∃ many:Nat,cellV ns 0 % 8 = many:=⟨(cellV ns 0 % 8).toNat,by (first | lia | omega)⟩
  have hm7:many ≤ 7:=by (first | lia | omega)
  have hcut:cut (ns.map D.int) (some 2) (some 30) = (cut ns (some 2) (some 30)).map D.int:=by
    unfold cut
    rw [List.map_take,List.map_drop,List.length_map]
  have hcl:(cut ns (some 2) (some 30)).length ≤ 63:=by
    unfold cut
    rw [List.length_take,List.length_drop];(first | lia | omega)
  obtain ⟨ps,hp,hpl,e4⟩:=law_clashes 37 (cut ns (some 2) (some 30)) hcl many (by (first | lia | omega)) (cellV ns 1 % 13)
  generalize cut ns (some 2) (some 30) = cells at *
  have hp':∀ q ∈ ps,q.1 < many ∧ q.2 < many:=fun q hq=>⟨by have:=hp q hq;(first | lia | omega),(hp q hq).2⟩
  obtain ⟨k,g,hk,hk1,hg,f1⟩:=fewest_of (36 - many) ps many (by (first | lia | omega)) hp
  rw [show 36 - many + many + 3 = 39 by (first | lia | omega)] at f1
  have f2:callF T dfs 38 2 [.int (many:Int),.lst (ps.map pairD)] = .ok (.tup [.int (k:Int),.lst (g.map natI)]):=by
    obtain ⟨k2,g2,hk2,_,hg2,f⟩:=fewest_of (35 - many) ps many (by (first | lia | omega)) hp
    rw [show 35 - many + many + 3 = 38 by (first | lia | omega)] at f
    have q:k2 = k:=chi_eq hk2 hk fun _=>Iff.rfl
    subst q
    rw [hg] at hg2
    cases hg2
    exact f
  obtain ⟨u1,u2,u3⟩:=gw_uses hp hk hg
  have ur:=gw_rise hg trivial
  have e5:=law_is_right 38 many k ps hp g u1 u2 ur u3
  obtain ⟨t,t1,t2,t3,t4,t5,e6⟩:=tree_of 5 many k hm7 ps hp hpl hk _ (by (first | lia | omega)) f2
  have e7:=law_walked 35 many k hm7 ps hp' (by (first | lia | omega)) t t1 t2 t3 (by (first | lia | omega)) (by (first | lia | omega))
  have e8:=shows 35 many k (by (first | lia | omega)) ps (by (first | lia | omega)) hp' t t1 (by (first | lia | omega)) (by (first | lia | omega))
  have e9:=shows 35 many (k + 1) (by (first | lia | omega)) ps (by (first | lia | omega)) hp' t t1 (by (first | lia | omega)) (by (first | lia | omega))
  rw [t3] at e8
  rw [shows_more hm7 hp hk t1,show ((k + 1:Nat):Int) = (k:Int) + 1 by (first | lia | omega)] at e9
  have e10:=crowd_of (37 - many) ps many (by (first | lia | omega))
  rw [show 37 - many + many + 2 = 39 by (first | lia | omega)] at e10
  have cr:=crowd_le hk
  generalize gr ps many [] (List.range many) = cw at *
  have cr':¬ (k:Int) < (cw.length:Int):=by (first | lia | omega)
  have pP:D.pls 30 (ps.map pairD) = true:=pls_map pairD 29 (pairD_pl 28) ps
  have cE:D.cmp .Eq (.lst (ps.map pairD)) (.lst (ps.map pairD)) = .ok (.bl true):=cmp_same (by rw [pl_lst];exact pP)
  have cN:=cmp_lst_nil_ne pP
  have i1:D.cmp .IsNot (.bl true) (.bl true) = .ok (.bl false):=rfl
  have i2:D.cmp .IsNot (.bl false) (.bl false) = .ok (.bl false):=rfl
  have w2:∀ a,(D.lst a).isTy .list = true:=fun a=>rfl
  have lg:(g.length:Int) = (many:Int):=by (first | lia | omega)
  have hbig:ps.length ≤ big:=by (first | lia | omega)
  have n1:D.cmp .NotEq (.int (many:Int)) (.int (many:Int)) = .ok (.bl false):=cmp_same_ne rfl
  refine callF_rt (k:=false) rfl rfl rfl ?_
  by_cases hps:ps = []
  · subst hps
    have cN':D.cmp .NotEq (.lst []) (.lst []) = .ok (.bl false):=rfl
    have cE':D.cmp .Eq (.lst []) (.lst []) = .ok (.bl true):=rfl
    rw [List.map_nil] at *
    generalize t.enc = tE at *
    simp [b_law,e1,e2,hm,hcut,e4,f1,w2,lg,n1,e5,e6,e7,e8,e9,e10,cr',i1,i2,cN',cE']
  · have cN':D.cmp .NotEq (.lst (ps.map pairD)) (.lst []) = .ok (.bl true):=by
      rw [cN]
      cases ps with
      | nil=>exact absurd rfl hps
      | cons _ _=>rfl
    have hL:0 < (ps.length:Int):=by have:=List.length_pos_iff.mpr hps;(first | lia | omega)
    have m1:D.bin .Mod (.int (cellV ns 1 / 13)) (.int (ps.length:Int)) = .ok (.int (cellV ns 1 / 13 % (ps.length:Int))):=bin_mod hL
    have r1:=Int.emod_lt_of_pos (cellV ns 1 / 13) hL
    have r2:=Int.emod_nonneg (cellV ns 1 / 13) (Int.ne_of_gt hL)
    obtain ⟨a,ha⟩ : ∃ a:Nat,cellV ns 1 / 13 % (ps.length:Int) = a:=⟨(cellV ns 1 / 13 % (ps.length:Int)).toNat,by (first | lia | omega)⟩
    rw [ha] at m1 r1
    have hal:a < ps.length:=by (first | lia | omega)
    have c1:cut (ps.map pairD) none (some (a:Int)) = (ps.take a).map pairD:=by
      unfold cut sIx
      dsimp only
      rw [if_neg (by (first | lia | omega)),Int.toNat_natCast,List.length_map,Nat.min_eq_left (by (first | lia | omega)),List.drop_zero,Nat.sub_zero,List.map_take]
    have c2:cut (ps.map pairD) (some ((a:Int) + 1)) none = (ps.drop (a + 1)).map pairD:=by
      rw [show ((a:Int) + 1) = ((a + 1:Nat):Int) by (first | lia | omega),cut_from (by rw [List.length_map];(first | lia | omega)),List.map_drop]
    have ad:D.bin .Add (.lst ((ps.take a).map pairD)) (.lst ((ps.drop (a + 1)).map pairD)) = .ok (.lst ((ps.take a ++ ps.drop (a + 1)).map pairD)):=by
      rw [add_lsts (by rw [List.length_map,List.length_map,List.length_take,List.length_drop];(first | lia | omega)),List.map_append]
    have hsp:ps = ps.take a ++ ps[a] :: ps.drop (a + 1):=by rw [← List.drop_eq_getElem_cons hal,List.take_append_drop]
    obtain ⟨k2,g2,hk2,_,_,f3⟩:=fewest_of (36 - many) (ps.take a ++ ps.drop (a + 1)) many (by (first | lia | omega)) (fun p h=>by
      rcases List.mem_append.mp h with h | h
      · exact hp p (List.mem_of_mem_take h)
      · exact hp p (List.mem_of_mem_drop h))
    rw [show 36 - many + many + 3 = 39 by (first | lia | omega)] at f3
    have q:=chi_less (p:=ps[a]) hp (fun q hq=>by
      rw [hsp] at hq
      rcases List.mem_append.mp hq with h | h
      · exact .inl (List.mem_append_left _ h)
      · rcases List.mem_cons.mp h with h | h
        · exact .inr h
        · exact .inl (List.mem_append_right _ h)) (fun q hq=>by
      rcases List.mem_append.mp hq with h | h
      · exact List.mem_of_mem_take h
      · exact List.mem_of_mem_drop h) (List.getElem_mem hal) hk hk2
    have n2:D.cmp .NotIn (.int (k2:Int)) (.tup [.int (k:Int),.int ((k:Int) - 1)]) = .ok (.bl false):=notin_nat2 (by (first | lia | omega))
    generalize (ps.take a ++ ps.drop (a + 1)).map pairD = P2 at *
    generalize (ps.take a).map pairD = P3 at *
    generalize (ps.drop (a + 1)).map pairD = P4 at *
    have lP:Bt.run .len [.lst (ps.map pairD)] = .ok (.int (ps.length:Int)):=by rw [run_len_l,List.length_map]
    generalize t.enc = tE at *
    clear hsp q
    generalize hPD:ps.map pairD = PD at *
    have y1:∀ r s,D.ix (.tup [r,s]) (.int 0) = .ok r:=fun r s=>rfl
    simp [b_law,e1,e2,hm,hcut,e4,f1,w2,lg,n1,e5,e6,e7,e8,e9,e10,cr',i1,i2,cN',cE,lP,m1,c1,c2,ad,f3,y1,n2]
end K33
namespace K33
open PySem L2 Tr
noncomputable def top (i:Nat):Stmt:=PySem.Challenge.pw_troupe_k33_whole_fewest_with_trees.main.body.getD i (.Pass ⟨0,0,0,0⟩)
noncomputable abbrev d_may_join:DefT:=⟨"may_join", top 1,["clashes", "groups", "group", "part"],["clashes", "groups", "group"],b_may_join,none⟩
noncomputable abbrev d_groups_within:DefT:=⟨"groups_within", top 2,["many", "clashes", "k", "groups", "used", "group", "found"],["many", "clashes", "k", "groups"],b_groups_within,none⟩
noncomputable abbrev d_fewest_of:DefT:=⟨"fewest_of", top 3,["many", "clashes", "k", "groups"],["many", "clashes"],b_fewest_of,none⟩
noncomputable abbrev d_greatest_with:DefT:=⟨"greatest_with", top 4,["clashes", "crowd", "parts", "greatest", "at", "part", "behind", "found"],["clashes", "crowd", "parts"],b_greatest_with,none⟩
noncomputable abbrev d_crowd_of:DefT:=⟨"crowd_of", top 5,["many", "clashes"],["many", "clashes"],b_crowd_of,none⟩
noncomputable abbrev d_put_together:DefT:=⟨"put_together", top 7,["classes", "i", "j"],["classes", "i", "j"],b_put_together,none⟩
noncomputable abbrev d_class_clashes:DefT:=⟨"class_clashes", top 8,["classes", "clashes", "pairs"],["classes", "clashes"],b_class_clashes,none⟩
noncomputable abbrev d_crowd_shows:DefT:=⟨"crowd_shows", top 9,["classes", "clashes", "k", "parts", "numbers", "pairs", "at", "number"],["classes", "clashes", "k", "parts"],b_crowd_shows,none⟩
noncomputable abbrev d_shows_from:DefT:=⟨"shows_from", top 10,["classes", "clashes", "k", "tree", "i", "j"],["classes", "clashes", "k", "tree"],b_shows_from,none⟩
noncomputable abbrev d_shows:DefT:=⟨"shows", top 11,["many", "clashes", "k", "tree"],["many", "clashes", "k", "tree"],b_shows,none⟩
noncomputable abbrev d_places_apart:DefT:=⟨"places_apart", top 12,["many", "pairs", "i", "j"],["many", "pairs"],b_places_apart,none⟩
noncomputable abbrev d_tree_from:DefT:=⟨"tree_from", top 13,["classes", "clashes", "k", "numbers", "pairs", "crowd", "places", "i", "j", "one", "apart"],["classes", "clashes", "k"],b_tree_from,none⟩
noncomputable abbrev d_tree_of:DefT:=⟨"tree_of", top 14,["many", "clashes"],["many", "clashes"],b_tree_of,none⟩
noncomputable abbrev d_law_cell_at:DefT:=⟨"_law_cell_at", top 16,["_law_script", "_law_k"],["_law_script", "_law_k"],b_law_cell_at,none⟩
noncomputable abbrev d_law_mixed:DefT:=⟨"_law_mixed", top 17,["_law_cell", "_law_k"],["_law_cell", "_law_k"],b_law_mixed,none⟩
noncomputable abbrev d_law_pairs:DefT:=⟨"_law_pairs", top 18,["_law_many", "_law_found", "_law_i"],["_law_many"],b_law_pairs,none⟩
noncomputable abbrev d_law_clashes:DefT:=⟨"_law_clashes", top 19,["_law_cells", "_law_many", "_law_share", "_law_pairs_here", "_law_found", "_law_k", "_law_m"],["_law_cells", "_law_many", "_law_share"],b_law_clashes,none⟩
noncomputable abbrev d_law_together:DefT:=⟨"_law_together", top 20,["_law_classes", "_law_i", "_law_j", "_law_one", "_law_other"],["_law_classes", "_law_i", "_law_j"],b_law_together,none⟩
noncomputable abbrev d_law_apart:DefT:=⟨"_law_apart", top 21,["_law_clashes_here", "_law_one", "_law_other", "_law_i", "_law_j"],["_law_clashes_here", "_law_one", "_law_other"],b_law_apart,none⟩
noncomputable abbrev d_law_end_shows:DefT:=⟨"_law_end_shows", top 22,["_law_classes", "_law_clashes_here", "_law_k", "_law_parts", "_law_some", "_law_part", "_law_j", "_law_i"],["_law_classes", "_law_clashes_here", "_law_k", "_law_parts"],b_law_end_shows,none⟩
noncomputable abbrev d_law_walked:DefT:=⟨"_law_walked", top 23,["_law_many", "_law_clashes_here", "_law_k", "_law_tree", "_law_some", "_law_count", "_law_one", "_law_classes", "_law_pairs_here", "_law_deep"],["_law_many", "_law_clashes_here", "_law_k", "_law_tree"],b_law_walked,none⟩
noncomputable abbrev d_law_is_right:DefT:=⟨"_law_is_right", top 24,["_law_clashes_here", "_law_groups", "_law_k", "_law_fresh", "_law_group", "_law_i", "_law_j"],["_law_clashes_here", "_law_groups", "_law_k"],b_law_is_right,none⟩
noncomputable abbrev d_law:DefT:=⟨"law", top 25,["_law_script", "_law_many", "_law_clashes_here", "_law_kept", "_law_k", "_law_groups", "_law_tree", "_law_at"],["_law_script"],b_law,none⟩
noncomputable def defs:List DefT:=[d_may_join,d_groups_within,d_fewest_of,d_greatest_with,d_crowd_of,d_put_together,d_class_clashes,d_crowd_shows,d_shows_from,d_shows,d_places_apart,d_tree_from,d_tree_of,d_law_cell_at,d_law_mixed,d_law_pairs,d_law_clashes,d_law_together,d_law_apart,d_law_end_shows,d_law_walked,d_law_is_right,d_law]
noncomputable def Tx:Txt:=⟨[],[("may_join":Str),("groups_within":Str),("fewest_of":Str),("greatest_with":Str),("crowd_of":Str),("put_together":Str),("class_clashes":Str),("crowd_shows":Str),("shows_from":Str),("shows":Str),("places_apart":Str),("tree_from":Str),("tree_of":Str),("_law_cell_at":Str),("_law_mixed":Str),("_law_pairs":Str),("_law_clashes":Str),("_law_together":Str),("_law_apart":Str),("_law_end_shows":Str),("_law_walked":Str),("_law_is_right":Str),("law":Str)],[],[],[]⟩
theorem okB:defs.all (·.okB Tx) = true:=by decide +kernel
end K33
open PySem PySem.W PyProof.Rows
set_option maxRecDepth 100000 in
set_option maxHeartbeats 0 in
theorem PySem.Challenge.cw_troupe_k33_whole_fewest_with_trees_holds : PySem.Challenge.rw_troupe_k33_whole_fewest_with_trees.Holds := by
  refine K33.hd ?_
  k_fill
  refine Tr.walkT (l:=PySem.Challenge.rw_troupe_k33_whole_fewest_with_trees) (T:=K33.T) (Tx:=K33.Tx) (defs:=K33.defs) (i:=22) (n:=40) rfl rfl rfl rfl rfl ⟨rfl,by decide,by decide⟩ K33.law_true (fun w h Y=>PySem.W.kIn_of Y) ?X (fun _ _ _ _ _ _ _=>rfl)
  case X =>
    intro w mg h KX G
    refine' Tr.text_plain ⟨rfl,K33.okB,(Tr.all_cons (Tr.fun_in KX G ?a0 ?l0 ?c0 ?k0 ?b0) (Tr.all_cons (Tr.fun_in KX G ?a1 ?l1 ?c1 ?k1 ?b1) (Tr.all_cons (Tr.fun_in KX G ?a2 ?l2 ?c2 ?k2 ?b2) (Tr.all_cons (Tr.fun_in KX G ?a3 ?l3 ?c3 ?k3 ?b3) (Tr.all_cons (Tr.fun_in KX G ?a4 ?l4 ?c4 ?k4 ?b4) (Tr.all_cons (Tr.fun_in KX G ?a5 ?l5 ?c5 ?k5 ?b5) (Tr.all_cons (Tr.fun_in KX G ?a6 ?l6 ?c6 ?k6 ?b6) (Tr.all_cons (Tr.fun_in KX G ?a7 ?l7 ?c7 ?k7 ?b7) (Tr.all_cons (Tr.fun_in KX G ?a8 ?l8 ?c8 ?k8 ?b8) (Tr.all_cons (Tr.fun_in KX G ?a9 ?l9 ?c9 ?k9 ?b9) (Tr.all_cons (Tr.fun_in KX G ?a10 ?l10 ?c10 ?k10 ?b10) (Tr.all_cons (Tr.fun_in KX G ?a11 ?l11 ?c11 ?k11 ?b11) (Tr.all_cons (Tr.fun_in KX G ?a12 ?l12 ?c12 ?k12 ?b12) (Tr.all_cons (Tr.fun_in KX G ?a13 ?l13 ?c13 ?k13 ?b13) (Tr.all_cons (Tr.fun_in KX G ?a14 ?l14 ?c14 ?k14 ?b14) (Tr.all_cons (Tr.fun_in KX G ?a15 ?l15 ?c15 ?k15 ?b15) (Tr.all_cons (Tr.fun_in KX G ?a16 ?l16 ?c16 ?k16 ?b16) (Tr.all_cons (Tr.fun_in KX G ?a17 ?l17 ?c17 ?k17 ?b17) (Tr.all_cons (Tr.fun_in KX G ?a18 ?l18 ?c18 ?k18 ?b18) (Tr.all_cons (Tr.fun_in KX G ?a19 ?l19 ?c19 ?k19 ?b19) (Tr.all_cons (Tr.fun_in KX G ?a20 ?l20 ?c20 ?k20 ?b20) (Tr.all_cons (Tr.fun_in KX G ?a21 ?l21 ?c21 ?k21 ?b21) (Tr.all_cons (Tr.fun_in KX G ?a22 ?l22 ?c22 ?k22 ?b22) Tr.all_nil))))))))))))))))))))))),Tr.gl_nil,(Tr.all_cons (Tr.blt_none KX G ?z0) (Tr.all_cons (Tr.blt_none KX G ?z1) (Tr.all_cons (Tr.blt_none KX G ?z2) (Tr.all_cons (Tr.blt_none KX G ?z3) (Tr.all_cons (Tr.blt_none KX G ?z4) (Tr.all_cons (Tr.blt_none KX G ?z5) (Tr.all_cons (Tr.blt_none KX G ?z6) (Tr.all_cons (Tr.blt_none KX G ?z7) (Tr.all_cons (Tr.blt_none KX G ?z8) (Tr.all_cons (Tr.blt_none KX G ?z9) (Tr.all_cons (Tr.blt_none KX G ?z10) (Tr.all_cons (Tr.blt_none KX G ?z11) (Tr.all_cons (Tr.blt_none KX G ?z12) (Tr.all_cons (Tr.blt_none KX G ?z13) (Tr.all_cons (Tr.blt_none KX G ?z14) (Tr.all_cons (Tr.blt_none KX G ?z15) (Tr.all_cons (Tr.blt_none KX G ?z16) (Tr.all_cons (Tr.blt_none KX G ?z17) Tr.all_nil)))))))))))))))))),Tr.all_nil,Tr.all_nil,Tr.all_nil⟩ rfl
    (case a0=>k_is);(case l0=>k_is);(case c0=>k_is);(case k0=>k_is)
    (case b0=>exact fun _ _ _ _ _ _=>Tr.len3 (fun _ _ _=>rfl))
    (case a1=>k_is);(case l1=>k_is);(case c1=>k_is);(case k1=>k_is)
    (case b1=>exact fun _ _ _ _ _ _=>Tr.len4 (fun _ _ _ _=>rfl))
    (case a2=>k_is);(case l2=>k_is);(case c2=>k_is);(case k2=>k_is)
    (case b2=>exact fun _ _ _ _ _ _=>Tr.len2 (fun _ _=>rfl))
    (case a3=>k_is);(case l3=>k_is);(case c3=>k_is);(case k3=>k_is)
    (case b3=>exact fun _ _ _ _ _ _=>Tr.len3 (fun _ _ _=>rfl))
    (case a4=>k_is);(case l4=>k_is);(case c4=>k_is);(case k4=>k_is)
    (case b4=>exact fun _ _ _ _ _ _=>Tr.len2 (fun _ _=>rfl))
    (case a5=>k_is);(case l5=>k_is);(case c5=>k_is);(case k5=>k_is)
    (case b5=>exact fun _ _ _ _ _ _=>Tr.len3 (fun _ _ _=>rfl))
    (case a6=>k_is);(case l6=>k_is);(case c6=>k_is);(case k6=>k_is)
    (case b6=>exact fun _ _ _ _ _ _=>Tr.len2 (fun _ _=>rfl))
    (case a7=>k_is);(case l7=>k_is);(case c7=>k_is);(case k7=>k_is)
    (case b7=>exact fun _ _ _ _ _ _=>Tr.len4 (fun _ _ _ _=>rfl))
    (case a8=>k_is);(case l8=>k_is);(case c8=>k_is);(case k8=>k_is)
    (case b8=>exact fun _ _ _ _ _ _=>Tr.len4 (fun _ _ _ _=>rfl))
    (case a9=>k_is);(case l9=>k_is);(case c9=>k_is);(case k9=>k_is)
    (case b9=>exact fun _ _ _ _ _ _=>Tr.len4 (fun _ _ _ _=>rfl))
    (case a10=>k_is);(case l10=>k_is);(case c10=>k_is);(case k10=>k_is)
    (case b10=>exact fun _ _ _ _ _ _=>Tr.len2 (fun _ _=>rfl))
    (case a11=>k_is);(case l11=>k_is);(case c11=>k_is);(case k11=>k_is)
    (case b11=>exact fun _ _ _ _ _ _=>Tr.len3 (fun _ _ _=>rfl))
    (case a12=>k_is);(case l12=>k_is);(case c12=>k_is);(case k12=>k_is)
    (case b12=>exact fun _ _ _ _ _ _=>Tr.len2 (fun _ _=>rfl))
    (case a13=>k_is);(case l13=>k_is);(case c13=>k_is);(case k13=>k_is)
    (case b13=>exact fun _ _ _ _ _ _=>Tr.len2 (fun _ _=>rfl))
    (case a14=>k_is);(case l14=>k_is);(case c14=>k_is);(case k14=>k_is)
    (case b14=>exact fun _ _ _ _ _ _=>Tr.len2 (fun _ _=>rfl))
    (case a15=>k_is);(case l15=>k_is);(case c15=>k_is);(case k15=>k_is)
    (case b15=>exact fun _ _ _ _ _ _=>Tr.len1 (fun _=>rfl))
    (case a16=>k_is);(case l16=>k_is);(case c16=>k_is);(case k16=>k_is)
    (case b16=>exact fun _ _ _ _ _ _=>Tr.len3 (fun _ _ _=>rfl))
    (case a17=>k_is);(case l17=>k_is);(case c17=>k_is);(case k17=>k_is)
    (case b17=>exact fun _ _ _ _ _ _=>Tr.len3 (fun _ _ _=>rfl))
    (case a18=>k_is);(case l18=>k_is);(case c18=>k_is);(case k18=>k_is)
    (case b18=>exact fun _ _ _ _ _ _=>Tr.len3 (fun _ _ _=>rfl))
    (case a19=>k_is);(case l19=>k_is);(case c19=>k_is);(case k19=>k_is)
    (case b19=>exact fun _ _ _ _ _ _=>Tr.len4 (fun _ _ _ _=>rfl))
    (case a20=>k_is);(case l20=>k_is);(case c20=>k_is);(case k20=>k_is)
    (case b20=>exact fun _ _ _ _ _ _=>Tr.len4 (fun _ _ _ _=>rfl))
    (case a21=>k_is);(case l21=>k_is);(case c21=>k_is);(case k21=>k_is)
    (case b21=>exact fun _ _ _ _ _ _=>Tr.len3 (fun _ _ _=>rfl))
    (case a22=>k_is);(case l22=>k_is);(case c22=>k_is);(case k22=>k_is)
    (case b22=>exact fun _ _ _ _ _ _=>Tr.len1 (fun _=>rfl))
    (case z0=>k_is)
    (case z1=>k_is)
    (case z2=>k_is)
    (case z3=>k_is)
    (case z4=>k_is)
    (case z5=>k_is)
    (case z6=>k_is)
    (case z7=>k_is)
    (case z8=>k_is)
    (case z9=>k_is)
    (case z10=>k_is)
    (case z11=>k_is)
    (case z12=>k_is)
    (case z13=>k_is)
    (case z14=>k_is)
    (case z15=>k_is)
    (case z16=>k_is)
    (case z17=>k_is)
