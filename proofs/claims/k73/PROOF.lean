import PyProof.Rows.All
import Wide.All
import OpenK.AllK
import Wide.FinOn
import Lean
import PyProof.EqAt
import PyProof.EqKinds
import PyProof.TupleCall
import PySem.Challenge.RW_troupe_k73_shifts
set_option Elab.async false
set_option genSizeOf false
set_option bootstrap.genMatcherCode false
set_option compiler.extract_closed false
set_option genSizeOfSpec false
set_option linter.all false
set_option maxRecDepth 100000
namespace K73
theorem both1 {a b:Bool} (h:(a && b) = true):a = true:=(Bool.and_eq_true_iff.mp h).1
theorem both2 {a b:Bool} (h:(a && b) = true):b = true:=(Bool.and_eq_true_iff.mp h).2
noncomputable def vw:PySem.Program:=PySem.W.view PySem.Challenge.pw_troupe_k73_shifts [1,2,4,5,6,7,8,9,10,11,13,14,15,16,17,18,20,22,23,24,25,26,27,28,29,30,31,32,33,34,35,36,37,39,40,41,42,43,44,45,46,47,48,49,50,51,52]
end K73
section
open PySem PySem.W PyProof.Rows
set_option maxHeartbeats 0
local macro_rules
  | `(tactic| o_head $H)=>`(tactic| (
    apply holds_open (N:=4100) (q:=K73.vw) (loose:=[])
      (Yf:=($H).obs) (Ya:=($H).val) (YP:=($H).says)
      (XP:=XL K73.vw []) (Xt:=fun s=>xlAt K73.vw [] s && recOk (PySem.Challenge.rw_troupe_k73_shifts.row.toRowW).records s)
      (by intro w;kernel_rfl) ($H).of ($H).keeps
      (fun s e=>xl_of s (K73.both1 e)) XL.keeps
      rfl rfl rfl
      (fun s e=>recFacts_of (K73.both2 e))
      rfl (by assumption) (by decide +kernel)
      (by refine ⟨rfl,rfl,rfl,rfl,rfl,?_⟩;decide +kernel)))
open_top K73.hd for PySem.Challenge.rw_troupe_k73_shifts
end
set_option Elab.async false
set_option linter.all false
set_option maxRecDepth 100000
namespace L2
open PySem PySem.Spec PyProof.Rows
noncomputable abbrev Key:=Sum Int Str
noncomputable def keyIs:Key → Value → Bool
  | .inl k,v=>Value.isInt k v
  | .inr x,v=>Value.isStrOf x v
noncomputable def keyH (w:World):Key → Int
  | .inl k=>hashInt k
  | .inr x=>hashStr w x
theorem keyIs_shape:∀ {k:Key} {v:Value},keyIs k v = true → (∃ i t,k = Sum.inl i ∧ v = Value.int i t) ∨ (∃ x t,k = Sum.inr x ∧ v = Value.str x t)
  | .inl i,v,h=>by
    obtain ⟨t,e⟩:=Value.isInt_shape (k:=i) (v:=v) h
    exact .inl ⟨i,t,rfl,e⟩
  | .inr x,v,h=>by
    obtain ⟨t,e⟩:=Value.isStrOf_shape (x:=x) (v:=v) h
    exact .inr ⟨x,t,rfl,e⟩
theorem keyIs_int (i:Int) (t:Tok):keyIs (.inl i) (.int i t) = true:=by simp [keyIs,Value.isInt]
theorem keyIs_str (x:Str) (t:Tok):keyIs (.inr x) (.str x t) = true:=by simp [keyIs,Value.isStrOf]
theorem key_ll (a b:Int):decide ((Sum.inl a:Key) = Sum.inl b) = (a == b):=by
  by_cases e:a = b
  · subst e;simp
  · have h:¬ (Sum.inl a:Key) = Sum.inl b:=fun q=>e (Sum.inl.inj q)
    rw [decide_eq_false h]
    exact (beq_eq_false_iff_ne.mpr e).symm
theorem key_rr (a b:Str):decide ((Sum.inr a:Key) = Sum.inr b) = decide (a = b):=by
  by_cases e:a = b
  · subst e;simp
  · have h:¬ (Sum.inr a:Key) = Sum.inr b:=fun q=>e (Sum.inr.inj q)
    rw [decide_eq_false h,decide_eq_false e]
theorem key_lr (a:Int) (b:Str):decide ((Sum.inl a:Key) = Sum.inr b) = false:=decide_eq_false (fun q=>nomatch q)
theorem key_rl (a:Str) (b:Int):decide ((Sum.inr a:Key) = Sum.inl b) = false:=decide_eq_false (fun q=>nomatch q)
noncomputable def mixKind (prog:Program) (w:World):PySem.KeyKind prog w Key where
  is:=keyIs
  hash:=keyH w
  inj:=fun v a b ha hb=>by
    rcases keyIs_shape ha with ⟨i,t,rfl,rfl⟩ | ⟨x,t,rfl,rfl⟩
    · rcases keyIs_shape hb with ⟨j,u,rfl,e⟩ | ⟨y,u,rfl,e⟩
      · injection e with e1 _;rw [e1]
      · exact nomatch e
    · rcases keyIs_shape hb with ⟨j,u,rfl,e⟩ | ⟨y,u,rfl,e⟩
      · exact nomatch e
      · injection e with e1 _;rw [e1]
  byValue:=fun k v h=>by
    rcases keyIs_shape h with ⟨i,t,rfl,rfl⟩ | ⟨x,t,rfl,rfl⟩ <;> rfl
  pyHash:=fun hv h=>by
    rcases keyIs_shape hv with ⟨i,t,rfl,rfl⟩ | ⟨x,t,rfl,rfl⟩
    · exact wpAny_pyHash_int h
    · exact wpAny_pyHash_str h
  eqBool:=fun hu hv h=>by
    rcases keyIs_shape hu with ⟨i,t,rfl,rfl⟩ | ⟨x,t,rfl,rfl⟩
    · rcases keyIs_shape hv with ⟨j,u,rfl,rfl⟩ | ⟨y,u,rfl,rfl⟩
      · rw [key_ll] at h;exact wpAny_eqBool_int h
      · rw [key_lr] at h;exact SeqAt.EqAt.int_str i t y u _ _ _ _ h
    · rcases keyIs_shape hv with ⟨j,u,rfl,rfl⟩ | ⟨y,u,rfl,rfl⟩
      · rw [key_rl] at h;exact SeqAt.EqAt.str_int x t j u _ _ _ _ h
      · rw [key_rr] at h;exact wpAny_eqBool_str h
  «strs»:=fun k x t v h=>by
    rcases keyIs_shape h with ⟨i,u,rfl,e⟩ | ⟨y,u,rfl,e⟩
    · exact nomatch e
    · injection e with e1 _
      subst e1
      cases v <;> rfl
theorem mixKind_int (prog:Program) (w:World) (i:Int) (t:Tok):(mixKind prog w).is (.inl i) (.int i t) = true:=keyIs_int i t
theorem mixKind_str (prog:Program) (w:World) (x:Str) (t:Tok):(mixKind prog w).is (.inr x) (.str x t) = true:=keyIs_str x t
end L2
namespace L2
open PySem PySem.Spec PyProof.Rows
inductive V where
  | non | bl (b:Bool) | int (i:Int) | str (x:Str) | byt (b:Array UInt8) | flt (b:UInt64) | ref (a:Addr) | ty (n:String)
  deriving DecidableEq
noncomputable def RelV:V → Value → Prop
  | .non,u=>u = Value.none
  | .bl b,u=>u = Value.bool b
  | .int i,u=>∃ t,u = Value.int i t
  | .str x,u=>∃ t,u = Value.str x t
  | .byt b,u=>∃ t,u = Value.bytes b t
  | .flt b,u=>∃ t,u = Value.float b t
  | .ref a,u=>u = Value.ref a
  | .ty n,u=>u = Value.type n
noncomputable abbrev Vals:List V → List Value → Prop:=Paired RelV
theorem Vals.length {xs:List V} {us:List Value} (r:Vals xs us):xs.length = us.length:=Paired.length r
theorem Vals.get:∀ {xs:List V} {us:List Value} {i:Nat} {x:V},Vals xs us → xs[i]? = some x → ∃ u,us[i]? = some u ∧ RelV x u
  | _,_,_,_,.nil,e=>by simp at e
  | _,_,0,_,.cons r _,e=>by simp at e;subst e;exact ⟨_,rfl,r⟩
  | _,_,i + 1,x,.cons _ t,e=>by
    obtain ⟨u,h1,h2⟩:=Vals.get (i:=i) (x:=x) t (by simpa using e)
    exact ⟨u,by simpa using h1,h2⟩
theorem Vals.append:∀ {xs ys:List V} {us ws:List Value},Vals xs us → Vals ys ws → Vals (xs ++ ys) (us ++ ws)
  | _,_,_,_,.nil,s=>s
  | _,_,_,_,.cons r t,s=>.cons r (Vals.append t s)
theorem Vals.take:∀ {xs:List V} {us:List Value} (n:Nat),Vals xs us → Vals (xs.take n) (us.take n)
  | _,_,0,_=>.nil
  | _,_,_ + 1,.nil=>.nil
  | _,_,n + 1,.cons r t=>.cons r (Vals.take n t)
theorem Vals.drop:∀ {xs:List V} {us:List Value} (n:Nat),Vals xs us → Vals (xs.drop n) (us.drop n)
  | _,_,0,r=>r
  | _,_,_ + 1,.nil=>.nil
  | _,_,n + 1,.cons _ t=>Vals.drop n t
noncomputable def RelO:Option V → Option Value → Prop
  | some v,some u=>RelV v u
  | none,none=>True
  | _,_=>False
noncomputable def KV {κ:Type}:List (κ × V) → List (κ × Value) → Prop:=Paired fun (p:κ × V) (q:κ × Value)=>p.1 = q.1 ∧ RelV p.2 q.2
noncomputable def kV:Key → V
  | .inl i=>.int i
  | .inr x=>.str x
inductive HO where
  | lst (xs:List V)
  | tup (xs:List V)
  | dK (kvs:List (Key × V)) | dT (kvs:List (List Key × V))
  | set (S:Int → Bool) (n:Nat)
  | ins (C dx:Addr) (fs:List (Str × V))
  | own (x:Addr)
  | xd (fs:List (Str × V))
  | met (f x:Addr)
  | rng (lo hi:Int)
  | frz (o:Obj) (u:HO)
  | tbl (ps:Array Value)
  | ext (φ:Heap → Prop)
noncomputable abbrev Hp:=Addr → Option HO
noncomputable def upd (H:Hp) (a:Addr) (o:HO):Hp:=fun b=>if b = a then some o else H b
theorem upd_same {H:Hp} {a:Addr} {o:HO}:upd H a o a = some o:=by unfold upd;rw [if_pos rfl]
theorem upd_ne {H:Hp} {a b:Addr} {o:HO} (h:b ≠ a):upd H a o b = H b:=by unfold upd;rw [if_neg h]
theorem ne_of {H:Hp} {a b:Addr} {o u:HO} (h:H a = some o) (h':H b = some u) (d:o ≠ u):a ≠ b:=by
  intro e;subst e;rw [h] at h';exact d (Option.some.inj h')
theorem ne_of_none {H:Hp} {a b:Addr} {o:HO} (h:H a = some o) (h':H b = none):a ≠ b:=by
  intro e;subst e;rw [h] at h';cases h'
section
variable (P:Program) (w:World)
noncomputable def ObjOk (H:Hp) (h:Heap) (a:Addr):HO → Prop
  | .lst xs=>xs.length ≤ sizeLine ∧ ∃ (its:List Value) (n:Nat),Vals xs its ∧ h.get? a = some { cls:=.type "list", data:=.seq its.toArray n }
  | .tup xs=>xs.length ≤ sizeLine ∧ ∃ its:List Value,Vals xs its ∧ IsTup h a its.toArray
  | .dK kvs=>kvs.length ≤ sizeLine ∧ (a == sysModules) = false ∧ ∃ vs,KV kvs vs ∧ h.DictOf (mixKind P w) a vs
  | .dT kvs=>kvs.length ≤ sizeLine ∧ (a == sysModules) = false ∧ ∃ xs:List (List Key × Addr × Value),
      Paired (fun (p:List Key × V) (q:List Key × Addr × Value)=>p.1 = q.1 ∧ H q.2.1 = some (.tup (p.1.map kV)) ∧ RelV p.2 q.2.2) kvs xs ∧
      ∃ o es ep,h.get? a = some o ∧ o.ExactDict ∧ o.data = .dict es ep ∧ es.toList = xs.map (entryOfKey (tupleKind (mixKind P w))) ∧ (xs.map (·.1)).Nodup
  | .set S n=>h.SetOf (intKind P w) a S n
  | .ins C dx fs=>H dx = some (.own a) ∧ fs.length ≤ 1000 ∧ dx ≠ a ∧ h.get? a = some (PySem.W.instObj C dx) ∧
      ∃ mA,h.Ns1 dx mA ∧ (∀ f,RelO (fs.lookup f) (mA f)) ∧ PySem.Within mA (fs.map (·.1))
  | .own _=>∃ o,h.get? a = some o
  | .xd fs=>∃ mA,h.Ns1 a mA ∧ ∀ f,RelO (fs.lookup f) (mA f)
  | .rng lo hi=>∃ t u v,h.get? a = some { cls:=.type "range", data:=.fields #[.int lo t,.int hi u,.int 1 v] }
  | .frz o u=>h.get? a = some o ∧ ObjOk H h a u
  | .tbl ps=>h.get? a = some { cls:=.none,data:=.fields ps }
  | .met f x=>h.get? a = some (PySem.W.methodObj (.ref f) (.ref x))
  | .ext φ=>φ h ∧ (∃ o,h.get? a = some o) ∧ ∀ h1 h2:Heap,φ h1 → (∀ o,h1.get? a = some o → h2.get? a = some o) → φ h2
noncomputable def HOk (H:Hp) (h:Heap):Prop:=∀ a o,H a = some o → ObjOk P w H h a o
end
section
variable {P:Program} {w:World} {H H':Hp} {h h':Heap} {a:Addr} {o:HO}
theorem ObjOk.lt (x:ObjOk P w H h a o):a < h.objs.size:=by
  cases o with
  | lst xs=>obtain ⟨_,_,_,_,e⟩:=x;exact Heap.lt_size e
  | tup xs=>obtain ⟨_,_,_,p⟩:=x;exact p.lt
  | dK kvs=>obtain ⟨_,_,_,_,o,_,_,e,_⟩:=x;exact Heap.lt_size e
  | dT kvs=>obtain ⟨_,_,_,_,o,_,_,e,_⟩:=x;exact Heap.lt_size e
  | set S n=>obtain ⟨o,_,_,_,e,_⟩:=x;exact Heap.lt_size e
  | ins C dx fs=>obtain ⟨_,_,_,e,_⟩:=x;exact Heap.lt_size e
  | own y=>obtain ⟨_,e⟩:=x;exact Heap.lt_size e
  | xd fs=>obtain ⟨_,⟨_,_,_,e,_⟩,_⟩:=x;exact Heap.lt_size e
  | rng lo hi=>obtain ⟨_,_,_,e⟩:=x;exact Heap.lt_size e
  | frz ob u=>obtain ⟨e,_⟩:=x;exact Heap.lt_size e
  | tbl ps=>exact Heap.lt_size (show h.get? a = some _ from x)
  | met f y=>exact Heap.lt_size (show h.get? a = some _ from x)
  | ext φ=>obtain ⟨_,⟨_,e⟩,_⟩:=x;exact Heap.lt_size e
theorem Paired.mapP {α β:Type} {F G:α → β → Prop}:∀ {l₁:List α} {l₂:List β},Paired F l₁ l₂ → (∀ a b,F a b → G a b) → Paired G l₁ l₂
  | _,_,.nil,_=>.nil
  | _,_,.cons r t,f=>.cons (f _ _ r) (Paired.mapP t f)
theorem ObjOk.stay (x:ObjOk P w H h a o) (k:∀ b u,(b = a ∨ H b = some (.own a)) → h.get? b = some u → h'.get? b = some u)
    (ho:∀ b,H b = some (.own a) → H' b = some (.own a)) (ht:∀ b xs,H b = some (.tup xs) → H' b = some (.tup xs)):ObjOk P w H' h' a o:=by
  induction o with
  | lst xs=>obtain ⟨z,its,n,r,e⟩:=x;exact ⟨z,its,n,r,k _ _ (.inl rfl) e⟩
  | tup xs=>obtain ⟨z,its,r,ob,e,c⟩:=x;exact ⟨z,its,r,ob,k _ _ (.inl rfl) e,c⟩
  | dK kvs=>obtain ⟨z,y,vs,r,ob,es,ep,e,c⟩:=x;exact ⟨z,y,vs,r,ob,es,ep,k _ _ (.inl rfl) e,c⟩
  | dT kvs =>
    obtain ⟨z,y,xs,r,ob,es,ep,e,c⟩:=x
    exact ⟨z,y,xs,Paired.mapP r fun p q z=>⟨z.1,ht _ _ z.2.1,z.2.2⟩,ob,es,ep,k _ _ (.inl rfl) e,c⟩
  | set S n=>obtain ⟨ob,es,ep,t,e,c⟩:=x;exact ⟨ob,es,ep,t,k _ _ (.inl rfl) e,c⟩
  | ins C dx fs =>
    obtain ⟨d,z,ne,e,mA,⟨od,es,ep,e2,c⟩,r⟩:=x
    exact ⟨ho _ d,z,ne,k _ _ (.inl rfl) e,mA,⟨od,es,ep,k _ _ (.inr d) e2,c⟩,r⟩
  | own y=>obtain ⟨ob,e⟩:=x;exact ⟨ob,k _ _ (.inl rfl) e⟩
  | xd fs=>obtain ⟨mA,⟨od,es,ep,e,c⟩,r⟩:=x;exact ⟨mA,⟨od,es,ep,k _ _ (.inl rfl) e,c⟩,r⟩
  | rng lo hi=>obtain ⟨t,u,v,e⟩:=x;exact ⟨t,u,v,k _ _ (.inl rfl) e⟩
  | frz ob u ih=>obtain ⟨e,q⟩:=x;exact ⟨k _ _ (.inl rfl) e,ih q⟩
  | tbl ps =>
    have e:h.get? a = some { cls:=.none,data:=.fields ps }:=x
    show h'.get? a = some { cls:=.none,data:=.fields ps }
    exact k a _ (.inl rfl) e
  | met f y =>
    have e:h.get? a = some (PySem.W.methodObj (.ref f) (.ref y)):=x
    show h'.get? a = some (PySem.W.methodObj (.ref f) (.ref y))
    exact k a _ (.inl rfl) e
  | ext φ=>obtain ⟨p,⟨o,e⟩,st⟩:=x;exact ⟨st _ _ p fun o q=>k _ _ (.inl rfl) q,⟨o,k _ _ (.inl rfl) e⟩,st⟩
theorem HOk.lt (x:HOk P w H h) (e:H a = some o):a < h.objs.size:=(x a o e).lt
theorem HOk.fresh (x:HOk P w H h) (e:h.objs.size ≤ a):H a = none:=by
  cases q:H a with
  | none=>rfl
  | some u=>exact absurd (Nat.lt_of_lt_of_le (x.lt q) e) (Nat.lt_irrefl _)
theorem HOk.kept (x:HOk P w H h) (k:∀ b u,h.get? b = some u → h'.get? b = some u):HOk P w H h':=fun a o e =>
  (x a o e).stay (fun b u _ q=>k b u q) (fun _ q=>q) fun _ _ q=>q
theorem HOk.laid (x:HOk P w H h) (k:∀ b u,h.get? b = some u → h'.get? b = some u) (hp:h.objs.size ≤ a) (new:ObjOk P w (upd H a o) h' a o):HOk P w (upd H a o) h':=fun b u e=>by
  have hn:=x.fresh hp
  by_cases hb:b = a
  · subst hb;rw [upd_same] at e;cases e;exact new
  · rw [upd_ne hb] at e
    exact (x b u e).stay (fun c v _ q=>k c v q) (fun c q=>by rw [upd_ne (ne_of_none q hn)];exact q) fun c xs q=>by rw [upd_ne (ne_of_none q hn)];exact q
end
noncomputable def Rd (H:Hp) (a:Addr) (u:HO):Prop:=H a = some u ∨ ∃ o,H a = some (.frz o u)
theorem Rd.ok {P:Program} {w:World} {H:Hp} {h:Heap} {a:Addr} {u:HO} (r:Rd H a u) (x:HOk P w H h):ObjOk P w H h a u:=by
  rcases r with r | ⟨o,r⟩
  · exact x a u r
  · obtain ⟨_,q⟩:=x a _ r
    exact q
noncomputable def Mut:Option HO → Prop
  | some (.lst _)=>True
  | some (.dK _)=>True
  | some (.dT _)=>True
  | some (.set _ _)=>True
  | some (.ins _ _ _)=>True
  | some (.ext _)=>True
  | _=>False
section
variable {P:Program} {w:World} {H:Hp} {h h':Heap} {x e:Addr} {o':HO}
theorem HOk.write (ok:HOk P w H h) (mu:Mut (H x)) (he:e = x ∨ H e = some (.own x)) (k:∀ b u,b ≠ e → h.get? b = some u → h'.get? b = some u) (heo:∃ u,h'.get? e = some u)
    (new:ObjOk P w (upd H x o') h' x o'):HOk P w (upd H x o') h':=fun b u q=>by
  have nown:∀ c y,H c = some (.own y) → c ≠ x:=fun c y r z=>by subst z;rw [r] at mu;exact mu
  have ntup:∀ c xs,H c = some (.tup xs) → c ≠ x:=fun c xs r z=>by subst z;rw [r] at mu;exact mu
  by_cases hb:b = x
  · subst hb;rw [upd_same] at q;cases q;exact new
  · rw [upd_ne hb] at q
    by_cases hbe:b = e
    · have q':H b = some (.own x):=by
        rcases he with z | z
        · exact absurd (hbe.trans z) hb
        · rw [hbe];exact z
      rw [q] at q';cases q'
      obtain ⟨v,hv⟩:=heo
      exact ⟨v,by rw [hbe];exact hv⟩
    · refine (ok b u q).stay (fun c v hc r=>k c v ?_ r) (fun c r=>by rw [upd_ne (nown c b r)];exact r) fun c xs r=>by rw [upd_ne (ntup c xs r)];exact r
      rcases hc with rfl | hc
      · exact hbe
      · rintro rfl
        rcases he with z | z
        · exact nown c b hc z
        · rw [hc] at z;cases z;exact hb rfl
end
set_option genInjectivity false in
structure Un (fs ex:List Addr) (H H':Hp) (h h':Heap):Prop where
  keep:∀ b o,h.get? b = some o → H b = none → b ∉ fs → b ∉ ex → h'.get? b = some o
  slot:∀ b o,h.get? b = some o → H b = none → b ∈ fs → b ∉ ex → ∃ sl,h'.get? b = some { o with slots:=sl }
  free:∀ b o,h.get? b = some o → H b = none → b ∉ ex → H' b = none
  there:∀ b o,h.get? b = some o → b ∉ ex → ∃ o',h'.get? b = some o'
  tups:∀ b xs,H b = some (.tup xs) → H' b = some (.tup xs)
  frzs:∀ b o u,H b = some (.frz o u) → H' b = some (.frz o u)
  tbls:∀ b ps,H b = some (.tbl ps) → ∃ more,H' b = some (.tbl (ps ++ more))
section
variable {fs fs' ex ex':List Addr} {H H1 H2:Hp} {h h1 h2 h':Heap} {a x e:Addr} {o:HO}
theorem Un.any (u:Un fs ex H H1 h h1) {b:Addr} {ob:Obj} (q:h.get? b = some ob) (n:H b = none) (hx:b ∉ ex):∃ sl,h1.get? b = some { ob with slots:=sl }:=by
  by_cases hb:b ∈ fs
  · exact u.slot b ob q n hb hx
  · exact ⟨ob.slots,u.keep b ob q n hb hx⟩
theorem Un.kept (k:∀ b u,h.get? b = some u → h'.get? b = some u):Un fs ex H H h h' :=
  ⟨fun b ob q _ _ _=>k b ob q,fun b ob q _ _ _=>⟨ob.slots,k b ob q⟩,fun _ _ _ n _=>n,fun b ob q _=>⟨ob,k b ob q⟩,fun _ _ q=>q,fun _ _ _ q=>q,fun _ ps q=>⟨#[],by rw [q];simp⟩⟩
theorem Un.refl:Un fs ex H H h h:=Un.kept fun _ _ q=>q
theorem Un.laid (k:∀ b u,h.get? b = some u → h'.get? b = some u) (hp:h.objs.size ≤ a) (hn:H a = none):Un fs ex H (upd H a o) h h' where
  keep:=fun b u q _ _ _=>k b u q
  slot:=fun b u q _ _ _=>⟨u.slots,k b u q⟩
  free:=fun b u q n _=>by rw [upd_ne (Nat.ne_of_lt (Nat.lt_of_lt_of_le (Heap.lt_size q) hp))];exact n
  there:=fun b u q _=>⟨u,k b u q⟩
  tups:=fun b xs q=>by rw [upd_ne (ne_of_none q hn)];exact q
  frzs:=fun b u xs q=>by rw [upd_ne (ne_of_none q hn)];exact q
  tbls:=fun b ps q=>⟨#[],by rw [upd_ne (ne_of_none q hn),q];simp⟩
theorem Un.write (mu:Mut (H x)) (he:e = x ∨ H e = some (.own x)) (k:∀ b u,b ≠ e → h.get? b = some u → h'.get? b = some u) (heo:∃ u,h'.get? e = some u):Un fs ex H (upd H x o) h h':=by
  have hx:∀ b,H b = none → b ≠ x:=fun b n z=>by subst z;rw [n] at mu;exact mu
  have hb:∀ b,H b = none → b ≠ e:=fun b n z=>by
    subst z
    rcases he with r | r
    · exact hx b n r
    · rw [n] at r;cases r
  have hm:∀ b u,H b = some u → ¬ Mut (some u) → b ≠ x:=fun b u q nm z=>by subst z;rw [q] at mu;exact nm mu
  refine ⟨fun b u q n _ _=>k b u (hb b n) q,fun b u q n _ _=>⟨u.slots,k b u (hb b n) q⟩,fun b u q n _=>by rw [upd_ne (hx b n)];exact n,fun b u q _=>?_,
    fun b xs q=>by rw [upd_ne (hm b _ q fun z=>z)];exact q,fun b u xs q=>by rw [upd_ne (hm b _ q fun z=>z)];exact q,fun b ps q=>⟨#[],by rw [upd_ne (hm b _ q fun z=>z),q];simp⟩⟩
  by_cases hbe:b = e
  · subst hbe;exact heo
  · exact ⟨u,k b u hbe q⟩
end
noncomputable def trk (h:Heap) (H:Hp):List Addr:=(List.range h.objs.size).filter fun a=>(H a).isSome
noncomputable def hidT (h:Heap) (H:Hp):Heap:=PySem.W.hideAll h (trk h H)
theorem hidT_size (h:Heap) (H:Hp):(hidT h H).objs.size = h.objs.size:=PySem.W.hideAll_size _ _
theorem hidT_get {h:Heap} {H:Hp} {b:Addr} {o:Obj} (e:h.get? b = some o) (n:H b = none):(hidT h H).get? b = some o :=
  PySem.W.hideAll_get _ e fun hm=>by
    have q:(H b).isSome = true:=(List.mem_filter.mp hm).2
    rw [n] at q;simp at q
theorem of_hidT {h:Heap} {H:Hp} {b:Addr} {o:Obj} (e:(hidT h H).get? b = some o):h.get? b = some o ∧ H b = none:=by
  have e':h.get? b = some o:=PySem.W.of_hideAll (trk h H) e
  refine ⟨e',?_⟩
  cases q:H b with
  | none=>rfl
  | some x =>
    have hm:b ∈ trk h H:=List.mem_filter.mpr ⟨List.mem_range.mpr (Heap.lt_size e'),by simp [q]⟩
    have z:(hidT h H).get? b = none:=PySem.W.hideAll_none (trk h H) hm
    rw [z] at e;cases e
end L2
namespace L2
open PySem PySem.Spec PyProof.Rows
set_option genInjectivity false in
structure Mod (K:PySem.W.Frag) (mg:Str → Option Value) (base:Heap):Prop where
  kin:K.In base
  glob:base.Ns mainGlobals mg
  blt:∃ mb,base.Ns builtinsNs mb ∧ ∀ x:Str,x ≠ "__name__" → mb x = bootBuiltins x
  nolimit:base.NoLimit
set_option genInjectivity false in
structure Cx where
  prog:Program
  w:World
  K:PySem.W.Frag
  mg:Str → Option Value
  base:Heap
  A:Around
  N:List Str
  s₀:Shared
  H₀:Hp
  env:Env
  outer:List Env
  stack:List Env
  ex:List Addr
  fn:Str → Bool
  calm:Bool
  pn:List (Addr × Obj)
  xe:Value → Shared → Prop
noncomputable def frs (l:List Env):List Addr:=l.filterMap (·.frame)
noncomputable abbrev Cx.fs (X:Cx):List Addr:=frs X.outer
noncomputable def Vis (sc:Scope) (x:Str):Prop:=sc.names.lookup x = some .local ∨ sc.names.lookup x = some .cell ∨ sc.names.lookup x = some .free
noncomputable def Loc (sc:Scope) (x:Str):Prop:=sc.names.lookup x = some .local ∨ sc.names.lookup x = some .cell
noncomputable def Look (env:Env) (h:Heap) (m:Str → Option Value) (x:Str) (u:Value):Prop :=
  (env.kindOf x = some .local ∧ m x = some u) ∨ ((env.kindOf x = some .cell ∨ env.kindOf x = some .free) ∧ ∃ c,env.cells.lookup x = some c ∧ h.IsCell c (some u))
set_option genInjectivity false in
structure Cx.Ok (X:Cx):Prop where
  mod:Mod X.K X.mg X.base
  kind:X.env.scope.kind = .function
  glob:X.env.globals = mainGlobals
  blt:X.env.builtins = builtinsNs
  above:X.s₀.heap.objs.size ≤ X.env.locals
  inj:∀ x y c,X.env.cells.lookup x = some c → X.env.cells.lookup y = some c → x = y
  has:∀ x,(X.env.kindOf x = some .cell ∨ X.env.kindOf x = some .free) → ∃ c,X.env.cells.lookup x = some c
  cab:∀ x c,X.fn x = true → X.env.cells.lookup x = some c → X.s₀.heap.objs.size ≤ c
  hd:X.calm = true → X.A.handled = none
  frames:X.A.frames = some X.stack
  stk:X.stack = X.outer ∨ (X.stack = X.env :: X.outer ∧ X.env.frame = some X.env.locals)
  exf:∀ b ∈ X.ex,b ≠ X.env.locals ∧ ∀ x c,X.env.cells.lookup x = some c → c ≠ b
  bs:∀ b o,X.base.get? b = some o → X.s₀.heap.get? b = some o ∧ X.H₀ b = none
  bsz:X.base.objs.size ≤ X.s₀.heap.objs.size
  noex:∀ b o,X.base.get? b = some o → b ∉ X.ex
  exfs:∀ b ∈ X.ex,b ∉ X.fs
  funs:X.s₀.heap.FunFrames X.base X.outer
  frf:∀ b ∈ X.fs,X.H₀ b = none
set_option genInjectivity false in
structure Inv (X:Cx) (pins:List (Addr × Obj)) (σ:List (Option V)) (H:Hp) (s:Shared):Prop where
  ok:X.Ok
  os:s.os = X.s₀.os
  bare:AllBare s.gens
  base:Un X.fs X.ex X.H₀ H X.s₀.heap s.heap
  loc:∃ m,s.heap.Ns X.env.locals m ∧ ∀ (i:Nat) (x:Str) (v:V),X.N[i]? = some x → σ[i]? = some (some v) → Vis X.env.scope x → ∃ u,RelV v u ∧ Look X.env s.heap m x u
  cell:∀ x c,X.env.cells.lookup x = some c → ∃ v,s.heap.IsCell c v
  free:H X.env.locals = none
  freeC:∀ x c,X.env.cells.lookup x = some c → H c = none
  pin:∀ p ∈ X.pn ++ pins,s.heap.get? p.1 = some p.2 ∧ H p.1 = none ∧ p.1 ≠ X.env.locals ∧ p.1 ∉ X.fs ∧ ∀ v,p.2.data ≠ .cell v
  hok:HOk X.prog X.w H s.heap
  len:σ.length = X.N.length
section
variable {X:Cx} {pins:List (Addr × Obj)} {σ:List (Option V)} {H H':Hp} {s:Shared} {h':Heap}
theorem Cx.Ok.nofr (ok:X.Ok) {b:Addr} {o:Obj} (e:X.base.get? b = some o):b ∉ X.fs:=fun hb=>by
  have:=(ok.funs.mem hb).1
  rw [e] at this;cases this
theorem Inv.bs (I:Inv X pins σ H s):∀ b o,X.base.get? b = some o → s.heap.get? b = some o ∧ H b = none:=fun b o e =>
  ⟨I.base.keep b o (I.ok.bs b o e).1 (I.ok.bs b o e).2 (I.ok.nofr e) (I.ok.noex b o e),I.base.free b o (I.ok.bs b o e).1 (I.ok.bs b o e).2 (I.ok.noex b o e)⟩
theorem Inv.bk (I:Inv X pins σ H s):∀ b o,X.base.get? b = some o → s.heap.get? b = some o:=fun b o e=>(I.bs b o e).1
theorem Inv.mod (I:Inv X pins σ H s):Mod X.K X.mg X.base:=I.ok.mod
theorem Inv.kIn (I:Inv X pins σ H s):X.K.In s.heap:=I.ok.mod.kin.keeps I.bk
theorem Inv.lt (I:Inv X pins σ H s):X.env.locals < s.heap.objs.size:=let ⟨_,hn,_⟩:=I.loc;hn.lt
theorem Inv.sz (I:Inv X pins σ H s):X.s₀.heap.objs.size ≤ s.heap.objs.size:=Nat.le_trans I.ok.above (Nat.le_of_lt I.lt)
theorem Inv.nofs (I:Inv X pins σ H s) {a:Addr} (h:s.heap.objs.size ≤ a):a ∉ X.fs:=fun hb=>by
  obtain ⟨_,o,ho,_⟩:=I.ok.funs.mem hb
  exact absurd (Nat.lt_of_lt_of_le (Heap.lt_size ho) (Nat.le_trans I.sz h)) (Nat.lt_irrefl _)
theorem Inv.cne (I:Inv X pins σ H s):∀ x c,X.env.cells.lookup x = some c → c ≠ X.env.locals:=fun x c e z=>by
  obtain ⟨v,o,ho,hd⟩:=I.cell x c e
  obtain ⟨m,⟨o',es,ep,ho',hd',_⟩,_⟩:=I.loc
  rw [z,ho'] at ho;cases ho;rw [hd'] at hd;cases hd
theorem Inv.funs (I:Inv X pins σ H s):s.heap.FunFrames X.base X.outer:=by
  have all:∀ (l:List Env),(∀ b ∈ frs l,b ∈ X.fs) → X.s₀.heap.FunFrames X.base l → s.heap.FunFrames X.base l:=by
    intro l
    induction l with
    | nil=>intro _ _;trivial
    | cons env r ih =>
      intro hs hl
      obtain ⟨hk,⟨L,o,hf,hn,ho,hd⟩,hr⟩:=hl
      have hL:L ∈ X.fs:=hs L (by unfold frs;rw [List.filterMap_cons,hf];exact List.mem_cons_self)
      obtain ⟨sl,e⟩:=I.base.slot L o ho (I.ok.frf L hL) hL fun z=>I.ok.exfs L z hL
      exact ⟨hk,⟨L,_,hf,hn,e,hd⟩,ih (fun b hb=>hs b (by unfold frs;rw [List.filterMap_cons,hf];exact List.mem_cons_of_mem _ hb)) hr⟩
  exact all X.outer (fun _ hb=>hb) I.ok.funs
theorem Inv.stack (I:Inv X pins σ H s):s.heap.FunFrames X.base X.stack:=by
  rcases I.ok.stk with e | ⟨e,hf⟩
  · rw [e];exact I.funs
  · rw [e]
    obtain ⟨m,hn,_⟩:=I.loc
    refine .cons (by rw [I.ok.kind];decide) hf hn ?_ I.funs
    exact Heap.get?_none_of_le (Nat.le_trans I.ok.bsz I.ok.above)
theorem Inv.stkSub (I:Inv X pins σ H s):∀ b ∈ frs X.stack,b ∈ X.env.locals :: X.fs:=fun b hb=>by
  rcases I.ok.stk with e | ⟨e,hf⟩
  · rw [e] at hb;exact List.mem_cons_of_mem _ hb
  · rw [e] at hb
    unfold frs at hb
    rw [List.filterMap_cons,hf] at hb
    exact hb
theorem Inv.stkFree (I:Inv X pins σ H s):∀ b ∈ frs X.stack,H b = none:=fun b hb=>by
  rcases List.mem_cons.mp (I.stkSub b hb) with e | hb
  · rw [e];exact I.free
  · obtain ⟨_,o,ho,_⟩:=I.ok.funs.mem hb
    exact I.base.free b o ho (I.ok.frf b hb) fun z=>I.ok.exfs b z hb
theorem Inv.step {g':Array GenState} {t':Nat} {d':Drawn} {ch:List Addr} (I:Inv X pins σ H s)
    (hch:∀ b ∈ ch,(b ∈ X.ex ∨ X.s₀.heap.objs.size ≤ b) ∧ b ≠ X.env.locals ∧ (∀ x c,X.env.cells.lookup x = some c → c ≠ b) ∧ ∀ p ∈ X.pn ++ pins,p.1 ≠ b)
    (keep:∀ b o,b ≠ X.env.locals → b ∉ X.fs → b ∉ ch → s.heap.get? b = some o → H b = none → h'.get? b = some o)
    (slot:∀ b o,b ≠ X.env.locals → b ∈ X.fs → b ∉ ch → s.heap.get? b = some o → H b = none → ∃ sl,h'.get? b = some { o with slots:=sl }) (free:∀ b o,b ∉ ch → s.heap.get? b = some o → H b = none → H' b = none)
    (there:∀ b o,b ∉ ch → s.heap.get? b = some o → ∃ o',h'.get? b = some o')
    (tups:∀ b xs,H b = some (.tup xs) → H' b = some (.tup xs)) (frzs:∀ b o u,H b = some (.frz o u) → H' b = some (.frz o u)) (tbls:∀ b ps,H b = some (.tbl ps) → ∃ more,H' b = some (.tbl (ps ++ more)))
    (ns:∀ m,s.heap.Ns X.env.locals m → h'.Ns X.env.locals m) (hok:HOk X.prog X.w H' h') (hg:AllBare g') :
    Inv X pins σ H' { s with heap:=h',gens:=g',drawn:=d',toks:=t' }:=by
  have neL:∀ b o,X.s₀.heap.get? b = some o → b ≠ X.env.locals:=fun b o e=>Nat.ne_of_lt (Nat.lt_of_lt_of_le (Heap.lt_size e) I.ok.above)
  have neC:∀ b o,X.s₀.heap.get? b = some o → b ∉ X.ex → b ∉ ch:=fun b o e hx hb=>by
    rcases (hch b hb).1 with z | z
    · exact hx z
    · exact absurd (Nat.lt_of_lt_of_le (Heap.lt_size e) z) (Nat.lt_irrefl _)
  have cellK:∀ x c,X.env.cells.lookup x = some c → ∀ v,s.heap.IsCell c v → h'.IsCell c v:=fun x c e v ⟨o,ho,hd⟩=>by
    have nch:c ∉ ch:=fun z=>(hch c z).2.2.1 x c e rfl
    by_cases hc:c ∈ X.fs
    · obtain ⟨sl,q⟩:=slot c o (I.cne x c e) hc nch ho (I.freeC x c e)
      exact ⟨_,q,hd⟩
    · exact ⟨o,keep c o (I.cne x c e) hc nch ho (I.freeC x c e),hd⟩
  refine ⟨I.ok,I.os,hg,⟨fun b o e n hb hx=>?_,fun b o e n hb hx=>?_,fun b o e n hx=>?_,fun b o e hx=>?_,fun b xs e=>tups b xs (I.base.tups b xs e),fun b o xs e=>frzs b o xs (I.base.frzs b o xs e),fun b ps e=>?_⟩,?_,fun x c e=>?_,?_,fun x c e=>?_,fun p hp=>?_,hok,I.len⟩
  · exact keep b o (neL b o e) hb (neC b o e hx) (I.base.keep b o e n hb hx) (I.base.free b o e n hx)
  · obtain ⟨sl,e1⟩:=I.base.slot b o e n hb hx
    obtain ⟨sl',e2⟩:=slot b _ (neL b o e) hb (neC b o e hx) e1 (I.base.free b o e n hx)
    exact ⟨sl',e2⟩
  · obtain ⟨o',e1⟩:=I.base.there b o e hx
    exact free b o' (neC b o e hx) e1 (I.base.free b o e n hx)
  · obtain ⟨o',e1⟩:=I.base.there b o e hx
    exact there b o' (neC b o e hx) e1
  · obtain ⟨m1,e1⟩:=I.base.tbls b ps e
    obtain ⟨m2,e2⟩:=tbls b _ e1
    exact ⟨m1 ++ m2,by rw [e2,Array.append_assoc]⟩
  · obtain ⟨m,hn,hl⟩:=I.loc
    refine ⟨m,ns m hn,fun i x v e1 e2 e3=>?_⟩
    obtain ⟨u,r,l⟩:=hl i x v e1 e2 e3
    refine ⟨u,r,?_⟩
    rcases l with l | ⟨k,c,e,z⟩
    · exact .inl l
    · exact .inr ⟨k,c,e,cellK x c e _ z⟩
  · obtain ⟨v,z⟩:=I.cell x c e
    exact ⟨v,cellK x c e v z⟩
  · obtain ⟨m,⟨o,_,_,ho,_⟩,_⟩:=I.loc
    exact free _ o (fun z=>(hch _ z).2.1 rfl) ho I.free
  · obtain ⟨v,o,ho,hd⟩:=I.cell x c e
    exact free c o (fun z=>(hch c z).2.2.1 x c e rfl) ho (I.freeC x c e)
  · obtain ⟨e,n,ne,nf,d⟩:=I.pin p hp
    have nch:p.1 ∉ ch:=fun z=>(hch p.1 z).2.2.2 p hp rfl
    exact ⟨keep p.1 p.2 ne nf nch e n,free p.1 p.2 nch e n,ne,nf,d⟩
theorem Inv.un {t':Nat} (I:Inv X pins σ H s) (u:Un X.fs [] H H' s.heap h') (hok:HOk X.prog X.w H' h'):Inv X pins σ H' { s with heap:=h',toks:=t' }:=by
  obtain ⟨m,⟨o,es,ep,ho,r⟩,_⟩:=id I.loc
  obtain ⟨sl,hL⟩:=u.any ho I.free (by simp)
  exact I.step (g':=s.gens) (d':=s.drawn) (ch:=[]) (fun _ z=>nomatch z) (fun b o _ hb _ e n=>u.keep b o e n hb (by simp)) (fun b o _ hb _ e n=>u.slot b o e n hb (by simp)) (fun b o _ e n=>u.free b o e n (by simp)) (fun b o _ e=>u.there b o e (by simp)) u.tups u.frzs u.tbls (fun m' hm=>by
    obtain ⟨o',es',ep',ho',r'⟩:=hm
    rw [ho] at ho';cases ho'
    exact ⟨_,es',ep',hL,r'⟩) hok I.bare
theorem Inv.call {g':Array GenState} {t':Nat} {d':Drawn} {ch:List Addr} (I:Inv X pins σ H s) (u:Un (frs X.stack) ch H H' s.heap h') (hok:HOk X.prog X.w H' h') (hg:AllBare g')
    (hch:∀ b ∈ ch,(b ∈ X.ex ∨ X.s₀.heap.objs.size ≤ b) ∧ b ≠ X.env.locals ∧ (∀ x c,X.env.cells.lookup x = some c → c ≠ b) ∧ ∀ p ∈ X.pn ++ pins,p.1 ≠ b) :
    Inv X pins σ H' { s with heap:=h',gens:=g',drawn:=d',toks:=t' }:=by
  obtain ⟨m,⟨o,es,ep,ho,r⟩,_⟩:=id I.loc
  obtain ⟨sl,hL⟩:=u.any ho I.free fun z=>(hch _ z).2.1 rfl
  exact I.step (ch:=ch) hch (fun b o hL hb hc e n=>u.keep b o e n (fun z=>(List.mem_cons.mp (I.stkSub b z)).elim hL hb) hc) (fun b o _ _ hc e n=>u.any e n hc) (fun b o hc e n=>u.free b o e n hc) (fun b o hc e=>u.there b o e hc) u.tups u.frzs u.tbls (fun m' hm=>by
    obtain ⟨o',es',ep',ho',r'⟩:=hm
    rw [ho] at ho';cases ho'
    exact ⟨_,es',ep',hL,r'⟩) hok hg
theorem Inv.turned {t':Nat} {it:Addr} (I:Inv X pins σ H s) (k:∀ b o,b ≠ it → s.heap.get? b = some o → h'.get? b = some o) (hn:H it = none) (hL:it ≠ X.env.locals)
    (h1:it ∈ X.ex ∨ X.s₀.heap.objs.size ≤ it) (h2:∀ x c,X.env.cells.lookup x = some c → c ≠ it) (h3:∀ p ∈ X.pn ++ pins,p.1 ≠ it):Inv X pins σ H { s with heap:=h',toks:=t' }:=by
  have nit:∀ b u,H b = some u → b ≠ it:=fun b u e z=>by rw [z,hn] at e;cases e
  refine I.step (g':=s.gens) (d':=s.drawn) (ch:=[it]) (fun b hb=>?_) (fun b o _ _ hc e _=>k b o (fun z=>hc (by simp [z])) e) (fun b o _ _ hc e _=>⟨o.slots,k b o (fun z=>hc (by simp [z])) e⟩) (fun _ _ _ _ n=>n)
    (fun b o hc e=>⟨o,k b o (fun z=>hc (by simp [z])) e⟩) (fun _ _ e=>e) (fun _ _ _ e=>e) (fun b ps e=>⟨#[],by rw [e];simp⟩) (fun m hm=>?_) (fun b u e=>?_) I.bare
  · have e:b = it:=by simpa using hb
    subst e
    exact ⟨h1,hL,h2,h3⟩
  · obtain ⟨o,es,ep,ho,r⟩:=hm
    exact ⟨o,es,ep,k _ o (Ne.symm hL) ho,r⟩
  · refine (I.hok b u e).stay (fun c v hc q=>k c v ?_ q) (fun _ q=>q) fun _ _ q=>q
    rcases hc with z | z
    · rw [z];exact nit b u e
    · exact nit c _ z
theorem Inv.tok (I:Inv X pins σ H s) (t:Nat):Inv X pins σ H { s with toks:=t }:=I.un (h':=s.heap) (t':=t) Un.refl I.hok
theorem Inv.kept {t':Nat} (I:Inv X pins σ H s) (k:∀ b u,s.heap.get? b = some u → h'.get? b = some u):Inv X pins σ H { s with heap:=h',toks:=t' }:=I.un (Un.kept k) (I.hok.kept k)
theorem Inv.laid {a:Addr} {o:HO} {t':Nat} (I:Inv X pins σ H s) (k:∀ b u,s.heap.get? b = some u → h'.get? b = some u) (hp:s.heap.objs.size ≤ a) (new:ObjOk X.prog X.w (upd H a o) h' a o) :
    Inv X pins σ (upd H a o) { s with heap:=h',toks:=t' }:=I.un (Un.laid k hp (I.hok.fresh hp)) (I.hok.laid k hp new)
theorem Inv.write {x e:Addr} {o:HO} {t':Nat} (I:Inv X pins σ H s) (mu:Mut (H x)) (he:e = x ∨ H e = some (.own x)) (k:∀ b u,b ≠ e → s.heap.get? b = some u → h'.get? b = some u) (heo:∃ u,h'.get? e = some u)
    (new:ObjOk X.prog X.w (upd H x o) h' x o):Inv X pins σ (upd H x o) { s with heap:=h',toks:=t' }:=I.un (Un.write mu he k heo) (I.hok.write mu he k heo new)
theorem Inv.pins_of {pins':List (Addr × Obj)} (I:Inv X pins σ H s) (h:∀ p ∈ pins',s.heap.get? p.1 = some p.2 ∧ H p.1 = none ∧ p.1 ≠ X.env.locals ∧ p.1 ∉ X.fs ∧ ∀ v,p.2.data ≠ .cell v):Inv X pins' σ H s :=
  ⟨I.ok,I.os,I.bare,I.base,I.loc,I.cell,I.free,I.freeC,fun p hp=>(List.mem_append.mp hp).elim (fun z=>I.pin p (List.mem_append_left _ z)) (h p),I.hok,I.len⟩
theorem nodup_ix {N:List Str} (hN:N.Nodup) {i j:Nat} {x:Str} (a:N[i]? = some x) (b:N[j]? = some x):i = j:=by
  obtain ⟨h1,e1⟩:=List.getElem?_eq_some_iff.mp a
  obtain ⟨h2,e2⟩:=List.getElem?_eq_some_iff.mp b
  exact (List.getElem_inj hN).mp (e1.trans e2.symm)
theorem store_ok2 {M:Model} {A:Around} {E:Value → Shared → Prop} {i:Nat} {x:Str} {v:V} {u:Value} {Q:Unit → Shared → Prop} (I:Inv X pins σ H s) (hN:X.N.Nodup) (hi:X.N[i]? = some x) (hx:Loc X.env.scope x) (r:RelV v u)
    (h:∀ s',Inv X pins (σ.set i (some v)) H s' → (∃ a,Heap.SameBut a s.heap s'.heap ∧ (a = X.env.locals ∨ X.env.cells.lookup x = some a)) → Q () s') (hf:X.fn x = true ∨ X.env.scope.names.lookup x = some .local:=by first | exact .inl rfl | exact .inr rfl | assumption):wpAny M A (storeName X.env x u) Q E s:=by
  obtain ⟨m,hn,hl⟩:=id I.loc
  have hcls:(X.env.scope.kind == .class || (X.env.scope.kind == .module && X.env.locals != X.env.globals)) = false:=by rw [I.ok.kind];rfl
  have hiσ:i < σ.length:=by rw [I.len];exact (List.getElem?_eq_some_iff.mp hi).1
  have cne:=I.cne
  have tracked:∀ {a:Addr} {h':Heap},(∃ o,s.heap.get? a = some o ∧ H a = none) → Heap.SameBut a s.heap h' → HOk X.prog X.w H h':=fun {a h'} ha hs b ob e=>by
    obtain ⟨_,_,hfree⟩:=ha
    refine (I.hok b ob e).stay (fun c w' hc q=>(hs.2 c ?_).trans q) (fun _ q=>q) fun _ _ q=>q
    rintro rfl
    rcases hc with rfl | hc
    · rw [hfree] at e;cases e
    · rw [hfree] at hc;cases hc
  rcases hx with hk | hk
  · refine wpAny_storeName_local hk hn (fun h' hn' hs=>?_) hcls
    obtain ⟨oL,_,_,hoL,_⟩:=id hn
    refine h _ ⟨I.ok,I.os,I.bare,⟨fun b o e n hb hx=>?_,fun b o e n hb hx=>?_,I.base.free,fun b o e hx=>?_,I.base.tups,I.base.frzs,I.base.tbls⟩,⟨_,hn',fun j y v' e1 e2 e3=>?_⟩,fun y c e=>?_,I.free,I.freeC,fun p hp=>?_,tracked ⟨oL,hoL,I.free⟩ hs,by simpa using I.len⟩ ⟨_,hs,.inl rfl⟩
    · exact (hs.2 b (Nat.ne_of_lt (Nat.lt_of_lt_of_le (Heap.lt_size e) I.ok.above))).trans (I.base.keep b o e n hb hx)
    · obtain ⟨sl,e1⟩:=I.base.slot b o e n hb hx
      exact ⟨sl,(hs.2 b (Nat.ne_of_lt (Nat.lt_of_lt_of_le (Heap.lt_size e) I.ok.above))).trans e1⟩
    · obtain ⟨o',e1⟩:=I.base.there b o e hx
      exact ⟨o',(hs.2 b (Nat.ne_of_lt (Nat.lt_of_lt_of_le (Heap.lt_size e) I.ok.above))).trans e1⟩
    · by_cases hj:j = i
      · subst hj
        rw [hi] at e1;cases e1
        rw [List.getElem?_set_self hiσ] at e2
        cases e2
        exact ⟨u,r,.inl ⟨hk,by simp⟩⟩
      · rw [List.getElem?_set_ne (Ne.symm hj)] at e2
        obtain ⟨u',r',q⟩:=hl j y v' e1 e2 e3
        refine ⟨u',r',?_⟩
        rcases q with ⟨k,e⟩ | ⟨k,c,e,z⟩
        · refine .inl ⟨k,?_⟩
          have:y ≠ x:=fun e=>hj (nodup_ix hN e1 (e ▸ hi))
          simp [this,e]
        · exact .inr ⟨k,c,e,z.sameBut hs (cne y c e)⟩
    · obtain ⟨w',z⟩:=I.cell y c e
      exact ⟨w',z.sameBut hs (cne y c e)⟩
    · obtain ⟨e,n,ne,nf,d⟩:=I.pin p hp
      exact ⟨(hs.2 p.1 ne).trans e,n,ne,nf,d⟩
  · have hfn:X.fn x = true:=by
      rcases hf with z | z
      · exact z
      · rw [z] at hk;cases hk
    obtain ⟨c,hc⟩:=I.ok.has x (.inl hk)
    obtain ⟨w',z⟩:=I.cell x c hc
    refine wpAny_storeName_cell I.ok.kind hk hc z (fun h' hc' hs=>?_)
    obtain ⟨oc,hoc,hocd⟩:=id z
    refine h { s with heap:=h' } ⟨I.ok,I.os,I.bare,⟨fun b o e n hb hx=>?_,fun b o e n hb hx=>?_,I.base.free,fun b o e hx=>?_,I.base.tups,I.base.frzs,I.base.tbls⟩,⟨m,hn.sameBut hs (Ne.symm (cne x c hc)),fun j y v' e1 e2 e3=>?_⟩,fun y c' e=>?_,I.free,I.freeC,fun p hp=>?_,tracked ⟨oc,hoc,I.freeC x c hc⟩ hs,by simpa using I.len⟩ ⟨c,hs,.inr hc⟩
    · exact (hs.2 b (Nat.ne_of_lt (Nat.lt_of_lt_of_le (Heap.lt_size e) (I.ok.cab x c hfn hc)))).trans (I.base.keep b o e n hb hx)
    · obtain ⟨sl,e1⟩:=I.base.slot b o e n hb hx
      exact ⟨sl,(hs.2 b (Nat.ne_of_lt (Nat.lt_of_lt_of_le (Heap.lt_size e) (I.ok.cab x c hfn hc)))).trans e1⟩
    · obtain ⟨o',e1⟩:=I.base.there b o e hx
      exact ⟨o',(hs.2 b (Nat.ne_of_lt (Nat.lt_of_lt_of_le (Heap.lt_size e) (I.ok.cab x c hfn hc)))).trans e1⟩
    · by_cases hj:j = i
      · subst hj
        rw [hi] at e1;cases e1
        rw [List.getElem?_set_self hiσ] at e2
        cases e2
        exact ⟨u,r,.inr ⟨.inl hk,c,hc,hc'⟩⟩
      · rw [List.getElem?_set_ne (Ne.symm hj)] at e2
        obtain ⟨u',r',q⟩:=hl j y v' e1 e2 e3
        refine ⟨u',r',?_⟩
        rcases q with q | ⟨k,c',e,z'⟩
        · exact .inl q
        · refine .inr ⟨k,c',e,z'.sameBut hs ?_⟩
          rintro rfl
          exact hj (nodup_ix hN e1 (I.ok.inj _ _ _ e hc ▸ hi))
    · by_cases hcc:c' = c
      · subst hcc;exact ⟨_,hc'⟩
      · obtain ⟨w2,z2⟩:=I.cell y c' e
        exact ⟨w2,z2.sameBut hs hcc⟩
    · obtain ⟨e,n,ne,nf,d⟩:=I.pin p hp
      refine ⟨(hs.2 p.1 ?_).trans e,n,ne,nf,d⟩
      intro q
      rw [q,hoc] at e
      have q':oc = p.2:=Option.some.inj e
      exact d w' (by rw [← q'];exact hocd)
theorem store_ok {M:Model} {A:Around} {E:Value → Shared → Prop} {i:Nat} {x:Str} {v:V} {u:Value} {Q:Unit → Shared → Prop} (I:Inv X pins σ H s) (hN:X.N.Nodup) (hi:X.N[i]? = some x) (hx:Loc X.env.scope x) (r:RelV v u)
    (h:∀ s',Inv X pins (σ.set i (some v)) H s' → Q () s') (hf:X.fn x = true ∨ X.env.scope.names.lookup x = some .local:=by first | exact .inl rfl | exact .inr rfl | assumption):wpAny M A (storeName X.env x u) Q E s :=
  store_ok2 I hN hi hx r (fun s' I' _=>h s' I') hf
theorem Inv.call' {s':Shared} {ch:List Addr} (I:Inv X pins σ H s) (ho:s'.os = s.os) (u:Un (frs X.stack) ch H H' s.heap s'.heap) (hok:HOk X.prog X.w H' s'.heap) (hg:AllBare s'.gens)
    (hch:∀ b ∈ ch,(b ∈ X.ex ∨ X.s₀.heap.objs.size ≤ b) ∧ b ≠ X.env.locals ∧ (∀ x c,X.env.cells.lookup x = some c → c ≠ b) ∧ ∀ p ∈ X.pn ++ pins,p.1 ≠ b):Inv X pins σ H' s':=by
  obtain ⟨h',g',d',t',o'⟩:=s'
  have e:o' = s.os:=ho
  subst e
  exact I.call (g':=g') (t':=t') (d':=d') u hok hg hch
end
noncomputable abbrev XK:=Value → Option Addr → Hp → Prop
noncomputable abbrev St:=List (Option V)
noncomputable abbrev VK:=V → Hp → Prop
noncomputable abbrev TE:=St → Hp → VK → Prop
noncomputable abbrev TT:=St → Hp → (Bool → Hp → Prop) → Prop
noncomputable abbrev TA:=St → Hp → (List V → Hp → Prop) → Prop
set_option genInjectivity false in
structure Ends where
  nx:St → Hp → Prop
  rt:VK
  bk:St → Hp → Prop:=fun _ _=>False
  ct:St → Hp → Prop:=fun _ _=>False
noncomputable abbrev TS:=Ends → St → Hp → Prop
noncomputable def EP (X:Cx) (pins:List (Addr × Obj)) (σ:St) (Q:VK) (u:Value) (s':Shared):Prop:=∃ v H',Inv X pins σ H' s' ∧ RelV v u ∧ Q v H'
noncomputable def TP (X:Cx) (pins:List (Addr × Obj)) (σ:St) (Q:Bool → Hp → Prop) (b:Bool) (s':Shared):Prop:=∃ H',Inv X pins σ H' s' ∧ Q b H'
noncomputable def AP (X:Cx) (pins:List (Addr × Obj)) (σ:St) (Q:List V → Hp → Prop) (us:List Value) (s':Shared):Prop:=∃ vs H',Inv X pins σ H' s' ∧ Vals vs us ∧ Q vs H'
noncomputable def SP (X:Cx) (pins:List (Addr × Obj)) (D:Ends) (f:Flow) (s':Shared):Prop :=
  match f with
  | .next=>∃ σ' H',Inv X pins σ' H' s' ∧ D.nx σ' H'
  | .brk=>∃ σ' H',Inv X pins σ' H' s' ∧ D.bk σ' H'
  | .cont=>∃ σ' H',Inv X pins σ' H' s' ∧ D.ct σ' H'
  | .ret u=>∃ v σ' H',Inv X pins σ' H' s' ∧ RelV v u ∧ D.rt v H'
noncomputable def PE (X:Cx) (e:Expr) (t:TE):Prop :=
  ∀ (pins:List (Addr × Obj)) (s:Shared) (σ:St) (H:Hp) (Q:VK),Inv X pins σ H s → t σ H Q → wpAny (model X.prog X.w) X.A (eval e X.env) (EP X pins σ Q) X.xe s
noncomputable def PT (X:Cx) (e:Expr) (t:TT):Prop :=
  ∀ (pins:List (Addr × Obj)) (s:Shared) (σ:St) (H:Hp) (Q:Bool → Hp → Prop),Inv X pins σ H s → t σ H Q → wpAny (model X.prog X.w) X.A (isTrue e X.env (eval e X.env)) (TP X pins σ Q) X.xe s
noncomputable def PW (X:Cx) (e:Expr) (t:TT):Prop :=
  ∀ (whole:Sem Value) (pins:List (Addr × Obj)) (s:Shared) (σ:St) (H:Hp) (Q:Bool → Hp → Prop),Inv X pins σ H s → t σ H Q → wpAny (model X.prog X.w) X.A (isTrue e X.env whole) (TP X pins σ Q) X.xe s
theorem PW.pt {X:Cx} {e:Expr} {t:TT} (h:PW X e t):PT X e t:=h _
noncomputable def PA (X:Cx) (es:List Expr) (t:TA):Prop :=
  ∀ (pos:Pos) (pins:List (Addr × Obj)) (s:Shared) (σ:St) (H:Hp) (Q:List V → Hp → Prop),Inv X pins σ H s → t σ H Q → wpAny (model X.prog X.w) X.A (spliced (backTo pos (starEach es X.env))) (AP X pins σ Q) X.xe s
noncomputable def PS (X:Cx) (st:Stmt) (t:TS):Prop :=
  ∀ (pins:List (Addr × Obj)) (s:Shared) (σ:St) (H:Hp) (D:Ends),Inv X pins σ H s → t D σ H → wpAny (model X.prog X.w) X.A (exec st X.env) (SP X pins D) X.xe s
noncomputable def PSs (X:Cx) (st:List Stmt) (t:TS):Prop :=
  ∀ (pins:List (Addr × Obj)) (s:Shared) (σ:St) (H:Hp) (D:Ends),Inv X pins σ H s → t D σ H → wpAny (model X.prog X.w) X.A (execs st X.env) (SP X pins D) X.xe s
theorem thn {α:Type} {t:Sem α} {Q Q':α → Shared → Prop} {M:Model} {A:Around} {E:Value → Shared → Prop} {s:Shared} (h:wpAny M A t Q E s) (hQ:∀ a s,Q a s → Q' a s):wpAny M A t Q' E s:=wpAny_mono h hQ fun _ _ x=>x
end L2
namespace L2
open PySem PySem.Spec PyProof.Rows
section
variable {X:Cx}
theorem bin {a b:Expr} {ta tb:TE} (ha:PE X a ta) (hb:PE X b tb) {pins:List (Addr × Obj)} {s:Shared} {σ:St} {H:Hp} {R:V → V → Hp → Prop} (I:Inv X pins σ H s) (h:ta σ H fun x H1=>tb σ H1 fun y H2=>R x y H2)
    {α:Type} {Q:α → Shared → Prop} {f:Value → Value → Sem α}
    (hf:∀ v u s2 x y H2,Inv X pins σ H2 s2 → RelV x v → RelV y u → R x y H2 → wpAny (model X.prog X.w) X.A (f v u) Q X.xe s2) :
    wpAny (model X.prog X.w) X.A (eval a X.env) (fun v s₁=>wpAny (model X.prog X.w) X.A (eval b X.env) (fun u s₂=>wpAny (model X.prog X.w) X.A (f v u) Q X.xe s₂) X.xe s₁) X.xe s:=by
  refine thn (ha pins s σ H _ I h) fun v s1 ⟨x,H1,I1,r1,q1⟩=>?_
  refine thn (hb pins s1 σ H1 _ I1 q1) fun u s2 ⟨y,H2,I2,r2,q2⟩=>?_
  exact hf v u s2 x y H2 I2 r1 r2 q2
noncomputable def tVar (i:Nat):TE:=fun σ H Q=>∃ v,σ[i]? = some (some v) ∧ Q v H
noncomputable def tC (v:V):TE:=fun _ H Q=>Q v H
theorem pe_var {i:Nat} {x:Str} {pos:Pos} (hN:X.N[i]? = some x) (hv:Vis X.env.scope x) (hd:(x == ("__debug__" : Str)) = false:=by decide) (hcd:(x == ("__classdict__" : Str)) = false:=by decide):PE X (.Name x pos) (tVar i):=by
  intro pins s σ H Q I h
  obtain ⟨v,e,h⟩:=h
  obtain ⟨m,hn,hl⟩:=I.loc
  obtain ⟨u,r,l⟩:=hl i x v hN e hv
  have fin:EP X pins σ Q u s:=⟨v,H,I,r,h⟩
  rcases l with ⟨hk,hm⟩ | ⟨hk,c,hc,hcell⟩
  · exact wpAny_Name (wpAny_loadName_local I.ok.kind hk hn hm fin) hd
  · rcases hk with hk | hk
    · exact wpAny_Name (wpAny_loadName_cell I.ok.kind hk hc hcell fin) hd
    · exact wpAny_Name (wpAny_loadName_free I.ok.kind hk hc hcell fin hcd) hd
theorem pe_int {i j pos}:PE X (.Constant (.int i) j pos) (tC (.int i)):=fun _ _ _ H _ I h=>wpAny_Constant_int ⟨.int i,H,I.tok _,⟨_,rfl⟩,h⟩
theorem pe_bl {b j pos}:PE X (.Constant (.bool b) j pos) (tC (.bl b)):=fun _ _ _ H _ I h=>Constant_bool ⟨.bl b,H,I,rfl,h⟩
theorem pe_non {j pos}:PE X (.Constant .none j pos) (tC .non):=fun _ _ _ H _ I h=>Constant_none ⟨.non,H,I,rfl,h⟩
theorem pe_str {x j pos}:PE X (.Constant (.str x) j pos) (tC (.str x)):=fun _ _ _ H _ I h=>Calls.Constant_str ⟨.str x,H,I.tok _,⟨_,rfl⟩,h⟩
noncomputable def Gl (X:Cx) (x:Str):Prop:=X.env.kindOf x = some .globalImplicit
theorem ld_glob {E:Value → Shared → Prop} {pins:List (Addr × Obj)} {s:Shared} {σ:St} {H:Hp} {x:Str} {u:Value} {pos:Pos} {Q:Value → Shared → Prop} (I:Inv X pins σ H s) (hg:Gl X x) (hm:X.mg x = some u) (h:Q u s)
    (hd:(x == ("__debug__" : Str)) = false:=by decide):wpAny (model X.prog X.w) X.A (eval (.Name x pos) X.env) Q E s :=
  Calls.Name_function_global I.ok.kind hg (Calls.loadGlobal_global (by rw [I.ok.glob];exact I.mod.glob.keeps I.bk) hm h) hd
theorem ld_blt {E:Value → Shared → Prop} {pins:List (Addr × Obj)} {s:Shared} {σ:St} {H:Hp} {x:Str} {u:Value} {pos:Pos} {Q:Value → Shared → Prop} (I:Inv X pins σ H s) (hg:Gl X x) (hm:X.mg x = none) (hv:bootBuiltins x = some u) (h:Q u s)
    (hn:x ≠ "__name__" := by decide) (hd:(x == ("__debug__" : Str)) = false:=by decide):wpAny (model X.prog X.w) X.A (eval (.Name x pos) X.env) Q E s:=by
  obtain ⟨mb,h1,h2⟩:=I.mod.blt
  exact Calls.Name_function_global I.ok.kind hg (Calls.loadGlobal_builtin (by rw [I.ok.glob];exact I.mod.glob.keeps I.bk) hm (by rw [I.ok.blt];exact h1.keeps I.bk) ((h2 x hn).trans hv) h) hd
theorem pe_glob {x:Str} {v:V} {u:Value} {pos:Pos} (hg:Gl X x) (hm:X.mg x = some u) (r:RelV v u) (hd:(x == ("__debug__" : Str)) = false:=by decide):PE X (.Name x pos) (tC v) :=
  fun _ _ _ H _ I h=>ld_glob I hg hm ⟨v,H,I,r,h⟩ hd
theorem pe_bltn {x:Str} {v:V} {u:Value} {pos:Pos} (hg:Gl X x) (hm:X.mg x = none) (hv:bootBuiltins x = some u) (r:RelV v u) (hn:x ≠ "__name__" := by decide) (hd:(x == ("__debug__" : Str)) = false:=by decide):PE X (.Name x pos) (tC v) :=
  fun _ _ _ H _ I h=>ld_blt I hg hm hv ⟨v,H,I,r,h⟩ hn hd
variable {a b:Expr} {ta tb:TE} {pos:Pos}
variable {tA tB':TT} {rest:List Expr}
noncomputable def tAnd (t u:TT):TT:=fun σ H Q=>t σ H fun c H1=>if c = true then u σ H1 Q else Q false H1
noncomputable def tOr (t u:TT):TT:=fun σ H Q=>t σ H fun c H1=>if c = true then Q true H1 else u σ H1 Q
noncomputable def tNot (t:TT):TT:=fun σ H Q=>t σ H fun c H1=>Q (!c) H1
theorem pw_and1 (ha:PT X a tA):PW X (.BoolOp .And [a] pos) tA:=by
  intro wh pins s σ H Q I h
  refine isTrue_and (thn (ha pins s σ H Q I h) fun c s1 e=>?_)
  cases c with
  | true=>exact isTrue_and_nil e
  | false=>exact e
theorem pw_or1 (ha:PT X a tA):PW X (.BoolOp .Or [a] pos) tA:=by
  intro wh pins s σ H Q I h
  refine isTrue_or (thn (ha pins s σ H Q I h) fun c s1 e=>?_)
  cases c with
  | false=>exact isTrue_or_nil e
  | true=>exact e
theorem pw_and (ha:PT X a tA) (hb:PW X (.BoolOp .And (b :: rest) pos) tB'):PW X (.BoolOp .And (a :: b :: rest) pos) (tAnd tA tB'):=by
  intro wh pins s σ H Q I h
  refine isTrue_and (thn (ha pins s σ H _ I h) fun c s1 ⟨H1,I1,q1⟩=>?_)
  cases c with
  | true=>exact hb wh pins s1 σ H1 Q I1 q1
  | false=>exact ⟨H1,I1,q1⟩
theorem pw_or (ha:PT X a tA) (hb:PW X (.BoolOp .Or (b :: rest) pos) tB'):PW X (.BoolOp .Or (a :: b :: rest) pos) (tOr tA tB'):=by
  intro wh pins s σ H Q I h
  refine isTrue_or (thn (ha pins s σ H _ I h) fun c s1 ⟨H1,I1,q1⟩=>?_)
  cases c with
  | true=>exact ⟨H1,I1,q1⟩
  | false=>exact hb wh pins s1 σ H1 Q I1 q1
theorem pt_not (ha:PT X a tA):PT X (.UnaryOp .Not a pos) (tNot tA):=by
  intro pins s σ H Q I h
  exact isTrue_not (ha pins s σ H (fun c H1=>Q (!c) H1) I h)
theorem pe_one {op} {t:TE} (h:PE X a t):PE X (.BoolOp op [a] pos) t:=fun pins s σ H Q I hw=>BoolOp_one (h pins s σ H Q I hw)
end
end L2
namespace L2
open PySem PySem.Spec PyProof.Rows
noncomputable def SqL (K:PySem.W.Frag) (H:Hp) (a:Addr) (xs:List V):Prop :=
  Rd H a (.lst xs) ∨
    ∃ (o:Obj) (its:Array Value) (n:Nat),K.lookup a = some o ∧ o.cls = .type "list" ∧ o.dict = none ∧ o.data = .seq its n ∧ its.size ≤ sizeLine ∧ Vals xs its.toList
noncomputable def SqT (K:PySem.W.Frag) (H:Hp) (a:Addr) (xs:List V):Prop :=
  Rd H a (.tup xs) ∨
    ∃ (o:Obj) (its:Array Value) (n:Nat),K.lookup a = some o ∧ o.cls = .type "tuple" ∧ o.data = .seq its n ∧ its.size ≤ sizeLine ∧ Vals xs its.toList
noncomputable def absV:Value → Option V
  | .none=>some .non
  | .bool b=>some (.bl b)
  | .int i _=>some (.int i)
  | .str x _=>some (.str x)
  | .bytes b _=>some (.byt b)
  | .float b _=>some (.flt b)
  | .ref a=>some (.ref a)
  | .type n=>some (.ty n)
  | _=>none
theorem RelV.abs {x:V} {u:Value} (r:RelV x u):absV u = some x:=by
  cases x with
  | non=>cases r;rfl
  | bl _=>cases r;rfl
  | int _=>obtain ⟨t,rfl⟩:=r;rfl
  | str _=>obtain ⟨t,rfl⟩:=r;rfl
  | byt _=>obtain ⟨t,rfl⟩:=r;rfl
  | flt _=>obtain ⟨t,rfl⟩:=r;rfl
  | ref _=>cases r;rfl
  | ty _=>cases r;rfl
theorem RelV.inj {x y:V} {u:Value} (r:RelV x u) (q:RelV y u):x = y:=Option.some.inj (r.abs.symm.trans q.abs)
theorem Vals.inj:∀ {xs ys:List V} {us:List Value},Vals xs us → Vals ys us → xs = ys
  | _,_,_,.nil,.nil=>rfl
  | _,_,_,.cons r t,.cons r' t'=>by rw [r.inj r',Vals.inj t t']
section
variable {X:Cx} {pins:List (Addr × Obj)} {σ:St} {H:Hp} {s:Shared} {a:Addr} {xs ys:List V}
theorem SqL.of {K:PySem.W.Frag} (h:H a = some (.lst xs)):SqL K H a xs:=.inl (.inl h)
theorem SqT.of {K:PySem.W.Frag} (h:H a = some (.tup xs)):SqT K H a xs:=.inl (.inl h)
theorem Inv.list (I:Inv X pins σ H s) (h:SqL X.K H a xs):∃ its:List Value,Vals xs its ∧ PlainL s.heap a its.toArray ∧ xs.length ≤ sizeLine:=by
  rcases h with h | ⟨o,its,n,hk,hc,hd,hs,hz,r⟩
  · obtain ⟨z,its,n,r,e⟩:=h.ok I.hok
    exact ⟨its,r,⟨_,n,e,rfl,rfl,rfl⟩,z⟩
  · refine ⟨its.toList,r,⟨o,n,I.kIn a o hk,hc,hd,by simpa using hs⟩,?_⟩
    have e:=r.length
    simp only [Array.length_toList] at e
    (first | lia | omega)
theorem Inv.tuple (I:Inv X pins σ H s) (h:SqT X.K H a xs):∃ its:List Value,Vals xs its ∧ IsTup s.heap a its.toArray ∧ xs.length ≤ sizeLine:=by
  rcases h with h | ⟨o,its,n,hk,hc,hs,hz,r⟩
  · obtain ⟨z,its,r,p⟩:=h.ok I.hok
    exact ⟨its,r,p,z⟩
  · refine ⟨its.toList,r,⟨o,I.kIn a o hk,hc,n,by simpa using hs⟩,?_⟩
    have e:=r.length
    simp only [Array.length_toList] at e
    (first | lia | omega)
theorem Inv.list_inj (I:Inv X pins σ H s) (h:SqL X.K H a xs) (h':SqL X.K H a ys):xs = ys:=by
  obtain ⟨its,r,⟨o,n,e,_,_,d⟩,_⟩:=I.list h
  obtain ⟨its',r',⟨o',n',e',_,_,d'⟩,_⟩:=I.list h'
  rw [e] at e';cases e'
  rw [d] at d'
  injection d' with d1 _
  have:its = its':=by simpa using congrArg Array.toList d1
  subst this
  exact r.inj r'
theorem Inv.tuple_inj (I:Inv X pins σ H s) (h:SqT X.K H a xs) (h':SqT X.K H a ys):xs = ys:=by
  obtain ⟨its,r,⟨o,e,_,n,d⟩,_⟩:=I.tuple h
  obtain ⟨its',r',⟨o',e',_,n',d'⟩,_⟩:=I.tuple h'
  rw [e] at e';cases e'
  rw [d] at d'
  injection d' with d1 _
  have:its = its':=by simpa using congrArg Array.toList d1
  subst this
  exact r.inj r'
end
noncomputable abbrev Cx.wish (X:Cx) (E:Value → Shared → Prop):Cx:={ X with xe:=E }
noncomputable abbrev Cx.nox (X:Cx):Cx:=X.wish fun _ _=>False
theorem Cx.Ok.wish {X:Cx} (ok:X.Ok) (E:Value → Shared → Prop):(X.wish E).Ok :=
  ⟨ok.mod,ok.kind,ok.glob,ok.blt,ok.above,ok.inj,ok.has,ok.cab,ok.hd,ok.frames,ok.stk,ok.exf,ok.bs,ok.bsz,ok.noex,ok.exfs,ok.funs,ok.frf⟩
theorem Cx.Ok.unwish {X:Cx} {E:Value → Shared → Prop} (ok:(X.wish E).Ok):X.Ok :=
  ⟨ok.mod,ok.kind,ok.glob,ok.blt,ok.above,ok.inj,ok.has,ok.cab,ok.hd,ok.frames,ok.stk,ok.exf,ok.bs,ok.bsz,ok.noex,ok.exfs,ok.funs,ok.frf⟩
section
variable {X:Cx} {pins:List (Addr × Obj)} {σ:St} {H:Hp} {s:Shared} {E:Value → Shared → Prop}
theorem Inv.wish (I:Inv X pins σ H s) (E:Value → Shared → Prop):Inv (X.wish E) pins σ H s:=⟨I.ok.wish E,I.os,I.bare,I.base,I.loc,I.cell,I.free,I.freeC,I.pin,I.hok,I.len⟩
theorem Inv.unwish (I:Inv (X.wish E) pins σ H s):Inv X pins σ H s:=⟨I.ok.unwish,I.os,I.bare,I.base,I.loc,I.cell,I.free,I.freeC,I.pin,I.hok,I.len⟩
theorem SP.unwish {D:Ends} {f:Flow} {s':Shared} (h:SP (X.wish E) pins D f s'):SP X pins D f s':=by
  cases f with
  | next=>obtain ⟨σ',H',I,q⟩:=h;exact ⟨σ',H',I.unwish,q⟩
  | brk=>obtain ⟨σ',H',I,q⟩:=h;exact ⟨σ',H',I.unwish,q⟩
  | cont=>obtain ⟨σ',H',I,q⟩:=h;exact ⟨σ',H',I.unwish,q⟩
  | ret u=>obtain ⟨v,σ',H',I,r,q⟩:=h;exact ⟨v,σ',H',I.unwish,r,q⟩
theorem PT.nox {e:Expr} {t:TT} (h:PT X.nox e t):PT X e t:=fun pins s σ H Q I hw =>
  wpAny_mono (h pins s σ H Q (I.wish _) hw) (fun _ _ ⟨H',I',q⟩=>⟨H',I'.unwish,q⟩) fun _ _ z=>False.elim z
theorem PSs.nox {st:List Stmt} {t:TS} (h:PSs X.nox st t):PSs X st t:=fun pins s σ H D I hw =>
  wpAny_mono (h pins s σ H D (I.wish _) hw) (fun _ _ q=>q.unwish) fun _ _ z=>False.elim z
end
section
variable {X:Cx} {st:Stmt} {rest:List Stmt} {t u:TS} {e:Expr} {te:TE} {pos:Pos}
noncomputable def tNext:TS:=fun D σ H=>D.nx σ H
noncomputable def tSeq (t u:TS):TS:=fun D σ H=>t { D with nx:=u D } σ H
theorem pss_nil:PSs X [] tNext:=fun _ _ σ H _ I h=>wpAny_execs_nil ⟨σ,H,I,h⟩
theorem pss_cons (h1:PS X st t) (h2:PSs X rest u):PSs X (st :: rest) (tSeq t u):=by
  intro pins s σ H D I h
  refine wpAny_execs_cons (thn (h1 pins s σ H { D with nx:=u D } I h) fun f s1 q=>?_)
  cases f with
  | next =>
    obtain ⟨σ',H',I',q⟩:=q
    exact h2 pins s1 σ' H' D I' q
  | ret v=>exact q
  | brk=>exact q
  | cont=>exact q
theorem Inv.quiet {pins:List (Addr × Obj)} {σ:St} {H:Hp} {s:Shared} (I:Inv X pins σ H s):interactive X.env = false:=by simp [interactive,I.ok.kind]
noncomputable def tDrop (te:TE):TS:=fun D σ H=>te σ H fun _ H1=>D.nx σ H1
theorem ps_expr (he:PE X e te) (hs:swapsWith e none pos.line X.env = pure false:=by rfl):PS X (.Expr e pos) (tDrop te):=by
  intro pins s σ H D I h
  exact wpAny_Expr_any (thn (he pins s σ H _ I h) fun v s1 ⟨x,H1,I1,r1,q1⟩=>⟨σ,H1,I1,q1⟩) I.quiet hs
noncomputable def tRet (te:TE):TS:=fun D σ H=>te σ H D.rt
theorem ps_ret (he:PE X e te):PS X (.Return (some e) pos) (tRet te):=by
  intro pins s σ H D I h
  exact wpAny_Return_some (thn (he pins s σ H _ I h) fun v s1 ⟨x,H1,I1,r1,q1⟩=>⟨x,σ,H1,I1,r1,q1⟩)
noncomputable def tIfS (c:TT) (t u:TS):TS:=fun D σ H=>c σ H fun b H1=>if b = true then t D σ H1 else u D σ H1
theorem ps_if {c:Expr} {a b:List Stmt} {tc:TT} (hc:PT X c tc) (ha:PSs X a t) (hb:PSs X b u):PS X (.If c a b pos) (tIfS tc t u):=by
  intro pins s σ H D I h
  refine wpAny_If (thn (hc pins s σ H _ I h) fun d s1 ⟨H1,I1,q1⟩=>?_)
  cases d with
  | true=>exact ha pins s1 σ H1 D I1 q1
  | false=>exact hb pins s1 σ H1 D I1 q1
noncomputable def tNever:TS:=fun _ _ _=>False
theorem ps_never:PS X st tNever:=fun _ _ _ _ _ _ h=>h.elim
end
noncomputable abbrev TG:=V → St → Hp → (St → Hp → Prop) → Prop
noncomputable abbrev TGs:=List V → St → Hp → (St → Hp → Prop) → Prop
noncomputable def PG (X:Cx) (target:Expr) (t:TG):Prop :=
  ∀ (pins:List (Addr × Obj)) (s:Shared) (σ:St) (H:Hp) (v:V) (u:Value) (Q:St → Hp → Prop),Inv X pins σ H s → RelV v u → t v σ H Q →
    wpAny (model X.prog X.w) X.A (assign target X.env u) (fun _ s'=>∃ σ' H',Inv X pins σ' H' s' ∧ Q σ' H') X.xe s
noncomputable def PGs (X:Cx) (ts:List Expr) (t:TGs):Prop :=
  ∀ (pins:List (Addr × Obj)) (s:Shared) (σ:St) (H:Hp) (vs:List V) (us:List Value) (Q:St → Hp → Prop),Inv X pins σ H s → Vals vs us → t vs σ H Q →
    wpAny (model X.prog X.w) X.A (assignInOrder ((assignEach ts X.env).map (·.2)) us) (fun _ s'=>∃ σ' H',Inv X pins σ' H' s' ∧ Q σ' H') X.xe s
noncomputable abbrev TSet:=V → V → V → Hp → (Hp → Prop) → Prop
noncomputable def PSet (X:Cx) (t:TSet):Prop :=
  ∀ (pins:List (Addr × Obj)) (s:Shared) (σ:St) (H:Hp) (o i v:V) (ov iv u:Value) (Q:Hp → Prop),Inv X pins σ H s → RelV o ov → RelV i iv → RelV v u → t o i v H Q →
    wpAny (model X.prog X.w) X.A (setItem ov iv u) (fun _ s'=>∃ H',Inv X pins σ H' s' ∧ Q H') X.xe s
section
variable {X:Cx} {pos:Pos}
noncomputable def gName (i:Nat):TG:=fun v σ H Q=>Q (σ.set i (some v)) H
theorem pg_name {i:Nat} {x:Str} (hN:X.N.Nodup) (hi:X.N[i]? = some x) (hx:Loc X.env.scope x) (hf:X.fn x = true ∨ X.env.scope.names.lookup x = some .local:=by first | exact .inl rfl | exact .inr rfl | assumption):PG X (.Name x pos) (gName i):=by
  intro pins s σ H v u Q I r h
  exact wpAny_assign_Name (store_ok I hN hi hx r (fun s' I'=>⟨_,H,I',h⟩) hf)
noncomputable def gNil:TGs:=fun vs σ H Q=>vs = [] ∧ Q σ H
noncomputable def gCons (t:TG) (u:TGs):TGs:=fun vs σ H Q=>∃ v r,vs = v :: r ∧ t v σ H fun σ' H'=>u r σ' H' Q
theorem pgs_nil:PGs X [] gNil:=by
  intro pins s σ H vs us Q I r h
  obtain ⟨e,h⟩:=h
  subst e
  cases r
  exact assignInOrder_nil ⟨σ,H,I,h⟩
theorem pgs_cons {e:Expr} {es:List Expr} {t:TG} {u:TGs} (h1:PG X e t) (h2:PGs X es u)
    (hs:(assignEach (e :: es) X.env).map (·.2) = assign e X.env :: (assignEach es X.env).map (·.2):=by rfl):PGs X (e :: es) (gCons t u):=by
  intro pins s σ H vs us Q I r h
  obtain ⟨v,vr,e1,h⟩:=h
  subst e1
  cases r with
  | cons r rr =>
    rw [hs]
    refine assignInOrder_cons (thn (h1 pins s σ H _ _ _ I r h) fun _ s1 ⟨σ1,H1,I1,q1⟩=>?_)
    exact h2 pins s1 σ1 H1 _ _ Q I1 rr q1
noncomputable def gTup (K:PySem.W.Frag) (n:Nat) (t:TGs):TG:=fun v σ H Q=>∃ a xs,v = .ref a ∧ SqT K H a xs ∧ xs.length = n ∧ t xs σ H Q
theorem pg_tup {es:List Expr} {k:Nat} {t:TGs} {n:Nat} (hc:X.calm = true) (h:PGs X es t)
    (hn:(assignEach es X.env).length = n:=by rfl) (hst:(assignEach es X.env).findIdx? (·.1) = none:=by rfl):PG X (.Tuple es k pos) (gTup X.K n t):=by
  intro pins s σ H v u Q I r hw
  obtain ⟨a,xs,e1,hq,hl,hw⟩:=hw
  subst e1
  cases r
  obtain ⟨its,rv,ht,hz⟩:=I.tuple hq
  refine assign_Tuple_tuple (I.ok.hd hc) ht (by simp [hn,← hl,rv.length]) hst fun h' hx=>?_
  have I1:Inv X pins σ H { s with heap:=h' }:=I.kept (t':=s.toks) fun b o e=>hx b o (Nat.ne_of_lt (Heap.lt_size e)) e
  exact h pins _ σ H xs _ Q I1 (by simpa using rv) hw
noncomputable def tAsg (te:TE) (g:TG):TS:=fun D σ H=>te σ H fun x H1=>g x σ H1 D.nx
theorem ps_asg {tg e:Expr} {te:TE} {g:TG} (he:PE X e te) (hg:PG X tg g) (hs:swapsWithSole [tg] e pos.line X.env = pure false:=by rfl) (hw:swappedStores [tg] e X.env = pure none:=by rfl)
    (h1:(assignEach [tg] X.env).map (·.2) = [assign tg X.env]:=by rfl):PS X (.Assign [tg] e pos) (tAsg te g):=by
  intro pins s σ H D I h
  refine wpAny_Assign_stores (thn (he pins s σ H _ I h) fun v s1 ⟨x,H1,I1,r1,q1⟩=>?_) hs hw
  rw [h1]
  exact thn (hg pins s1 σ H1 x v _ I1 r1 q1) fun _ s2 q=>q
theorem ps_set {i:Nat} {x:Str} {e:Expr} {te:TE} {pos':Pos} (hN:X.N.Nodup) (hi:X.N[i]? = some x) (hx:Loc X.env.scope x) (he:PE X e te) (hs:swapsWith e (some (.Name x pos')) pos.line X.env = pure false:=by rfl) (hf:X.fn x = true ∨ X.env.scope.names.lookup x = some .local:=by first | exact .inl rfl | exact .inr rfl | assumption) :
    PS X (.Assign [.Name x pos'] e pos) (tAsg te (gName i)):=by
  intro pins s σ H D I h
  refine wpAny_Assign_Name (thn (he pins s σ H _ I h) fun v s1 ⟨y,H1,I1,r1,q1⟩=>?_) hs
  exact store_ok I1 hN hi hx r1 (fun s2 I2=>⟨_,H1,I2,q1⟩) hf
end
section
variable {X:Cx} {pos:Pos}
end
set_option genInjectivity false in
structure It where
  go:Nat → Hp → Prop
  yld:Nat → Hp → V → Hp → Prop
  stop:Nat → Hp → Prop
noncomputable def FpOk (X:Cx) (pins:List (Addr × Obj)) (H:Hp) (b:Addr):Prop :=
  H b = none ∧ b ≠ X.env.locals ∧ b ∉ X.fs ∧ (b ∈ X.ex ∨ X.s₀.heap.objs.size ≤ b) ∧ (∀ x c,X.env.cells.lookup x = some c → c ≠ b) ∧ ∀ p ∈ X.pn ++ pins,p.1 ≠ b
theorem Inv.fpOk {X:Cx} {pins:List (Addr × Obj)} {σ:St} {H H':Hp} {s:Shared} {b:Addr} (I:Inv X pins σ H s) (hb:s.heap.objs.size ≤ b) (hn:H' b = none):FpOk X pins H' b:=by
  refine ⟨hn,Nat.ne_of_gt (Nat.lt_of_lt_of_le I.lt hb),I.nofs hb,.inr (Nat.le_trans I.sz hb),fun x c e z=>?_,fun p hp z=>?_⟩
  · obtain ⟨v,q⟩:=I.cell x c e
    exact absurd (Nat.lt_of_lt_of_le q.lt (by rw [z];exact hb)) (Nat.lt_irrefl _)
  · exact absurd (Nat.lt_of_lt_of_le (Heap.lt_size (I.pin p hp).1) (by rw [z];exact hb)) (Nat.lt_irrefl _)
set_option genInjectivity false in
structure Turn (P:Program) (w:World) (K:PySem.W.Frag) (tg:Expr) (J:It) (fp:List Addr) (it:Addr) (tn:Nat → Heap → Prop):Prop where
  mem:it ∈ fp
  obj:∀ i h,tn i h → ∀ b ∈ fp,∃ o,h.get? b = some o ∧ ∀ v,o.data ≠ .cell v
  keep:∀ i h h',tn i h → (∀ b ∈ fp,∀ o,h.get? b = some o → h'.get? b = some o) → tn i h'
  item:∀ (X:Cx),X.prog = P → X.w = w → X.K = K → X.calm = true → ∀ (i:Nat) (pins:List (Addr × Obj)) (s:Shared) (σ:St) (H:Hp) (E:Value → Shared → Prop),Inv X pins σ H s → (∀ b ∈ fp,FpOk X pins H b) → tn i s.heap → J.go i H →
    wpAny (model P w) X.A (pyNext (.ref it)) (fun r s1=>∃ u,r = some u ∧
      wpAny (model P w) X.A (letOwnedTupleGo tg (.ref it) u) (fun _ s2=>∃ x H',Inv X pins σ H' s2 ∧ RelV x u ∧ J.yld i H x H' ∧ tn (i + 1) s2.heap ∧ ∀ b ∈ fp,H' b = none) E s1) E s
  done:∀ (X:Cx),X.prog = P → X.w = w → X.K = K → X.calm = true → ∀ (i:Nat) (pins:List (Addr × Obj)) (s:Shared) (σ:St) (H:Hp) (E:Value → Shared → Prop),Inv X pins σ H s → (∀ b ∈ fp,FpOk X pins H b) → tn i s.heap → J.stop i H →
    wpAny (model P w) X.A (pyNext (.ref it)) (fun r s1=>r = none ∧ Inv X pins σ H s1) E s
  self:∀ (A:Around) (i:Nat) (s:Shared) (Q:Value → Shared → Prop) (E:Value → Shared → Prop),tn i s.heap → Q (.ref it) s → wpAny (model P w) A (pyIter (.ref it)) Q E s
noncomputable abbrev TI:=St → Hp → (It → Hp → Prop) → Prop
noncomputable def PIE (X:Cx) (pins:List (Addr × Obj)) (σ:St) (tg:Expr) (R:It → Hp → Prop) (itv:Value) (s2:Shared):Prop :=
  ∃ (it:Addr) (fp:List Addr) (tn:Nat → Heap → Prop) (J:It) (H':Hp),itv = .ref it ∧ Inv X pins σ H' s2 ∧ Turn X.prog X.w X.K tg J fp it tn ∧ tn 0 s2.heap ∧ (∀ b ∈ fp,FpOk X pins H' b) ∧ R J H'
noncomputable def PI (X:Cx) (tg iter:Expr) (wi:TI):Prop :=
  ∀ (pins:List (Addr × Obj)) (s:Shared) (σ:St) (H:Hp) (R:It → Hp → Prop),Inv X pins σ H s → wi σ H R →
    wpAny (model X.prog X.w) X.A (eval iter X.env) (fun v s1=>wpAny (model X.prog X.w) X.A (pyIter v) (PIE X pins σ tg R) X.xe s1) X.xe s
theorem go_of {M:Model} {A:Around} {E:Value → Shared → Prop} {s:Shared} {tg:Expr} {it:Addr} {u:Value} {o:Obj} {n:String} {vs:Array Value} {Q:Unit → Shared → Prop} (ho:s.heap.get? it = some o) (hc:o.cls = .type n) (hd:o.data = .fields vs)
    (hn:["enumerate", "zip", "dict_itemiterator", "dict_reverseitemiterator", "odict_iterator", "itertools.zip_longest", "itertools.pairwise"].contains n = false) (hQ:Q () s):wpAny M A (letOwnedTupleGo tg (.ref it) u) Q E s:=by
  unfold letOwnedTupleGo
  cases tg <;> first
    | exact wpAny_pure hQ
    | (cases u <;> first
        | exact wpAny_pure hQ
        | (refine wpAny_bind (wpAny_load ho ?_)
           rw [hc,hd]
           show wpAny M A (if (["enumerate", "zip", "dict_itemiterator", "dict_reverseitemiterator", "odict_iterator", "itertools.zip_longest", "itertools.pairwise"].contains n && vs[0]? == some (rawInt _)) = true then _ else _) Q E s
           rw [if_neg (by intro h;rw [hn,Bool.false_and] at h;cases h)]
           exact wpAny_pure hQ))
noncomputable def Itl (K:PySem.W.Frag) (a:Addr):It :=
  ⟨fun i H=>∃ xs x,SqL K H a xs ∧ xs[i]? = some x,fun i H x H'=>H' = H ∧ ∀ xs,SqL K H a xs → xs[i]? = some x,fun i H=>∃ xs,SqL K H a xs ∧ xs.length ≤ i⟩
noncomputable def Itt (K:PySem.W.Frag) (a:Addr):It :=
  ⟨fun i H=>∃ xs x,SqT K H a xs ∧ xs[i]? = some x,fun i H x H'=>H' = H ∧ ∀ xs,SqT K H a xs → xs[i]? = some x,fun i H=>∃ xs,SqT K H a xs ∧ xs.length ≤ i⟩
noncomputable def Itr (lo:Int) (n:Nat):It:=⟨fun i _=>i < n,fun i H x H'=>H' = H ∧ x = .int (lo + i),fun i _=>n ≤ i⟩
theorem turn_list {P:Program} {w:World} {K:PySem.W.Frag} {tg:Expr} (a it:Addr):Turn P w K tg (Itl K a) [it] it (fun i h=>h.IsListIter it a i) where
  mem:=by simp
  obj:=fun i h st b hb=>by
    have e:b = it:=by simpa using hb
    subst e
    obtain ⟨o,e,c,d⟩:=st
    exact ⟨o,e,fun v z=>by rw [d] at z;cases z⟩
  keep:=fun i h h' st k=>st.at fun o e=>k it (by simp) o e
  item:=by
    intro X hP hw hK hc i pins s σ H E I hf st hg
    subst hP hw hK
    obtain ⟨xs,x,hq,hx⟩:=hg
    obtain ⟨its,rv,p,hz⟩:=I.list hq
    obtain ⟨u,hu,ru⟩:=rv.get hx
    obtain ⟨f0,f1,f2,f3,f4,f5⟩:=hf it (by simp)
    refine wpAny_pyNext_list_item st p.isList (x:=u) (by simpa using hu) fun h' st' sb=>?_
    have I1:Inv X pins σ H { s with heap:=h' }:=I.turned (t':=s.toks) (fun b o hb e=>(sb.2 b hb).trans e) f0 f1 f3 f4 f5
    obtain ⟨o,e,c,d⟩:=id st'
    exact ⟨u,rfl,go_of (s:={ s with heap:=h' }) e c d (by decide) ⟨x,H,I1,ru,⟨rfl,fun ys hy=>by rw [I.list_inj hy hq];exact hx⟩,st',fun b hb=>(hf b hb).1⟩⟩
  done:=by
    intro X hP hw hK hc i pins s σ H E I hf st hg
    subst hP hw hK
    obtain ⟨xs,hq,hx⟩:=hg
    obtain ⟨its,rv,p,hz⟩:=I.list hq
    obtain ⟨f0,f1,f2,f3,f4,f5⟩:=hf it (by simp)
    have hl:=rv.length
    exact wpAny_pyNext_list_end (I.ok.hd hc) st p.isList (by simp;(first | lia | omega)) fun h' eb=>⟨rfl,I.turned (t':=s.toks) (fun b o hb e=>eb b o hb e) f0 f1 f3 f4 f5⟩
  self:=fun _ _ _ _ _ st h=>wpAny_pyIter_listiter st h
theorem turn_tuple {P:Program} {w:World} {K:PySem.W.Frag} {tg:Expr} (a it:Addr):Turn P w K tg (Itt K a) [it] it (fun i h=>h.IsTupleIter it a i) where
  mem:=by simp
  obj:=fun i h st b hb=>by
    have e:b = it:=by simpa using hb
    subst e
    obtain ⟨o,e,c,d⟩:=st
    exact ⟨o,e,fun v z=>by rw [d] at z;cases z⟩
  keep:=fun i h h' st k=>st.at fun o e=>k it (by simp) o e
  item:=by
    intro X hP hw hK hc i pins s σ H E I hf st hg
    subst hP hw hK
    obtain ⟨xs,x,hq,hx⟩:=hg
    obtain ⟨its,rv,p,hz⟩:=I.tuple hq
    obtain ⟨u,hu,ru⟩:=rv.get hx
    obtain ⟨f0,f1,f2,f3,f4,f5⟩:=hf it (by simp)
    refine wpAny_pyNext_tuple_item st (show s.heap.IsTuple a its.toArray from p) (x:=u) (by simpa using hu) fun h' st' sb=>?_
    have I1:Inv X pins σ H { s with heap:=h' }:=I.turned (t':=s.toks) (fun b o hb e=>(sb.2 b hb).trans e) f0 f1 f3 f4 f5
    obtain ⟨o,e,c,d⟩:=id st'
    exact ⟨u,rfl,go_of (s:={ s with heap:=h' }) e c d (by decide) ⟨x,H,I1,ru,⟨rfl,fun ys hy=>by rw [I.tuple_inj hy hq];exact hx⟩,st',fun b hb=>(hf b hb).1⟩⟩
  done:=by
    intro X hP hw hK hc i pins s σ H E I hf st hg
    subst hP hw hK
    obtain ⟨xs,hq,hx⟩:=hg
    obtain ⟨its,rv,p,hz⟩:=I.tuple hq
    obtain ⟨f0,f1,f2,f3,f4,f5⟩:=hf it (by simp)
    have hl:=rv.length
    exact wpAny_pyNext_tuple_end (I.ok.hd hc) st (show s.heap.IsTuple a its.toArray from p) (by simp;(first | lia | omega)) fun h' eb=>⟨rfl,I.turned (t':=s.toks) (fun b o hb e=>eb b o hb e) f0 f1 f3 f4 f5⟩
  self:=fun _ _ _ _ _ st h=>wpAny_pyIter_tupleiter st h
theorem turn_range {P:Program} {w:World} {K:PySem.W.Frag} {tg:Expr} (it:Addr) (lo:Int) (n:Nat):Turn P w K tg (Itr lo n) [it] it (fun i h=>IsRangeIter h it (lo + (i:Nat) * 1) ((n:Int) - (i:Nat)) 1) where
  mem:=by simp
  obj:=fun i h st b hb=>by
    have e:b = it:=by simpa using hb
    subst e
    exact ⟨_,st,fun v z=>by
      have z':Data.fields _ = Data.cell v:=z
      cases z'⟩
  keep:=fun i h h' st k=>k it (by simp) _ st
  item:=by
    intro X hP hw hK hc i pins s σ H E I hf st hg
    subst hP hw hK
    obtain ⟨f0,f1,f2,f3,f4,f5⟩:=hf it (by simp)
    have W:=Walks.range (prog:=X.prog) (w:=X.w) (I.ok.hd hc) it lo 1 n
    refine W.item i s _ _ hg st fun v h' tk hv st' kk=>?_
    obtain ⟨t,rfl⟩:=hv
    have I1:Inv X pins σ H { s with heap:=h',toks:=tk }:=I.turned (fun b o hb e=>kk b o (by simpa using hb) e) f0 f1 f3 f4 f5
    refine ⟨_,rfl,go_of (s:={ s with heap:=h',toks:=tk }) (n := "range_iterator") st' rfl rfl (by decide) ⟨.int (lo + i),H,I1,⟨t,?_⟩,⟨rfl,rfl⟩,st',fun b hb=>(hf b hb).1⟩⟩
    rw [Int.mul_one]
  done:=by
    intro X hP hw hK hc i pins s σ H E I hf st hg
    subst hP hw hK
    obtain ⟨f0,f1,f2,f3,f4,f5⟩:=hf it (by simp)
    exact wpAny_pyNext_range_end (I.ok.hd hc) st (by have:n ≤ i:=hg;(first | lia | omega)) fun h' eb=>⟨rfl,I.turned (t':=s.toks) (fun b o hb e=>eb b o hb e) f0 f1 f3 f4 f5⟩
  self:=fun _ _ _ _ _ st h=>wpAny_pyIter_rangeiter st h
end L2
namespace L2
open PySem PySem.Spec PyProof.Rows
section
variable {X:Cx} {tg:Expr}
theorem range_it {pins:List (Addr × Obj)} {σ:St} {H:Hp} {s:Shared} {R:It → Hp → Prop} {E:Value → Shared → Prop} {lo hi:Int} {t u v:Tok} {tk:Nat} (I:Inv X pins σ H s) (h1:-(2 ^ 62) ≤ lo) (h2:lo < 2 ^ 62) (h3:-(2 ^ 62) ≤ hi) (h4:hi < 2 ^ 62)
    (q:R (Itr lo (hi - lo).toNat) H):wpAny (model X.prog X.w) X.A (pyIter (.ref s.heap.objs.size)) (PIE X pins σ tg R) E { s with heap:=s.heap.push { cls:=.type "range", data:=.fields #[.int lo t,.int hi u,.int 1 v] },toks:=tk }:=by
  refine wpAny_pyIter_range (IsRange.new ..) (small_one h1 h2 h3 h4) ?_
  have I1:Inv X pins σ H { s with heap:=s.heap.push { cls:=.type "range", data:=.fields #[.int lo t,.int hi u,.int 1 v] },toks:=tk }:=I.kept fun b o e=>Heap.get?_push_of_some _ e
  refine ⟨(s.heap.push { cls:=.type "range", data:=.fields #[.int lo t,.int hi u,.int 1 v] }).objs.size,[(s.heap.push { cls:=.type "range", data:=.fields #[.int lo t,.int hi u,.int 1 v] }).objs.size],_,_,H,rfl,
    I1.kept (t':=tk) fun b o e=>Heap.get?_push_of_some _ e,turn_range _ lo (hi - lo).toNat,?_,fun b hb=>?_,q⟩
  · have e1:lo + ((0:Nat):Int) * 1 = lo:=by simp
    have e2:(((hi - lo).toNat:Nat):Int) - ((0:Nat):Int) = Builtin.Range.rangeSize lo hi 1:=by rw [rangeSize_one];split <;> (first | lia | omega)
    show IsRangeIter _ _ (lo + ((0:Nat):Int) * 1) ((((hi - lo).toNat:Nat):Int) - ((0:Nat):Int)) 1
    rw [e1,e2]
    exact Heap.get?_push_size _ rfl
  · have e:b = (s.heap.push { cls:=.type "range", data:=.fields #[.int lo t,.int hi u,.int 1 v] }).objs.size:=by simpa using hb
    subst e
    exact I1.fpOk (Nat.le_refl _) (I1.hok.fresh (Nat.le_refl _))
noncomputable def iRng1 (ta:TA):TI:=fun σ H R=>ta σ H fun vs H1=>∃ j:Int,vs = [.int j] ∧ -(2 ^ 62) ≤ j ∧ j < 2 ^ 62 ∧ R (Itr 0 j.toNat) H1
noncomputable def iRng2 (ta:TA):TI:=fun σ H R=>ta σ H fun vs H1=>∃ i j:Int,vs = [.int i,.int j] ∧ (-(2 ^ 62) ≤ i ∧ i < 2 ^ 62 ∧ -(2 ^ 62) ≤ j ∧ j < 2 ^ 62) ∧ R (Itr i (j - i).toNat) H1
theorem pi_range1 {a:Expr} {ta:TA} {p pos:Pos} (hg:Gl X "range") (hm:X.mg "range" = none) (ha:PA X [a] ta) (hs:starEach [a] X.env = [(false,eval a X.env)]:=by rfl):PI X tg (.Call (.Name "range" p) [a] [] pos) (iRng1 ta):=by
  intro pins s σ H R I h
  refine Call_ (ld_blt I hg hm boot_range (PyProof.Rows.callWith_type1 (thn (ha pos pins s σ H _ I h) fun us s1 ⟨vs,H1,I1,r1,q1⟩=>?_) hs rfl))
  obtain ⟨j,e,q1,q2,q⟩:=q1
  subst e
  cases r1 with
  | cons r rr =>
    cases rr
    obtain ⟨t,rfl⟩:=r
    exact call_range_1 (range_it I1 (by (first | lia | omega)) (by (first | lia | omega)) q1 q2 (by simpa using q))
theorem pi_range2 {a b:Expr} {ta:TA} {p pos:Pos} (hg:Gl X "range") (hm:X.mg "range" = none) (ha:PA X [a,b] ta) (hs:starEach [a,b] X.env = [(false,eval a X.env),(false,eval b X.env)]:=by rfl) (hs2:starEach [b] X.env = [(false,eval b X.env)]:=by rfl) :
    PI X tg (.Call (.Name "range" p) [a,b] [] pos) (iRng2 ta):=by
  intro pins s σ H R I h
  refine Call_ (ld_blt I hg hm boot_range (PyProof.Rows.callWith_type1 (thn (ha pos pins s σ H _ I h) fun us s1 ⟨vs,H1,I1,r1,q1⟩=>?_) (by rw [hs,hs2]) (by rw [hs2];rfl)))
  obtain ⟨i,j,e,⟨q1,q2,q3,q4⟩,q⟩:=q1
  subst e
  cases r1 with
  | cons r rr =>
    cases rr with
    | cons r' rr =>
      cases rr
      obtain ⟨t,rfl⟩:=r
      obtain ⟨t',rfl⟩:=r'
      exact call_range_2 (range_it I1 q1 q2 q3 q4 q)
noncomputable def tFor (wi:TI) (g:TG) (tb:TS):TS:=fun D σ H=>wi σ H fun J H1=>∃ W:Nat → Nat → St → Hp → Prop,(∃ m,W 0 m σ H1) ∧ ∀ i m σ H,W i m σ H →
  (J.stop i H ∧ D.nx σ H) ∨ (J.go i H ∧ ∃ N:St → Hp → Prop,(∀ σ' H',N σ' H' → ∃ m',m' < m ∧ W (i + 1) m' σ' H') ∧ ∀ x H',J.yld i H x H' → g x σ H' fun σ2 H2=>tb { D with nx:=N,ct:=N,bk:=D.nx } σ2 H2)
noncomputable def pinsAt (fp:List Addr) (h:Heap):List (Addr × Obj):=fp.filterMap fun b=>(h.get? b).map fun o=>(b,o)
theorem mem_pinsAt {fp:List Addr} {h:Heap} {b:Addr} {o:Obj} (hb:b ∈ fp) (e:h.get? b = some o):(b,o) ∈ pinsAt fp h:=List.mem_filterMap.mpr ⟨b,hb,by rw [e];rfl⟩
theorem of_pinsAt {fp:List Addr} {h:Heap} {p:Addr × Obj} (hp:p ∈ pinsAt fp h):p.1 ∈ fp ∧ h.get? p.1 = some p.2:=by
  obtain ⟨b,hb,e⟩:=List.mem_filterMap.mp hp
  cases q:h.get? b with
  | none=>rw [q] at e;cases e
  | some o =>
    rw [q] at e
    have e':(b,o) = p:=Option.some.inj e
    subst e'
    exact ⟨hb,q⟩
theorem Inv.pinned {pins:List (Addr × Obj)} {σ:St} {H:Hp} {s:Shared} {fp:List Addr} (I:Inv X pins σ H s) (hf:∀ b ∈ fp,FpOk X pins H b) (ho:∀ b ∈ fp,∃ o,s.heap.get? b = some o ∧ ∀ v,o.data ≠ .cell v):Inv X (pins ++ pinsAt fp s.heap) σ H s :=
  I.pins_of fun p hp=>(List.mem_append.mp hp).elim (fun z=>I.pin p (List.mem_append_right _ z)) fun z=>by
    obtain ⟨hb,e⟩:=of_pinsAt z
    obtain ⟨f0,f1,f2,_⟩:=hf p.1 hb
    obtain ⟨o,e',d⟩:=ho p.1 hb
    rw [e] at e';cases e'
    exact ⟨e,f0,f1,f2,d⟩
theorem Inv.unpinned {pins pl:List (Addr × Obj)} {σ:St} {H:Hp} {s:Shared} (I:Inv X (pins ++ pl) σ H s):Inv X pins σ H s:=I.pins_of fun p hp=>I.pin p (List.mem_append_right _ (List.mem_append_left _ hp))
theorem ps_for {iter:Expr} {body:List Stmt} {wi:TI} {g:TG} {tb:TS} {pos:Pos} (hp:PassesOwn (model X.prog X.w) X.A X.env X.xe) (hc:X.calm = true) (hi:PI X tg iter wi) (hg:PG X tg g) (hb:PSs X body tb)
    (hs:∀ x,foldedSetIterable iter X.env x = pure x:=by intro _;rfl):PS X (.For tg iter body [] pos) (tFor wi g tb):=by
  intro pins s σ H D I h
  refine wpAny_For (thn (hi pins s σ H _ I h) fun v s1 h1=>thn h1 fun itv s2 h2=>?_) hs
  obtain ⟨it,fp,tn,J,H2,e,I2,T,st2,f2,W,⟨m0,w0⟩,turn⟩:=h2
  subst e
  have stat:∀ {H':Hp},(∀ b ∈ fp,H' b = none) → ∀ b ∈ fp,FpOk X pins H' b:=fun hn b hb=>⟨hn b hb,(f2 b hb).2⟩
  refine codeAny_forLoop_any (fun n s'=>∃ i σ' H',Inv X pins σ' H' s' ∧ tn i s'.heap ∧ (∀ b ∈ fp,H' b = none) ∧ W i n σ' H') ?_ m0 ⟨0,σ,H2,I2,st2,fun b hb=>(f2 b hb).1,w0⟩
  rintro n s3 ⟨i,σ3,H3,I3,st3,fr3,w3⟩
  rcases turn i n σ3 H3 w3 with ⟨stop,qn⟩ | ⟨go,N,hN,step⟩
  · refine wpAny_passesOwn hp (thn (T.done X rfl rfl rfl hc i pins s3 σ3 H3 X.xe I3 (stat fr3) st3 stop) fun r s4 ⟨hr,I4⟩=>?_)
    subst hr
    exact wpAny_execs_nil ⟨σ3,H3,I4,qn⟩
  · refine wpAny_passesOwn hp (thn (T.item X rfl rfl rfl hc i pins s3 σ3 H3 X.xe I3 (stat fr3) st3 go) fun r s4 ⟨u,hr,h4⟩=>?_)
    subst hr
    refine wpAny_passesOwn hp (thn h4 fun _ s5 ⟨x,H5,I5,r5,y5,st5,fr5⟩=>?_)
    have I5':=I5.pinned (stat fr5) (T.obj _ _ st5)
    refine wpAny_passesOwn hp (thn (hg _ s5 σ3 H5 x u _ I5' r5 (step x H5 y5)) fun _ s6 ⟨σ6,H6,I6,q6⟩=>?_)
    refine wpAny_passesOwn hp (thn (hb _ s6 σ6 H6 _ I6 q6) fun f s7 q7=>?_)
    have again:∀ {σ7:St} {H7:Hp},Inv X (pins ++ pinsAt fp s5.heap) σ7 H7 s7 → N σ7 H7 → ∃ m,m < n ∧ ∃ i σ' H',Inv X pins σ' H' s7 ∧ tn i s7.heap ∧ (∀ b ∈ fp,H' b = none) ∧ W i m σ' H':=fun {σ7 H7} I7 n7=>by
      obtain ⟨m',hm,w7⟩:=hN σ7 H7 n7
      refine ⟨m',hm,i + 1,σ7,H7,I7.unpinned,T.keep _ _ _ st5 fun b hb o e=>(I7.pin (b,o) (List.mem_append_right _ (List.mem_append_right _ (mem_pinsAt hb e)))).1,fun b hb=>?_,w7⟩
      obtain ⟨o,e,d⟩:=T.obj _ _ st5 b hb
      exact (I7.pin (b,o) (List.mem_append_right _ (List.mem_append_right _ (mem_pinsAt hb e)))).2.1
    cases f with
    | next=>obtain ⟨σ7,H7,I7,n7⟩:=q7;exact again I7 n7
    | cont=>obtain ⟨σ7,H7,I7,n7⟩:=q7;exact again I7 n7
    | brk=>obtain ⟨σ7,H7,I7,q7⟩:=q7;exact ⟨σ7,H7,I7.unpinned,q7⟩
    | ret v=>obtain ⟨x7,σ7,H7,I7,r7,q7⟩:=q7;exact ⟨x7,σ7,H7,I7.unpinned,r7,q7⟩
end
end L2
namespace L2
open PySem PySem.Spec PyProof.Rows
noncomputable abbrev R2:=V → V → Hp → VK → Prop
noncomputable def OpR (X:Cx) (f:Value → Value → Sem Value) (r:R2):Prop :=
  ∀ (pins:List (Addr × Obj)) (s:Shared) (σ:St) (H:Hp) (x y:V) (v u:Value) (Q:VK),Inv X pins σ H s → RelV x v → RelV y u → r x y H Q →
    wpAny (model X.prog X.w) X.A (f v u) (EP X pins σ Q) X.xe s
noncomputable def UnR (X:Cx) (f:Value → Sem Value) (r:V → Hp → VK → Prop):Prop :=
  ∀ (pins:List (Addr × Obj)) (s:Shared) (σ:St) (H:Hp) (x:V) (v:Value) (Q:VK),Inv X pins σ H s → RelV x v → r x H Q →
    wpAny (model X.prog X.w) X.A (f v) (EP X pins σ Q) X.xe s
noncomputable def CallR (X:Cx) (f:Value) (r:List V → Hp → VK → Prop):Prop :=
  ∀ (pins:List (Addr × Obj)) (s:Shared) (σ:St) (H:Hp) (xs:List V) (us:List Value) (Q:VK),Inv X pins σ H s → Vals xs us → r xs H Q →
    wpAny (model X.prog X.w) X.A (call f us) (EP X pins σ Q) X.xe s
noncomputable def TruR (X:Cx) (r:V → Hp → (Bool → Hp → Prop) → Prop):Prop :=
  ∀ (pins:List (Addr × Obj)) (s:Shared) (σ:St) (H:Hp) (x:V) (v:Value) (Q:Bool → Hp → Prop),Inv X pins σ H s → RelV x v → r x H Q →
    wpAny (model X.prog X.w) X.A (truthy v) (TP X pins σ Q) X.xe s
noncomputable def tOp (r:R2) (ta tb:TE):TE:=fun σ H Q=>ta σ H fun x H1=>tb σ H1 fun y H2=>r x y H2 Q
noncomputable def tUn (r:V → Hp → VK → Prop) (ta:TE):TE:=fun σ H Q=>ta σ H fun x H1=>r x H1 Q
noncomputable def rI (C:Int → Int → Prop) (g:Int → Int → V):R2:=fun x y H Q=>∃ i j,x = .int i ∧ y = .int j ∧ C i j ∧ Q (g i j) H
noncomputable def rI0 (g:Int → Int → V):R2:=fun x y H Q=>∃ i j,x = .int i ∧ y = .int j ∧ Q (g i j) H
noncomputable def rU (g:Int → V):V → Hp → VK → Prop:=fun x H Q=>∃ i,x = .int i ∧ Q (g i) H
section
variable {X:Cx} {a b c:Expr} {ta tb tc:TE} {pos:Pos}
theorem binT (ha:PE X a ta) (hb:PE X b tb) {pins:List (Addr × Obj)} {s:Shared} {σ:St} {H:Hp} {R:V → V → Hp → Prop} (I:Inv X pins σ H s)
    (h:ta σ H fun x H1=>tb σ H1 fun y H2=>R x y H2) {Q:Value → Shared → Prop} {f:Value → Value → Sem Value}
    (hf:∀ v u s2 x y H2,Inv X pins σ H2 s2 → RelV x v → RelV y u → R x y H2 → wpAny (model X.prog X.w) X.A (f v u) Q X.xe s2) :
    wpAny (model X.prog X.w) X.A (eval a X.env) (fun v s₁=>wpAny (model X.prog X.w) X.A (eval b X.env) (fun u s₂=>wpAny (model X.prog X.w) X.A (f v u) Q X.xe s₂) X.xe s₁) X.xe s:=by
  refine thn (ha pins s σ H _ I h) fun v s1 ⟨x,H1,I1,r1,q1⟩=>?_
  refine thn (hb pins s1 σ H1 _ I1 q1) fun u s2 ⟨y,H2,I2,r2,q2⟩=>?_
  exact hf v u s2 x y H2 I2 r1 r2 q2
theorem pe_op {op:Operator} {r:R2} (ho:OpR X (binaryOp op) r) (ha:PE X a ta) (hb:PE X b tb):PE X (.BinOp a op b pos) (tOp r ta tb):=by
  intro pins s σ H Q I h
  exact wpAny_BinOp (binT ha hb I h fun v u s2 x y H2 I2 rx ry q=>ho pins s2 σ H2 x y v u Q I2 rx ry q)
theorem pe_un {op:UnaryOp} {r:V → Hp → VK → Prop} (ho:UnR X (unaryOp op) r) (ha:PE X a ta):PE X (.UnaryOp op a pos) (tUn r ta):=by
  intro pins s σ H Q I h
  exact UnaryOp_ (thn (ha pins s σ H _ I h) fun v s1 ⟨x,H1,I1,r1,q1⟩=>ho pins s1 σ H1 x v Q I1 r1 q1)
theorem opI {f:Value → Value → Sem Value} {C:Int → Int → Prop} {g:Int → Int → Int}
    (rule:∀ (i j:Int) (t u:Tok) (s:Shared) (Q:Value → Shared → Prop) (E:Value → Shared → Prop),C i j → Q (.int (g i j) s.toks) { s with toks:=s.toks + 1 } → wpAny (model X.prog X.w) X.A (f (.int i t) (.int j u)) Q E s) :
    OpR X f (rI C fun i j=>.int (g i j)):=by
  intro pins s σ H x y v u Q I rx ry h
  obtain ⟨i,j,rfl,rfl,hc,q⟩:=h
  obtain ⟨t,rfl⟩:=rx
  obtain ⟨t',rfl⟩:=ry
  exact rule i j t t' s _ _ hc ⟨.int (g i j),H,I.tok _,⟨_,rfl⟩,q⟩
theorem opI0 {f:Value → Value → Sem Value} {g:Int → Int → Int}
    (rule:∀ (i j:Int) (t u:Tok) (s:Shared) (Q:Value → Shared → Prop) (E:Value → Shared → Prop),Q (.int (g i j) s.toks) { s with toks:=s.toks + 1 } → wpAny (model X.prog X.w) X.A (f (.int i t) (.int j u)) Q E s) :
    OpR X f (rI0 fun i j=>.int (g i j)):=by
  intro pins s σ H x y v u Q I rx ry h
  obtain ⟨i,j,rfl,rfl,q⟩:=h
  obtain ⟨t,rfl⟩:=rx
  obtain ⟨t',rfl⟩:=ry
  exact rule i j t t' s _ _ ⟨.int (g i j),H,I.tok _,⟨_,rfl⟩,q⟩
theorem opB0 {f:Value → Value → Sem Value} {g:Int → Int → Bool}
    (rule:∀ (i j:Int) (t u:Tok) (s:Shared) (Q:Value → Shared → Prop) (E:Value → Shared → Prop),Q (.bool (g i j)) s → wpAny (model X.prog X.w) X.A (f (.int i t) (.int j u)) Q E s) :
    OpR X f (rI0 fun i j=>.bl (g i j)):=by
  intro pins s σ H x y v u Q I rx ry h
  obtain ⟨i,j,rfl,rfl,q⟩:=h
  obtain ⟨t,rfl⟩:=rx
  obtain ⟨t',rfl⟩:=ry
  exact rule i j t t' s _ _ ⟨.bl (g i j),H,I,rfl,q⟩
noncomputable def CDiv (i j:Int):Prop:=0 < j ∧ j < 1073741824
noncomputable def CPow (i j:Int):Prop:=0 ≤ j ∧ j ≤ 1000000 ∧ i.natAbs < 2 ^ 64
noncomputable def CMul (i j:Int):Prop:=(-(2 ^ 64) < i ∧ i < 2 ^ 64) ∨ (-(2 ^ 64) < j ∧ j < 2 ^ 64)
theorem CMul.ok {i j:Int} (h:CMul i j):IntMulOk i j:=by
  rcases h with ⟨h1,h2⟩ | ⟨h1,h2⟩
  · exact .of_left (intBits_le_64 h1 h2)
  · exact .of_right (intBits_le_64 h1 h2)
theorem op_add:OpR X (binaryOp .Add) (rI0 fun i j=>.int (i + j)):=opI0 fun _ _ _ _ _ _ _ q=>add_int q
theorem op_sub:OpR X (binaryOp .Sub) (rI0 fun i j=>.int (i - j)):=opI0 fun _ _ _ _ _ _ _ q=>sub_int q
theorem op_mul:OpR X (binaryOp .Mult) (rI CMul fun i j=>.int (i * j)):=opI fun _ _ _ _ _ _ _ hc q=>mul_int q hc.ok
theorem op_fdiv:OpR X (binaryOp .FloorDiv) (rI CDiv fun i j=>.int (i / j)):=opI fun i j _ _ _ _ _ hc q=>by
  have h1:(0:Int) < j:=hc.1
  have h2:j < 1073741824:=hc.2
  exact floordiv_int (by (first | lia | omega)) (by rw [Int.fdiv_eq_ediv_of_nonneg i (by (first | lia | omega))];exact q) (.inl (PyProof.noPylong_small (by (first | lia | omega))))
theorem op_mod:OpR X (binaryOp .Mod) (rI (fun _ j=>0 < j) fun i j=>.int (i % j)):=opI fun i j _ _ _ _ _ hc q=>by
  have h1:(0:Int) < j:=hc
  exact mod_int' (by (first | lia | omega)) (by rw [Int.fmod_eq_emod_of_nonneg i (by (first | lia | omega))];exact q)
theorem op_pow:OpR X (binaryOp .Pow) (rI CPow fun i j=>.int (i ^ j.toNat)):=opI fun _ _ _ _ _ _ _ hc q=>pow_int_small hc.1 hc.2.1 hc.2.2 q
theorem unI {f:Value → Sem Value} {g:Int → Int}
    (rule:∀ (i:Int) (t:Tok) (s:Shared) (Q:Value → Shared → Prop) (E:Value → Shared → Prop),Q (.int (g i) s.toks) { s with toks:=s.toks + 1 } → wpAny (model X.prog X.w) X.A (f (.int i t)) Q E s) :
    UnR X f (rU fun i=>.int (g i)):=by
  intro pins s σ H x v Q I rx h
  obtain ⟨i,rfl,q⟩:=h
  obtain ⟨t,rfl⟩:=rx
  exact rule i t s _ _ ⟨.int (g i),H,I.tok _,⟨_,rfl⟩,q⟩
theorem un_neg:UnR X (unaryOp .USub) (rU fun i=>.int (-i)):=unI fun _ _ _ _ _ q=>neg_int q
end
section
variable {X:Cx} {a b c:Expr} {ta tb tc:TE} {pos:Pos}
theorem fin_bl {pins:List (Addr × Obj)} {σ:St} {H:Hp} {s:Shared} {Q:VK} {k k':Bool} (I:Inv X pins σ H s) (q:Q (.bl k) H) (e:k = k'):EP X pins σ Q (.bool k') s:=by
  subst e
  exact ⟨.bl k,H,I,rfl,q⟩
theorem op_lt:OpR X (compareOp .Lt) (rI0 fun i j=>.bl (decide (i < j))):=opB0 fun _ _ _ _ _ _ _ q=>lt_int q
theorem op_le:OpR X (compareOp .LtE) (rI0 fun i j=>.bl (decide (i ≤ j))):=opB0 fun _ _ _ _ _ _ _ q=>le_int q
theorem op_gt:OpR X (compareOp .Gt) (rI0 fun i j=>.bl (decide (j < i))):=opB0 fun _ _ _ _ _ _ _ q=>gt_int q
theorem op_ge:OpR X (compareOp .GtE) (rI0 fun i j=>.bl (decide (j ≤ i))):=opB0 fun _ _ _ _ _ _ _ q=>ge_int q
theorem op_in_str:OpR X (compareOp .In) (fun x y H Q=>∃ i j,x = .str i ∧ y = .str j ∧ Q (.bl (!(Builtin.Str.occurrences j i 0 j.length 1).isEmpty)) H):=by
  intro pins s σ H x y v u Q I rx ry h
  obtain ⟨i,j,rfl,rfl,q⟩:=h
  obtain ⟨t,rfl⟩:=rx
  obtain ⟨t',rfl⟩:=ry
  exact in_str (fin_bl I q rfl)
theorem op_isN:OpR X (compareOp .Is) (fun x y H Q=>y = .non ∧ Q (.bl (decide (x = .non))) H):=by
  intro pins s σ H x y v u Q I rx ry h
  obtain ⟨rfl,q⟩:=h
  cases ry
  refine is_none_gen (fin_bl I q ?_)
  cases x <;> first
    | (cases rx;rfl)
    | (obtain ⟨t,rfl⟩:=rx;rfl)
theorem op_notN:OpR X (compareOp .IsNot) (fun x y H Q=>y = .non ∧ Q (.bl (!decide (x = .non))) H):=by
  intro pins s σ H x y v u Q I rx ry h
  obtain ⟨rfl,q⟩:=h
  cases ry
  refine isnot_none_gen (fin_bl I q ?_)
  cases x <;> first
    | (cases rx;rfl)
    | (obtain ⟨t,rfl⟩:=rx;rfl)
theorem op_notin_str:OpR X (compareOp .NotIn) (fun x y H Q=>∃ i j,x = .str i ∧ y = .str j ∧ Q (.bl (!(!(Builtin.Str.occurrences j i 0 j.length 1).isEmpty))) H):=by
  intro pins s σ H x y v u Q I rx ry h
  obtain ⟨i,j,rfl,rfl,q⟩:=h
  obtain ⟨t,rfl⟩:=rx
  obtain ⟨t',rfl⟩:=ry
  exact notIn_str (fin_bl I q rfl)
theorem pe_cmpR {op:CmpOp} {r:R2} (ho:OpR X (compareOp op) r) (ha:PE X a ta) (hb:PE X b tb) (hm:behindInMarks op b = false):PE X (.Compare a [op] [b] pos) (tOp r ta tb):=by
  intro pins s σ H Q I h
  exact wpAny_Compare1 (binT ha hb I h fun v u s2 x y H2 I2 rx ry q=>ho pins s2 σ H2 x y v u Q I2 rx ry q) hm
noncomputable def tTest (t:TE):TT:=fun σ H Q=>t σ H fun x H'=>∃ k,x = .bl k ∧ Q k H'
theorem pt_cmpR {op:CmpOp} {r:R2} (ho:OpR X (compareOp op) r) (ha:PE X a ta) (hb:PE X b tb) (hm:behindInMarks op b = false):PT X (.Compare a [op] [b] pos) (tTest (tOp r ta tb)):=by
  intro pins s σ H Q I h
  refine wpAny_isTrue_Compare1 (thn (ha pins s σ H _ I h) fun v s1 ⟨x,H1,I1,r1,q1⟩=>thn (hb pins s1 σ H1 _ I1 q1) fun u s2 ⟨y,H2,I2,r2,q2⟩ =>
    thn (ho pins s2 σ H2 x y v u _ I2 r1 r2 q2) fun c s3 ⟨z,H3,I3,r3,k,e,q3⟩=>?_) hm
  subst e
  cases r3
  exact wpAny_truthy_bool ⟨H3,I3,q3⟩
noncomputable def tChain (r r':R2) (ta tb tc:TE):TE:=fun σ H Q=>ta σ H fun x H1=>tb σ H1 fun y H2=>r x y H2 fun z H3=>∃ k,z = .bl k ∧
  (if k = true then tc σ H3 fun w' H4=>r' y w' H4 Q else Q (.bl false) H3)
theorem pe_chain {op op':CmpOp} {r r':R2} (ho:OpR X (compareOp op) r) (ho':OpR X (compareOp op') r') (ha:PE X a ta) (hb:PE X b tb) (hc:PE X c tc)
    (hm:lastMarks [op,op'] [b,c] = false:=by with_unfolding_all rfl):PE X (.Compare a [op,op'] [b,c] pos) (tChain r r' ta tb tc):=by
  intro pins s σ H Q I h
  refine Compare_chain (thn (ha pins s σ H _ I h) fun v s1 ⟨x,H1,I1,r1,q1⟩=>chain_link (thn (hb pins s1 σ H1 _ I1 q1) fun u s2 ⟨y,H2,I2,r2,q2⟩ =>
    thn (ho pins s2 σ H2 x y v u _ I2 r1 r2 q2) fun d s3 ⟨z,H3,I3,r3,k,e,q3⟩=>?_)) hm
  subst e
  cases r3
  refine wpAny_truthy_bool ?_
  cases k with
  | false=>exact ite_ff ⟨.bl false,H3,I3,rfl,q3⟩
  | true=>exact ite_tt (chain_last (thn (hc pins s3 σ H3 _ I3 q3) fun w' s4 ⟨z',H4,I4,r4,q4⟩=>ho' pins s4 σ H4 y z' u w' Q I4 r2 r4 q4))
theorem pt_chain {op op':CmpOp} {r r':R2} (ho:OpR X (compareOp op) r) (ho':OpR X (compareOp op') r') (ha:PE X a ta) (hb:PE X b tb) (hc:PE X c tc)
    (hm:lastMarks [op,op'] [b,c] = false:=by with_unfolding_all rfl):PT X (.Compare a [op,op'] [b,c] pos) (tTest (tChain r r' ta tb tc)):=by
  intro pins s σ H Q I h
  refine isTrue_chain (thn (ha pins s σ H _ I h) fun v s1 ⟨x,H1,I1,r1,q1⟩=>test_link (thn (hb pins s1 σ H1 _ I1 q1) fun u s2 ⟨y,H2,I2,r2,q2⟩ =>
    thn (ho pins s2 σ H2 x y v u _ I2 r1 r2 q2) fun d s3 ⟨z,H3,I3,r3,k,e,q3⟩=>?_)) hm
  subst e
  cases r3
  refine wpAny_truthy_bool ?_
  cases k with
  | false =>
    obtain ⟨k',e',q'⟩:=q3
    cases e'
    exact ite_ff ⟨H3,I3,q'⟩
  | true =>
    refine ite_tt (test_last (thn (hc pins s3 σ H3 _ I3 q3) fun w' s4 ⟨z',H4,I4,r4,q4⟩=>thn (ho' pins s4 σ H4 y z' u w' _ I4 r2 r4 q4) fun d' s5 ⟨z2,H5,I5,r5,k2,e2,q5⟩=>?_))
    subst e2
    cases r5
    exact wpAny_truthy_bool ⟨H5,I5,q5⟩
noncomputable def TruV (K:PySem.W.Frag) (x:V) (H:Hp) (k:Bool):Prop :=
  match x with
  | .non=>k = false
  | .bl b=>k = b
  | .int i=>k = (i != 0)
  | .str y=>y.length ≤ sizeLine ∧ k = ((y.length:Int) != 0)
  | .byt y=>y.size ≤ sizeLine ∧ k = ((y.size:Int) != 0)
  | .ref p=>(∃ xs,SqL K H p xs ∧ k = !xs.isEmpty) ∨ (∃ xs,SqT K H p xs ∧ k = !xs.isEmpty) ∨ ∃ kvs,H p = some (.dK kvs) ∧ k = !kvs.isEmpty
  | _=>False
theorem isEmpty_kv {κ:Type} {kvs:List (κ × V)} {vs:List (κ × Value)} (r:KV kvs vs):(!vs.isEmpty) = !kvs.isEmpty:=by
  cases r <;> rfl
theorem isEmpty_of {xs:List V} {its:List Value} (r:Vals xs its):(!its.toArray.isEmpty) = !xs.isEmpty:=by
  cases r <;> simp
theorem line63:(sizeLine:Nat) < 2 ^ 63:=by rw [sizeLine_eq];decide
theorem tru_ok:TruR X (fun x H Q=>∃ k,TruV X.K x H k ∧ Q k H):=by
  intro pins s σ H x v Q I rx h
  obtain ⟨k,e,q⟩:=h
  have hl:=line63
  have hs:sizeLine = 16777216:=sizeLine_eq
  cases x with
  | non =>
    cases rx
    have e':k = false:=e
    subst e'
    exact truthy_none ⟨H,I,q⟩
  | bl b =>
    cases rx
    have e':k = b:=e
    subst e'
    exact wpAny_truthy_bool ⟨H,I,q⟩
  | int i =>
    obtain ⟨t,rfl⟩:=rx
    have e':k = (i != 0):=e
    subst e'
    exact PySem.P.truthy_int ⟨H,I,q⟩
  | str y =>
    obtain ⟨t,rfl⟩:=rx
    obtain ⟨hy,e'⟩ : y.length ≤ sizeLine ∧ k = ((y.length:Int) != 0):=e
    subst e'
    exact PySem.P.truthy_str (by (first | lia | omega)) ⟨H,I.tok _,q⟩
  | byt y =>
    obtain ⟨t,rfl⟩:=rx
    obtain ⟨hy,e'⟩ : y.size ≤ sizeLine ∧ k = ((y.size:Int) != 0):=e
    subst e'
    exact PySem.W.truthy_bytes (by (first | lia | omega)) ⟨H,I.tok _,q⟩
  | ref p =>
    cases rx
    have e':(∃ xs,SqL X.K H p xs ∧ k = !xs.isEmpty) ∨ (∃ xs,SqT X.K H p xs ∧ k = !xs.isEmpty) ∨ ∃ kvs,H p = some (.dK kvs) ∧ k = !kvs.isEmpty:=e
    rcases e' with ⟨xs,hx,e'⟩ | ⟨xs,hx,e'⟩ | ⟨kvs,hx,e'⟩
    · subst e'
      obtain ⟨its,r,pl,hz⟩:=I.list hx
      have hlen:=r.length
      exact wpAny_truthy_list pl.isList (by simp only [List.size_toArray];(first | lia | omega)) ⟨H,I.tok _,by rw [isEmpty_of r];exact q⟩
    · subst e'
      obtain ⟨its,r,pl,hz⟩:=I.tuple hx
      have hlen:=r.length
      exact truthy_tuple pl (by simp only [List.size_toArray];(first | lia | omega)) ⟨H,I.tok _,by rw [isEmpty_of r];exact q⟩
    · subst e'
      obtain ⟨hz,hS,vs,r,m⟩ : kvs.length ≤ sizeLine ∧ (p == sysModules) = false ∧ ∃ vs,KV kvs vs ∧ s.heap.DictOf (mixKind X.prog X.w) p vs:=I.hok p _ hx
      have hlen:kvs.length = vs.length:=Paired.length r
      exact wpAny_truthy_dict hS m (by (first | lia | omega)) ⟨H,I.tok _,by rw [isEmpty_kv r];exact q⟩
  | _=>exact (show False from e).elim
theorem pt_truth (ha:PE X a ta) (he:∀ whole,isTrue a X.env whole = (do let v ← whole;standAt a.pos;holding [v] (truthy v))) :
    PT X a (fun σ H Q=>ta σ H fun x H'=>∃ k,TruV X.K x H' k ∧ Q k H'):=by
  intro pins s σ H Q I h
  exact isTrue_plain (thn (ha pins s σ H _ I h) fun v s1 ⟨x,H1,I1,r1,q1⟩=>tru_ok pins s1 σ H1 x v Q I1 r1 q1) (he _)
theorem op_add_str:OpR X (binaryOp .Add) (fun x y H Q=>∃ i j,x = .str i ∧ y = .str j ∧ i.length + j.length ≤ sizeLine ∧ Q (.str (i ++ j)) H):=by
  intro pins s σ H x y v u Q I rx ry h
  obtain ⟨i,j,rfl,rfl,hz,q⟩:=h
  obtain ⟨t,rfl⟩:=rx
  obtain ⟨t',rfl⟩:=ry
  exact add_str (fun t' tk=>⟨.str (i ++ j),H,I.tok _,⟨_,rfl⟩,q⟩) hz
theorem vals1 {x:V} {us:List Value} (r:Vals [x] us):∃ u,us = [u] ∧ RelV x u:=by
  cases r with
  | cons r1 r2=>cases r2;exact ⟨_,rfl,r1⟩
theorem vals2 {x y:V} {us:List Value} (r:Vals [x,y] us):∃ u w',us = [u,w'] ∧ RelV x u ∧ RelV y w':=by
  cases r with
  | cons r1 r2 =>
    cases r2 with
    | cons r3 r4=>cases r4;exact ⟨_,_,rfl,r1,r3⟩
theorem call_int1:CallR X (.type "int") (fun xs H Q=>(∃ i,xs = [.int i] ∧ Q (.int i) H) ∨ ∃ k,xs = [.bl k] ∧ Q (.int (if k then 1 else 0)) H):=by
  intro pins s σ H xs us Q I r h
  rcases h with ⟨i,rfl,q⟩ | ⟨k,rfl,q⟩
  · obtain ⟨u,rfl,t,rfl⟩:=vals1 r
    exact call_int_int ⟨.int i,H,I,⟨_,rfl⟩,q⟩
  · obtain ⟨u,rfl,r1⟩:=vals1 r
    cases r1
    exact call_int_bool ⟨.int (if k then 1 else 0),H,I.tok _,⟨_,rfl⟩,q⟩
end
end L2
namespace L2
open PySem PySem.Spec PyProof.Rows
theorem RelO.some_of {v:V} {o:Option Value} (r:RelO (some v) o):∃ u,o = some u ∧ RelV v u:=by
  cases o with
  | none=>exact (show False from r).elim
  | some u=>exact ⟨u,rfl,r⟩
end L2
namespace L2
open PySem PySem.Spec PyProof.Rows
set_option genInjectivity false in
structure Room (k:Nat) (A:Around):Prop where
  hd:A.handled = none
  dp:A.depth + 3 * k + 5 < recursionLimit
  un:A.units + 16 * k + 200 < cLine
theorem Room.deeper {k:Nat} {A:Around} (r:Room (k + 1) A) (env:Env):Room k (A.deeper env) :=
  ⟨r.hd,by have:=r.dp;show A.depth + 1 + 3 * k + 5 < _;(first | lia | omega),by have:=r.un;show A.units + 3 + 16 * k + 200 < _;(first | lia | omega)⟩
theorem Room.depth {k:Nat} {A:Around} (r:Room k A):A.depth < recursionLimit:=by have:=r.dp;(first | lia | omega)
theorem Room.units {k:Nat} {A:Around} (r:Room k A):A.units + 64 < cLine:=by have:=r.un;(first | lia | omega)
noncomputable def tNil:TA:=fun _ H Q=>Q [] H
noncomputable def tCons (ta:TE) (tr:TA):TA:=fun σ H Q=>ta σ H fun x H1=>tr σ H1 fun xs H2=>Q (x :: xs) H2
section
variable {X:Cx} {e:Expr} {es:List Expr} {te:TE} {t:TA} {pos:Pos}
theorem pa_nil:PA X [] tNil:=fun _ _ _ _ H Q I h=>Calls.spliced_nil ⟨[],H,I,.nil,h⟩
theorem pa_cons (ha:PE X e te) (hr:PA X es t) (hs:starEach (e :: es) X.env = (false,eval e X.env) :: starEach es X.env:=by rfl):PA X (e :: es) (tCons te t):=by
  intro pos pins s σ H Q I h
  rw [hs]
  show wpAny _ _ (spliced ((false,eval e X.env) :: backTo pos (starEach es X.env))) _ _ s
  refine Calls.spliced_cons (thn (ha pins s σ H _ I h) fun u s1 ⟨x,H1,I1,r1,q1⟩=>?_)
  exact thn (hr pos pins s1 σ H1 _ I1 q1) fun us s2 ⟨xs,H2,I2,r2,q2⟩=>⟨x :: xs,H2,I2,.cons r1 r2,q2⟩
noncomputable def tTup (t:TA):TE:=fun σ H Q=>t σ H fun xs H1=>xs.length ≤ sizeLine ∧ ∀ p,H1 p = none → Q (.ref p) (upd H1 p (.tup xs))
noncomputable def tLst (t:TA):TE:=fun σ H Q=>t σ H fun xs H1=>xs.length ≤ sizeLine ∧ ∀ p,H1 p = none → Q (.ref p) (upd H1 p (.lst xs))
theorem pe_tup {x1} (h:PA X es t):PE X (.Tuple es x1 pos) (tTup t):=by
  intro pins s σ H Q I hq
  refine wpAny_Tuple_spliced (thn (h pos pins s σ H _ I hq) fun us s1 ⟨xs,H1,I1,r,z,q⟩=>⟨by rw [← r.length];exact z,?_⟩)
  have hf:H1 s1.heap.objs.size = none:=I1.hok.fresh (Nat.le_refl _)
  refine ⟨.ref s1.heap.objs.size,upd H1 s1.heap.objs.size (.tup xs),I1.laid (t':=s1.toks) (fun b u e=>Heap.get?_push_of_some _ e) (Nat.le_refl _) ?_,rfl,q _ hf⟩
  exact ⟨z,us,r,⟨_,Heap.get?_push_size _ rfl,rfl,_,rfl⟩⟩
theorem pe_lst (h:PA X es t):PE X (.List es pos) (tLst t):=by
  intro pins s σ H Q I hq
  refine wpAny_List_spliced (thn (h pos pins s σ H _ I hq) fun us s1 ⟨xs,H1,I1,r,z,q⟩=>⟨by rw [← r.length];exact z,?_⟩)
  have hf:H1 s1.heap.objs.size = none:=I1.hok.fresh (Nat.le_refl _)
  refine ⟨.ref s1.heap.objs.size,upd H1 s1.heap.objs.size (.lst xs),I1.laid (t':=s1.toks) (fun b u e=>Heap.get?_push_of_some _ e) (Nat.le_refl _) ?_,rfl,q _ hf⟩
  exact ⟨z,us,0,r,Heap.get?_push_size _ rfl⟩
end
noncomputable abbrev Sp:=List V → Hp → VK → XK → Prop
noncomputable abbrev CXT:=List Env → Hp → Shared → XK → Value → Shared → Prop
set_option genInjectivity false in
structure Env0 (P:Program) (w:World) (K:PySem.W.Frag) (mg:Str → Option Value) (base:Heap) (A:Around) (outer:List Env) (s:Shared) (H:Hp):Prop where
  frames:A.frames = some outer
  mod:Mod K mg base
  bs:∀ b o,base.get? b = some o → s.heap.get? b = some o ∧ H b = none
  bsz:base.objs.size ≤ s.heap.objs.size
  funs:s.heap.FunFrames base outer
  frf:∀ b ∈ frs outer,H b = none
  hok:HOk P w H s.heap
  bare:AllBare s.gens
noncomputable def CE (outer:List Env) (P:Program) (w:World) (H:Hp) (s:Shared) (Q:VK) (u:Value) (s':Shared):Prop :=
  ∃ v H',s'.os = s.os ∧ AllBare s'.gens ∧ Un (frs outer) [] H H' s.heap s'.heap ∧ HOk P w H' s'.heap ∧ RelV v u ∧ Q v H'
noncomputable def CR (CX:CXT) (outer:List Env) (P:Program) (w:World) (H:Hp) (s:Shared) (Q:VK) (E:XK) (r:Result) (s':Shared):Prop :=
  match r with
  | .ok (.ret u)=>CE outer P w H s Q u s'
  | .ok _=>False
  | .error e=>CX outer H s E e s'
set_option genInjectivity false in
structure FnOk (P:Program) (w:World) (K:PySem.W.Frag) (mg:Str → Option Value) (base:Heap) (CX:CXT) (k:Nat) (f:Addr) (fd:FuncData) (ps:List Str) (sp:Sp):Prop where
  len:∀ vs H Q E,sp vs H Q E → vs.length = ps.length
  run:∀ (A:Around) (outer:List Env) (s:Shared) (H:Hp) (args:Args) (us:List Value) (vs:List V) (Q:VK) (E:XK),Room k A → Env0 P w K mg base A outer s H → BindsTo s fd args (ps.zip us) → Vals vs us → sp vs H Q E →
    codeAny (model P w) A (.call (.ref f) args) (CR CX outer P w H s Q E) s
section
variable {X:Cx} {pins:List (Addr × Obj)} {σ:St} {H:Hp} {s s':Shared}
theorem Inv.env0 (I:Inv X pins σ H s):Env0 X.prog X.w X.K X.mg X.base X.A X.stack s H :=
  ⟨I.ok.frames,I.ok.mod,I.bs,Nat.le_trans I.ok.bsz I.sz,I.stack,I.stkFree,I.hok,I.bare⟩
theorem Inv.after {Q:VK} {u:Value} (I:Inv X pins σ H s) (h:CE X.stack X.prog X.w H s Q u s'):EP X pins σ Q u s':=by
  obtain ⟨v,H',os,bare,un,hok,r,q⟩:=h
  obtain ⟨hh,g,d,t,os'⟩:=s'
  obtain rfl:os' = s.os:=os
  exact ⟨v,H',I.call (h':=hh) (g':=g) (d':=d) (t':=t) (ch:=[]) un hok bare (fun b z=>absurd z (by simp)),r,q⟩
end
noncomputable def tCall (sp:Sp) (dvs:List V) (E:XK) (t:TA):TE:=fun σ H Q=>t σ H fun vs H1=>sp (vs ++ dvs) H1 Q E
noncomputable def Binds (K:PySem.W.Frag) (fd:FuncData) (ps:List Str) (ds:List Value):Prop :=
  ∀ (s:Shared) (us:List Value),K.In s.heap → (us ++ ds).length = ps.length → BindsTo s fd ⟨us,[]⟩ (ps.zip (us ++ ds))
theorem Binds.all {K:PySem.W.Frag} {fd:FuncData} {ps:List Str} (h:∀ us:List Value,us.length = ps.length → bindArgs fd ⟨us,[]⟩ = pure (ps.zip us)):Binds K fd ps []:=fun s us _ hl=>by
  rw [List.append_nil] at hl ⊢
  exact .of_eq (h us hl)
noncomputable def Passes (CX:CXT) (X:Cx) (E:XK):Prop:=∀ (pins:List (Addr × Obj)) (σ:St) (H:Hp) (s:Shared) (e:Value) (s':Shared),Inv X pins σ H s → CX X.stack H s E e s' → X.xe e s'
section
variable {X:Cx} {CX:CXT} {k:Nat} {f C:Addr} {fd:FuncData} {ps:List Str} {sp:Sp} {dvs:List V} {ds:List Value} {E:XK} {x m:Str} {p pos apos:Pos} {e o:Expr} {es:List Expr} {ta:TE} {t:TA}
theorem run_fn {pins:List (Addr × Obj)} {σ:St} {H:Hp} {s:Shared} {Q:VK} {us:List Value} {vs:List V} (F:FnOk X.prog X.w X.K X.mg X.base CX k f fd ps sp) (hr:Room k X.A) (hb:Binds X.K fd ps ds) (hd:Vals dvs ds) (hx:Passes CX X E)
    (I:Inv X pins σ H s) (r:Vals vs us) (h:sp (vs ++ dvs) H Q E):wpAny (model X.prog X.w) X.A (call (.ref f) us) (EP X pins σ Q) X.xe s:=by
  have r2:Vals (vs ++ dvs) (us ++ ds):=r.append hd
  have hl:(us ++ ds).length = ps.length:=by rw [← r2.length];exact F.len _ _ _ _ h
  refine wpAny_call (codeAny_mono (F.run X.A X.stack s H ⟨us,[]⟩ (us ++ ds) (vs ++ dvs) Q E hr I.env0 (hb s us I.kIn hl) r2 h) fun r s' hq=>?_)
  cases r with
  | error e=>exact hx pins σ H s e s' I hq
  | ok fl =>
    cases fl with
    | ret u=>exact I.after hq
    | next=>exact False.elim hq
    | brk=>exact False.elim hq
    | cont=>exact False.elim hq
theorem pe_call (F:FnOk X.prog X.w X.K X.mg X.base CX k f fd ps sp) (hr:Room k X.A) (hg:Gl X x) (hm:X.mg x = some (.ref f)) (hk:PySem.W.keepIn X.K (.ref f) = true) (hb:Binds X.K fd ps ds) (hd:Vals dvs ds) (hx:Passes CX X E)
    (ha:PA X (e :: es) t) (hdb:(x == ("__debug__" : Str)) = false:=by decide) (he:starEach (e :: es) X.env = (false,eval e X.env) :: starEach es X.env:=by rfl) (hpl:(backTo pos (starEach es X.env)).any (·.1) = false:=by rfl) :
    PE X (.Call (.Name x p) (e :: es) [] pos) (tCall sp dvs E t):=by
  intro pins s σ H Q I h
  refine wpAny_Call_Name_kw (ld_glob I hg hm ?_ hdb)
  refine PySem.W.callWith_K (h₀:=X.base) I.ok.mod.kin hk (thn (ha pos pins s σ H _ I h) fun us s1 ⟨vs,H1,I1,r,q⟩=>⟨I1.kIn,?_⟩) he hpl
  exact run_fn F hr hb hd hx I1 r q
theorem pe_call0 (F:FnOk X.prog X.w X.K X.mg X.base CX k f fd ps sp) (hr:Room k X.A) (hg:Gl X x) (hm:X.mg x = some (.ref f)) (hk:PySem.W.keepIn X.K (.ref f) = true) (hb:Binds X.K fd ps ds) (hd:Vals dvs ds) (hx:Passes CX X E)
    (hdb:(x == ("__debug__" : Str)) = false:=by decide):PE X (.Call (.Name x p) [] [] pos) (tCall sp dvs E tNil):=by
  intro pins s σ H Q I h
  refine wpAny_Call_Name_kw (ld_glob I hg hm ?_ hdb)
  exact PySem.W.callWith_K0 I.kIn hk (run_fn (us:=[]) F hr hb hd hx I .nil h)
end
section
variable {X:Cx} {CX:CXT} {k:Nat} {f C:Addr} {fd:FuncData} {ps ks:List Str} {sp:Sp} {E:XK} {x m:Str} {p pos apos kpos:Pos} {e o:Expr} {es:List Expr} {kws:List Keyword} {te ta:TE} {t tk:TA} {nm:Option Str}
variable {g:List Value → List Value → List Value} {gV:List V → List V → List V}
end
set_option genInjectivity false in
structure FnScope (N P:List Str) (sc:Scope):Prop where
  kind:sc.kind = .function
  co:sc.isCoroutine = false
  gen:sc.isGenerator = false
  nd:N.Nodup
  pre:N.take P.length = P
  par:∀ x ∈ P,sc.names.lookup x = some .local ∨ sc.names.lookup x = some .cell
  nofree:∀ y ∈ sc.names,y.2 ≠ .free
theorem bindL_out {kindOf:Str → Option NameKind} {x:Str}:∀ {binds:List (Str × Value)} {m:Str → Option Value},(∀ v,(x,v) ∉ binds) → bindL kindOf binds m x = m x
  | [],_,_=>rfl
  | (n,v) :: r,m,h=>by
    unfold bindL
    rw [bindL_out fun w hw=>h w (List.mem_cons_of_mem _ hw)]
    split
    · have:x ≠ n:=by rintro rfl;exact h v List.mem_cons_self
      simp [this]
    · rfl
theorem bindC_out {kindOf:Str → Option NameKind} {x:Str}:∀ {binds:List (Str × Value)} {m:Str → Option Value},(∀ v,(x,v) ∉ binds) → bindC kindOf binds m x = m x
  | [],_,_=>rfl
  | (n,v) :: r,m,h=>by
    unfold bindC
    rw [bindC_out fun w hw=>h w (List.mem_cons_of_mem _ hw)]
    split
    · rfl
    · have:x ≠ n:=by rintro rfl;exact h v List.mem_cons_self
      simp [this]
theorem bindL_get {kindOf:Str → Option NameKind} {x:Str} {v:Value}:∀ {P:List Str} {vs:List Value} {i:Nat} {m:Str → Option Value},P.Nodup → P[i]? = some x → vs[i]? = some v → kindOf x = some .local →
    bindL kindOf (P.zip vs) m x = some v
  | [],_,_,_,_,h,_,_=>by simp at h
  | _ :: _,[],_,_,_,_,h,_=>by simp at h
  | p :: P,w :: vs,0,m,nd,h1,h2,hk=>by
    simp at h1 h2;subst h1;subst h2
    show bindL kindOf ((p,w) :: P.zip vs) m p = _
    unfold bindL
    rw [bindL_out fun v hv=>(List.nodup_cons.mp nd).1 (List.of_mem_zip hv).1,if_pos hk]
    simp
  | p :: P,w :: vs,i + 1,m,nd,h1,h2,hk=>by
    show bindL kindOf ((p,w) :: P.zip vs) m x = _
    unfold bindL
    exact bindL_get (i:=i) (List.nodup_cons.mp nd).2 (by simpa using h1) (by simpa using h2) hk
theorem bindC_get {kindOf:Str → Option NameKind} {x:Str} {v:Value}:∀ {P:List Str} {vs:List Value} {i:Nat} {m:Str → Option Value},P.Nodup → P[i]? = some x → vs[i]? = some v → kindOf x ≠ some .local →
    bindC kindOf (P.zip vs) m x = some v
  | [],_,_,_,_,h,_,_=>by simp at h
  | _ :: _,[],_,_,_,_,h,_=>by simp at h
  | p :: P,w :: vs,0,m,nd,h1,h2,hk=>by
    simp at h1 h2;subst h1;subst h2
    show bindC kindOf ((p,w) :: P.zip vs) m p = _
    unfold bindC
    rw [bindC_out fun v hv=>(List.nodup_cons.mp nd).1 (List.of_mem_zip hv).1,if_neg hk]
    simp
  | p :: P,w :: vs,i + 1,m,nd,h1,h2,hk=>by
    show bindC kindOf ((p,w) :: P.zip vs) m x = _
    unfold bindC
    exact bindC_get (i:=i) (List.nodup_cons.mp nd).2 (by simpa using h1) (by simpa using h2) hk
noncomputable def start (N:List Str) (vs:List V):St:=vs.map some ++ List.replicate (N.length - vs.length) none
noncomputable def cxOf (CX:CXT) (P:Program) (w:World) (K:PySem.W.Frag) (mg:Str → Option Value) (base:Heap) (N:List Str) (qual:Str) (scope:Scope) (f:Addr) (cd:Value) (A:Around) (outer:List Env) (s:Shared) (H:Hp) (E:XK):Cx where
  prog:=P
  w:=w
  K:=K
  mg:=mg
  base:=base
  A:=A.deeper (envOfC qual scope s.heap.objs.size f cd)
  N:=N
  s₀:=s
  H₀:=H
  env:=envOfC qual scope s.heap.objs.size f cd
  outer:=outer
  stack:=envOfC qual scope s.heap.objs.size f cd :: outer
  ex:=[]
  calm:=true
  fn:=fun _=>true
  pn:=[]
  xe:=fun e s'=>wpAny (model P w) (A.deeper (envOfC qual scope s.heap.objs.size f cd)) (leaving (envOfC qual scope s.heap.objs.size f cd) e) (fun _ s''=>CX outer H s E e s'') (fun e' s''=>CX outer H s E e' s'') s'
theorem cell_has {sc:Scope} {n:Nat} {x:Str} (h:sc.names.lookup x = some .cell):∃ c,(cellsFrom n sc.names []).lookup x = some c:=by
  have q:=PySem.W.cellsFrom_some sc.names n [] (.inl h)
  exact Option.isSome_iff_exists.mp q
theorem inv_start {CX:CXT} {P:Program} {w:World} {K:PySem.W.Frag} {mg:Str → Option Value} {base:Heap} {N ps:List Str} {qual:Str} {scope:Scope} {f:Addr} {cd:Value} {A:Around} {outer:List Env} {s s1:Shared} {H:Hp} {E:XK} {us:List Value} {vs:List V}
    (S:FnScope N ps scope) (hd:A.handled = none) (e0:Env0 P w K mg base A outer s H) (hl:vs.length = ps.length) (r:Vals vs us)
    (x:InCallC s s.heap.objs.size (bindL (envOfC qual scope s.heap.objs.size f cd).kindOf (ps.zip us) fun _=>none) (cellsFrom (s.heap.objs.size + 1) scope.names []) (bindC (envOfC qual scope s.heap.objs.size f cd).kindOf (ps.zip us) fun _=>none) s1) :
    Inv (cxOf CX P w K mg base N qual scope f cd A outer s H E) [] (start N vs) H s1:=by
  have hpl:ps.length ≤ N.length:=by have:=congrArg List.length S.pre;rw [List.length_take] at this;(first | lia | omega)
  obtain ⟨h1,tk,rfl,hk⟩:=x.done
  have noA:∀ b:Addr,b ∉ (cxOf CX P w K mg base N qual scope f cd A outer s H E).ex:=fun b z=>absurd (show b ∈ ([]:List Addr) from z) (by simp)
  refine ⟨⟨e0.mod,S.kind,rfl,rfl,Nat.le_refl _,fun y z c h1 h2=>?_,fun y hy=>?_,fun y c _ h=>?_,fun _=>hd,Around.frames_deeper e0.frames,.inr ⟨rfl,rfl⟩,fun b z=>absurd z (noA b),e0.bs,e0.bsz,fun b _ _=>noA b,fun b z=>absurd z (noA b),e0.funs,e0.frf⟩,
    rfl,e0.bare,Un.kept hk,⟨_,x.toInCall.ns,fun i y v h1 h2 h3=>?_⟩,fun y c h=>⟨_,x.cell y c h⟩,e0.hok.fresh (Nat.le_refl _),fun y c h=>?_,fun p hp=>absurd (show p ∈ ([]:List (Addr × Obj)) from hp) (by simp),e0.hok.kept hk,?_⟩
  · exact name_of_addr x.apart (PySem.mem_of_lookup h1) (PySem.mem_of_lookup h2)
  · have hy:scope.names.lookup y = some .cell ∨ scope.names.lookup y = some .free:=hy
    rcases hy with hy | hy
    · exact cell_has hy
    · exact absurd rfl (S.nofree _ (PySem.mem_of_lookup hy))
  · exact Nat.le_of_lt (x.above y c (PySem.mem_of_lookup h))
  · have hi:i < vs.length:=by
      unfold start at h2
      by_cases hi:i < vs.length
      · exact hi
      · rw [List.getElem?_append_right (by simpa using hi)] at h2
        rw [List.getElem?_replicate] at h2
        split at h2 <;> cases h2
    have ha:vs[i]? = some v:=by
      unfold start at h2
      rw [List.getElem?_append_left (by simpa using hi),List.getElem?_map] at h2
      cases e:vs[i]? with
      | none=>rw [e] at h2;cases h2
      | some a=>rw [e] at h2;cases h2;rfl
    obtain ⟨u,hu,rv⟩:=r.get ha
    have hp:ps[i]? = some y:=by
      rw [← S.pre,List.getElem?_take_of_lt (by (first | lia | omega))];exact h1
    have ndP:ps.Nodup:=by rw [← S.pre];exact S.nd.sublist (List.take_sublist _ _)
    refine ⟨u,rv,?_⟩
    rcases S.par y (List.mem_of_getElem? hp) with k | k
    · exact .inl ⟨k,bindL_get ndP hp hu k⟩
    · obtain ⟨c,e⟩:=cell_has (n:=s.heap.objs.size + 1) k
      refine .inr ⟨.inl k,c,e,?_⟩
      have q:=x.cell y c e
      rw [bindC_get ndP hp hu (by show scope.names.lookup y ≠ _;rw [k];decide)] at q
      exact q
  · exact e0.hok.fresh (Nat.le_of_lt (x.above y c (PySem.mem_of_lookup h)))
  · unfold start
    show _ = N.length
    rw [List.length_append,List.length_map,List.length_replicate]
    (first | lia | omega)
theorem fn_of {CX:CXT} {P:Program} {w:World} {K:PySem.W.Frag} {mg:Str → Option Value} {base:Heap} {k:Nat} {f:Addr} {name qual:Str} {params:Arguments} {body:List Stmt} {scope:Scope} {dV kV doc pm cdv ct oc:Value} {an od:Option Addr}
    {osl:Array (Option Value)} {N ps:List Str} {sp:Sp} (lk:K.lookup f = some ⟨oc,od,.func (PySem.W.fnOf name qual params body scope dV kV doc pm an cdv ct),osl⟩) (hcd:PySem.W.codeIn K cdv qual = true) (S:FnScope N ps scope)
    (len:∀ vs H Q E,sp vs H Q E → vs.length = ps.length)
    (hbody:∀ (A:Around) (outer:List Env) (s:Shared) (H:Hp) (vs:List V) (Q:VK) (E:XK),Room k (A.deeper (envOfC qual scope s.heap.objs.size f cdv)) → sp vs H Q E →
      ∃ t,PSs (cxOf CX P w K mg base N qual scope f cdv A outer s H E) body t ∧ t { nx:=fun _ H'=>Q .non H',rt:=Q } (start N vs) H) :
    FnOk P w K mg base CX (k + 1) f (PySem.W.fnOf name qual params body scope dV kV doc pm an cdv ct) ps sp:=by
  refine ⟨len,fun A outer s H args us vs Q E hr e0 hb r hsp=>?_⟩
  have hl:=len _ _ _ _ hsp
  have KX:K.In s.heap:=e0.mod.kin.keeps fun b o e=>(e0.bs b o e).1
  have lim:s.heap.NoLimit:=e0.mod.nolimit.keeps fun b o e=>(e0.bs b o e).1
  have hkind:∀ y ∈ ps.zip us,scope.names.lookup y.1 = some .local ∨ (scope.names.lookup y.1 = some .cell ∧ ((cellsFrom (s.heap.objs.size + 1) scope.names []).lookup y.1).isSome = true):=fun ⟨n,v⟩ hy=>by
    rcases S.par n (List.of_mem_zip hy).1 with q | q
    · exact .inl q
    · exact .inr ⟨q,PySem.W.cellsFrom_some _ _ _ (.inl q)⟩
  refine codeAny_call_function hr.depth (KX _ _ lk) rfl S.co S.gen rfl (PySem.W.codeRec_of KX hcd) (hb _ _ _ _ ?_)
  refine wpAny_newFunctionEnv_cells S.kind hkind fun env he s1 x=>?_
  subst he
  refine ⟨lim.keeps x.toInCall.keep,codeAny_func ?_⟩
  obtain ⟨t,ht,hq⟩:=hbody A outer s H vs Q E (hr.deeper _) hsp
  have I:Inv (cxOf CX P w K mg base N qual scope f cdv A outer s H E) [] (start N vs) H s1:=inv_start S hr.hd e0 hl r x
  refine wpAny_mono (ht [] s1 (start N vs) H _ I hq) (fun fl s' hs=>?_) fun e s' hs=>hs
  have fin:∀ {σ':St} {H':Hp} {v:V} {u:Value},Inv (cxOf CX P w K mg base N qual scope f cdv A outer s H E) [] σ' H' s' → RelV v u → Q v H' → CE outer P w H s Q u s' :=
    fun {σ' H' v u} J rv q=>⟨v,H',J.os,J.bare,J.base,J.hok,rv,q⟩
  cases fl with
  | ret u =>
    obtain ⟨v,σ',H',J,rv,q⟩:=hs
    exact fin J rv q
  | next =>
    obtain ⟨σ',H',J,q⟩:=hs
    exact fin (v:=V.non) (u:=Value.none) J rfl q
  | brk =>
    obtain ⟨_,_,_,q⟩:=hs
    exact False.elim q
  | cont =>
    obtain ⟨_,_,_,q⟩:=hs
    exact False.elim q
end L2
namespace L2
open PySem PySem.Spec PyProof.Rows
section
variable {X:Cx} {x:Str} {p pos:Pos} {e:Expr} {es:List Expr} {t:TA} {id T:String} {r:List V → Hp → VK → Prop}
noncomputable def tCB (r:List V → Hp → VK → Prop) (t:TA):TE:=fun σ H Q=>t σ H fun vs H1=>r vs H1 Q
theorem pe_callB (hc:CallR X (.builtin id) r) (hg:Gl X x) (hm:X.mg x = none) (hv:bootBuiltins x = some (.builtin id)) (ha:PA X (e :: es) t) (hn:x ≠ "__name__" := by decide) (hdb:(x == ("__debug__" : Str)) = false:=by decide)
    (he:starEach (e :: es) X.env = (false,eval e X.env) :: starEach es X.env:=by rfl) (hpl:(backTo pos (starEach es X.env)).any (·.1) = false:=by rfl):PE X (.Call (.Name x p) (e :: es) [] pos) (tCB r t):=by
  intro pins s σ H Q I h
  refine wpAny_Call_Name_kw (ld_blt I hg hm hv ?_ hn hdb)
  exact PyProof.Rows.callWith_builtin1 (thn (ha pos pins s σ H _ I h) fun us s1 ⟨vs,H1,I1,r1,q1⟩=>hc pins s1 σ H1 vs us Q I1 r1 q1) he hpl
theorem pe_callTy (hc:CallR X (.type T) r) (hg:Gl X x) (hm:X.mg x = none) (hv:bootBuiltins x = some (.type T)) (ha:PA X (e :: es) t) (hn:x ≠ "__name__" := by decide) (hdb:(x == ("__debug__" : Str)) = false:=by decide)
    (he:starEach (e :: es) X.env = (false,eval e X.env) :: starEach es X.env:=by rfl) (hpl:(backTo pos (starEach es X.env)).any (·.1) = false:=by rfl):PE X (.Call (.Name x p) (e :: es) [] pos) (tCB r t):=by
  intro pins s σ H Q I h
  refine wpAny_Call_Name_kw (ld_blt I hg hm hv ?_ hn hdb)
  exact PyProof.Rows.callWith_type1 (thn (ha pos pins s σ H _ I h) fun us s1 ⟨vs,H1,I1,r1,q1⟩=>hc pins s1 σ H1 vs us Q I1 r1 q1) he hpl
end
end L2
namespace HT
open PySem PyProof.Rows
section
open PySem.SeqAt
open PySem.AutoSeq1 (wpAny_loadPart')
open PySem.MeetsSeq PySem.MeetsSeq2 PySem.MeetsSeq3
end
section
variable {prog:Program} {w:World} {A:Around} {E:Value → Shared → Prop} {s:Shared}
theorem cat_tup {t b:Addr} {vs ws:List Value} {Q:Value → Shared → Prop} (ht:IsTup s.heap t vs.toArray) (hb:IsTup s.heap b ws.toArray) (hv:vs ≠ [])
    (h1:ws = [] → Q (.ref t) s) (h2:ws ≠ [] → Q (.ref s.heap.objs.size) { s with heap:=s.heap.push { cls:=.type "tuple", data:=.seq (vs ++ ws).toArray } })
    (hsz:vs.length + ws.length ≤ sizeLine):wpAny (model prog w) A (binaryOp .Add (.ref t) (.ref b)) Q E s:=by
  obtain ⟨⟨cls,dd,data,sl⟩,ho,hc,n,hd⟩:=id ht
  obtain ⟨⟨cls2,dd2,data2,sl2⟩,ho2,hc2,n2,hd2⟩:=id hb
  simp only at hc hd hc2 hd2
  subst hc hd hc2 hd2
  have e:vs.toArray ++ ws.toArray = (vs ++ ws).toArray:=by simp
  by_cases hw:ws = []
  · exact concat_meets ⟨_,ho,rfl⟩ ⟨_,ho2,rfl⟩ noFill_tuple_add seq_tuple_add PySem.F.slot_tuple_add PySem.F.entry_tuple_add (PySem.F.args_tuple_add_2 _ _)
      (tuple_addW1 t b vs.toArray ws.toArray n n2 dd dd2 sl sl2 (by simpa using hv) (by simp [hw])) ⟨ho,ho2,h1 hw⟩
  · refine concat_meets ⟨_,ho,rfl⟩ ⟨_,ho2,rfl⟩ noFill_tuple_add seq_tuple_add PySem.F.slot_tuple_add PySem.F.entry_tuple_add (PySem.F.args_tuple_add_2 _ _)
      (tuple_addW2 t b vs.toArray ws.toArray n n2 dd dd2 sl sl2 (by simpa using hv) (by simpa using hw) (by rw [List.size_toArray,List.size_toArray];exact hsz)) ⟨ho,ho2,?_⟩
    rw [e]
    exact h2 hw
noncomputable def sIx (n d:Nat):Option Int → Nat
  | none=>d
  | some v=>if v < 0 then (v + (n:Int)).toNat else min v.toNat n
theorem sIx_le (n d:Nat) (hd:d ≤ n) (o:Option Int):sIx n d o ≤ n:=by
  cases o with
  | none=>exact hd
  | some v =>
    show (if v < 0 then (v + (n:Int)).toNat else min v.toNat n) ≤ n
    by_cases hv:v < 0
    · rw [if_pos hv];(first | lia | omega)
    · rw [if_neg hv];exact Nat.min_le_right _ _
theorem clip_eq (v:Int) (n d:Nat):(if v < 0 then max (v + (n:Int)) 0 else min v (n:Int)) = ((sIx n d (some v):Nat):Int):=by
  show (if v < 0 then max (v + (n:Int)) 0 else min v (n:Int)) = (((if v < 0 then (v + (n:Int)).toNat else min v.toNat n):Nat):Int)
  by_cases hv:v < 0
  · simp only [if_pos hv];(first | lia | omega)
  · simp only [if_neg hv];(first | lia | omega)
theorem adjust_gen (lo hi:Option Int) (n:Nat):Builtin.Slice.sliceAdjust lo hi 1 (n:Int) = (((sIx n 0 lo:Nat):Int),((sIx n n hi:Nat):Int)):=by
  have h1:¬ ((1:Int) < 0):=by (first | lia | omega)
  unfold Builtin.Slice.sliceAdjust
  simp only [h1,if_false]
  refine Prod.ext ?_ ?_
  · cases lo with
    | none=>rfl
    | some v=>exact clip_eq v n 0
  · cases hi with
    | none=>rfl
    | some v=>exact clip_eq v n n
theorem places_gen (i j:Nat):Builtin.Slice.slicePlaces (i:Int) (j:Int) 1 = j - i:=by
  unfold Builtin.Slice.slicePlaces
  have h1:(1:Int) > 0:=by (first | lia | omega)
  simp only [h1,if_true,Int.ediv_one]
  split <;> (first | lia | omega)
theorem slicePart_ {v:Value} {o:Option Int} {Q:Option Int → Shared → Prop} (p:IsPart v o) (h:Q o s):wpAny (model prog w) A (Builtin.Slice.slicePartIndex v) Q E s:=by
  cases p with
  | none=>exact slicePart_none h
  | int i t=>exact slicePart_int h
theorem sliceApplied_gen {sl:Addr} {vl vu:Value} {lo hi:Option Int} {n:Nat} {Q:Int × Int × Nat → Shared → Prop} (hs:s.heap.IsSliceOf sl vl vu .none) (pl:IsPart vl lo) (pu:IsPart vu hi)
    (h:Q (((sIx n 0 lo:Nat):Int),1,sIx n n hi - sIx n 0 lo) s):wpAny (model prog w) A (Builtin.Slice.sliceApplied (.ref sl) (pure (n:Int))) Q E s:=by
  obtain ⟨os,hos,hcs,hds⟩:=id hs
  unfold Builtin.Slice.sliceApplied Builtin.Slice.sliceFields
  refine wpAny_bind (wpAny_bind (wpAny_field hos hds (x:=vl) rfl (wpAny_bind (wpAny_field hos hds (x:=vu) rfl (wpAny_bind (wpAny_field hos hds (x:=.none) rfl (wpAny_pure ?_)))))))
  refine wpAny_bind (slicePart_none ?_)
  show wpAny _ _ (if ((1:Int) == 0) = true then _ else _) _ _ s
  rw [if_neg (by decide)]
  refine wpAny_bind (slicePart_ pl (wpAny_bind (slicePart_ pu (wpAny_bind (wpAny_pure ?_)))))
  show wpAny _ _ (match Builtin.Slice.sliceAdjust lo hi 1 (n:Int) with | (lo,hi)=>pure (lo,(1:Int),Builtin.Slice.slicePlaces lo hi 1)) _ _ s
  rw [adjust_gen lo hi n]
  show wpAny _ _ (pure (((sIx n 0 lo:Nat):Int),(1:Int),Builtin.Slice.slicePlaces ((sIx n 0 lo:Nat):Int) ((sIx n n hi:Nat):Int) 1)) _ _ s
  rw [places_gen]
  exact wpAny_pure h
theorem pick_gen (xs:Array Value) (i k:Nat):((List.range k).filterMap fun (m:Nat)=>xs[((i:Int) + (m:Int) * 1).toNat]?).toArray = ((xs.toList.drop i).take k).toArray:=by
  have e:(fun (m:Nat)=>xs[((i:Int) + (m:Int) * 1).toNat]?) = fun m=>xs[i + m]?:=by
    funext m
    have:((i:Int) + (m:Int) * 1).toNat = i + m:=by (first | lia | omega)
    rw [this]
  rw [e]
  have:=pick_run xs i k
  rw [List.filterMap_map] at this
  have e2:((fun x=>xs[x]?) ∘ fun x=>i + x) = fun m=>xs[i + m]?:=rfl
  rw [e2] at this
  rw [this]
theorem getItem_tuple_cut {t sl:Addr} {items:Array Value} {vl vu:Value} {lo hi:Option Int} {Q:Value → Shared → Prop} (ht:IsTup s.heap t items) (hs:s.heap.IsSliceOf sl vl vu .none) (pl:IsPart vl lo) (pu:IsPart vu hi)
    (hw:¬ (sIx items.size 0 lo = 0 ∧ sIx items.size items.size hi = items.size))
    (h:Q (.ref s.heap.objs.size) { s with heap:=s.heap.push { cls:=.type "tuple", data:=.seq ((items.toList.drop (sIx items.size 0 lo)).take (sIx items.size items.size hi - sIx items.size 0 lo)).toArray } })
    (hsz:items.size ≤ sizeLine):wpAny (model prog w) A (getItem (.ref t) (.ref sl)) Q E s:=by
  have htake:sizeOk (.seq ((items.toList.drop (sIx items.size 0 lo)).take (sIx items.size items.size hi - sIx items.size 0 lo)).toArray):=by
    show ((items.toList.drop (sIx items.size 0 lo)).take (sIx items.size items.size hi - sIx items.size 0 lo)).toArray.size ≤ sizeLine
    rw [List.size_toArray,List.length_take,List.length_drop,Array.length_toList]
    (first | lia | omega)
  have hj:sIx items.size items.size hi ≤ items.size:=sIx_le _ _ (Nat.le_refl _) hi
  obtain ⟨os,hos,hcs,hds⟩:=id hs
  have hTs:s.TypeIs (.ref sl) "slice" := ⟨os,hos,hcs⟩
  unfold getItem
  try with_reducible refine wpAny_holding ?_
  first | refine wpAny_bind (wpAny_pure ?_) | skip
  refine wpAny_bind (wpAny_sequenceKey ht.typeIs (by decide) ?_)
  refine wpAny_bind (wpAny_callSpecial?_slot (name:=Str.ofString "__getitem__") ht.typeIs PyProof.Rows.slot_tuple_getitem
    (wpAny_call_entry PyProof.Rows.slot_tuple_getitem ht.typeIs entry_tuple_getitem ?_ (args_tuple_getitem _ _)))
  show wpAny _ _ (Builtin.Tuple.tupleItemsOf (.ref t) >>= _) _ _ s
  refine wpAny_bind (tupleItemsOf_ ht ?_)
  refine wpAny_bind (wpAny_typeOf hTs ?_)
  rw [if_pos (by decide)]
  refine wpAny_bind (sliceApplied_gen hs pl pu ?_)
  have hno:¬ ((((sIx items.size 0 lo:Nat):Int) == 0 && (1:Int) == 1 && (sIx items.size items.size hi - sIx items.size 0 lo) == items.size) = true):=by
    intro q
    rw [Bool.and_eq_true,Bool.and_eq_true] at q
    have q1:((sIx items.size 0 lo:Nat):Int) = 0:=eq_of_beq q.1.1
    have q2:sIx items.size items.size hi - sIx items.size 0 lo = items.size:=eq_of_beq q.2
    exact hw ⟨by (first | lia | omega),by (first | lia | omega)⟩
  show wpAny _ _ (if (((sIx items.size 0 lo:Nat):Int) == 0 && (1:Int) == 1 && (sIx items.size items.size hi - sIx items.size 0 lo) == items.size) = true then _ else _) _ _ s
  rw [if_neg hno,pick_gen]
  first
    | exact wpAny_bind (m:=Builtin.Tuple.tupleExact _) (wpAny_newObj_type (wpAny_pure ⟨_,rfl,wpAny_pure h⟩) htake)
    | exact wpAny_bind (m:=Builtin.Tuple.tupleExact _) (wpAny_newObj_type (wpAny_bind (wpAny_pure (wpAny_pure ⟨_,rfl,wpAny_pure h⟩))) htake)
    | exact wpAny_bind (wpAny_bind (m:=Builtin.Tuple.tupleExact _) (wpAny_newObj_type (wpAny_pure (wpAny_pure ⟨_,rfl,wpAny_pure h⟩)) htake))
    | exact wpAny_bind (wpAny_bind (m:=Builtin.Tuple.tupleExact _) (wpAny_newObj_type (wpAny_pure ⟨_,rfl,wpAny_pure h⟩) htake))
end
end HT
namespace L2
open PySem PySem.Spec PyProof.Rows
noncomputable abbrev TO:=St → Hp → (Option Int → Hp → Prop) → Prop
noncomputable def PO (X:Cx) (e:Option Expr) (t:TO):Prop :=
  ∀ (pins:List (Addr × Obj)) (s:Shared) (σ:St) (H:Hp) (Q:Option Int → Hp → Prop),Inv X pins σ H s → t σ H Q →
    wpAny (model X.prog X.w) X.A (evalPart e X.env) (fun u s'=>∃ o H',Inv X pins σ H' s' ∧ IsPart u o ∧ Q o H') X.xe s
noncomputable def tNoPart:TO:=fun _ H Q=>Q none H
theorem intsAre_of {ns:List Int}:∀ {us:List Value},Vals (ns.map V.int) us → IntsAre us ns:=by
  induction ns with
  | nil=>intro us r;rw [List.map_nil] at r;cases r;exact .nil
  | cons n ns ih =>
    intro us r
    rw [List.map_cons] at r
    cases r with
    | cons r1 r2 =>
      obtain ⟨t,e⟩:=r1
      subst e
      exact .cons n t (ih r2)
section
variable {X:Cx} {e:Expr} {te:TE} {lo hi:Option Expr} {tl th:TO} {pos p2:Pos}
theorem po_none:PO X none tNoPart:=by
  intro pins s σ H Q I h
  rw [evalPart_none]
  exact wpAny_pure ⟨none,H,I,.none,h⟩
noncomputable def SlR (X:Cx) (r:V → Option Int → Option Int → Hp → VK → Prop):Prop :=
  ∀ (pins:List (Addr × Obj)) (s:Shared) (σ:St) (H:Hp) (x:V) (v vl vu:Value) (lo hi:Option Int) (sl:Addr) (Q:VK),Inv X pins σ H s → RelV x v → s.heap.IsSliceOf sl vl vu .none → IsPart vl lo → IsPart vu hi → r x lo hi H Q →
    ∃ T id,typeLookup (.type T) "__getitem__" = pure (some (.builtin id)) ∧ s.TypeIs v T ∧ wpAny (model X.prog X.w) X.A (getItem v (.ref sl)) (EP X pins σ Q) X.xe s
noncomputable def tSl (r:V → Option Int → Option Int → Hp → VK → Prop) (te:TE) (tl th:TO):TE:=fun σ H Q=>te σ H fun x H1=>tl σ H1 fun l H2=>th σ H2 fun u H3=>r x l u H3 Q
theorem pe_slice {r:V → Option Int → Option Int → Hp → VK → Prop} (hr:SlR X r) (he:PE X e te) (hl:PO X lo tl) (hu:PO X hi th):PE X (.Subscript e (.Slice lo hi none p2) pos) (tSl r te tl th):=by
  intro pins s σ H Q I h
  refine Subscript_ (thn (he pins s σ H _ I h) fun v s1 ⟨x,H1,I1,r1,q1⟩=>?_)
  refine wpAny_Slice (thn (hl pins s1 σ H1 _ I1 q1) fun vl s2 ⟨l,H2,I2,pl,q2⟩=>thn (hu pins s2 σ H2 _ I2 q2) fun vu s3 ⟨u,H3,I3,pu,q3⟩=>?_)
  rw [evalPart_none]
  refine wpAny_pure ?_
  have I4:Inv X pins σ H3 { s3 with heap:=s3.heap.push { cls:=.type "slice", data:=.fields #[vl,vu,.none] } }:=I3.kept (t':=s3.toks) fun b ob q=>Heap.get?_push_of_some _ q
  obtain ⟨T,id,hT,ht,hg⟩:=hr pins { s3 with heap:=s3.heap.push { cls:=.type "slice", data:=.fields #[vl,vu,.none] } } σ H3 x v vl vu l u s3.heap.objs.size Q I4 r1 (Heap.IsSliceOf.new ..) pl pu q3
  show wpAny (model X.prog X.w) X.A (subscriptTail e (.Slice lo hi none p2) v (.ref s3.heap.objs.size)) (EP X pins σ Q) X.xe { s3 with heap:=s3.heap.push { cls:=.type "slice", data:=.fields #[vl,vu,.none] } }
  exact tail_any (ops:=[.ref s3.heap.objs.size,v]) ht hT hg (by with_unfolding_all rfl)
noncomputable def cutV (xs:List V) (lo hi:Option Int):List V:=(xs.drop (HT.sIx xs.length 0 lo)).take (HT.sIx xs.length xs.length hi - HT.sIx xs.length 0 lo)
theorem cutV_length (xs:List V) (lo hi:Option Int):(cutV xs lo hi).length ≤ xs.length:=by
  unfold cutV
  rw [List.length_take,List.length_drop]
  (first | lia | omega)
noncomputable def rSlT (K:PySem.W.Frag):V → Option Int → Option Int → Hp → VK → Prop:=fun x lo hi H Q=>∃ a xs,x = .ref a ∧ SqT K H a xs ∧
  ¬ (HT.sIx xs.length 0 lo = 0 ∧ HT.sIx xs.length xs.length hi = xs.length) ∧ ∀ p,H p = none → Q (.ref p) (upd H p (.tup (cutV xs lo hi)))
theorem sl_tup:SlR X (rSlT X.K):=by
  intro pins s σ H x v vl vu lo hi sl Q I rx hs pl pu h
  obtain ⟨a,xs,rfl,hx,hw,q⟩:=h
  cases rx
  obtain ⟨its,r,ht,hz⟩:=I.tuple hx
  have hlen:its.toArray.size = xs.length:=by rw [List.size_toArray];exact r.length.symm
  refine ⟨"tuple", _,PyProof.Rows.slot_tuple_getitem.lookup,ht.typeIs,?_⟩
  refine HT.getItem_tuple_cut ht hs pl pu (by rw [hlen];exact hw) ?_ (by rw [hlen];exact hz)
  rw [hlen]
  refine ⟨.ref s.heap.objs.size,_,I.laid (t':=s.toks) (o:=.tup (cutV xs lo hi)) (fun b ob q=>Heap.get?_push_of_some _ q) (Nat.le_refl _) ?_,rfl,q _ (I.hok.fresh (Nat.le_refl _))⟩
  exact ⟨Nat.le_trans (cutV_length xs lo hi) hz,_,(r.drop (HT.sIx xs.length 0 lo)).take (HT.sIx xs.length xs.length hi - HT.sIx xs.length 0 lo),IsTup.new _ _⟩
noncomputable def rCatT (K:PySem.W.Frag):R2:=fun x y H Q=>∃ a b xs ys,x = .ref a ∧ y = .ref b ∧ SqT K H a xs ∧ SqT K H b ys ∧ xs ≠ [] ∧ xs.length + ys.length ≤ sizeLine ∧
  (ys = [] → Q (.ref a) H) ∧ (ys ≠ [] → ∀ p,H p = none → Q (.ref p) (upd H p (.tup (xs ++ ys))))
theorem Vals.nil_iff {xs:List V} {us:List Value} (r:Vals xs us):us = [] ↔ xs = []:=by
  cases r with
  | nil=>simp
  | cons _ _=>simp
theorem op_catT:OpR X (binaryOp .Add) (rCatT X.K):=by
  intro pins s σ H x y v u Q I rx ry h
  obtain ⟨a,b,xs,ys,rfl,rfl,ha,hb,hx,hz,q1,q2⟩:=h
  cases rx
  cases ry
  obtain ⟨its,r1,p1,_⟩:=I.tuple ha
  obtain ⟨its2,r2,p2,_⟩:=I.tuple hb
  refine HT.cat_tup p1 p2 (fun z=>hx (r1.nil_iff.mp z)) (fun z=>⟨.ref a,H,I,rfl,q1 (r2.nil_iff.mp z)⟩) (fun z=>?_) (by rw [← r1.length,← r2.length];exact hz)
  refine ⟨.ref s.heap.objs.size,_,I.laid (t':=s.toks) (o:=.tup (xs ++ ys)) (fun b ob q=>Heap.get?_push_of_some _ q) (Nat.le_refl _) ?_,rfl,q2 (fun w=>z (r2.nil_iff.mpr w)) _ (I.hok.fresh (Nat.le_refl _))⟩
  exact ⟨by rw [List.length_append];exact hz,_,r1.append r2,IsTup.new _ _⟩
end
end L2
namespace L2
open PySem PySem.Spec PyProof.Rows
noncomputable def ixN (n:Nat) (i:Int):Option Nat:=if 0 ≤ i then (if i < n then some i.toNat else none) else if -(n:Int) ≤ i then some (i + n).toNat else none
noncomputable def atI {α:Type} (xs:List α) (i:Int):Option α:=(ixN xs.length i).bind fun j=>xs[j]?
theorem ixN_seq {n:Nat} {i:Int} {j:Nat} (h:ixN n i = some j):seqIndex? i n = some j ∧ j < n ∧ -(n:Int) ≤ i ∧ i < n:=by
  unfold ixN at h
  by_cases h0:0 ≤ i
  · rw [if_pos h0] at h
    by_cases h1:i < n
    · rw [if_pos h1] at h
      have e:i.toNat = j:=Option.some.inj h
      exact ⟨by rw [seqIndex_of h0 h1,e],by (first | lia | omega),by (first | lia | omega),h1⟩
    · rw [if_neg h1] at h;cases h
  · rw [if_neg h0] at h
    by_cases h1:-(n:Int) ≤ i
    · rw [if_pos h1] at h
      have e:(i + n).toNat = j:=Option.some.inj h
      exact ⟨by rw [seqIndex_neg (by (first | lia | omega)) h1,e],by (first | lia | omega),h1,by (first | lia | omega)⟩
    · rw [if_neg h1] at h;cases h
theorem atI_get {α:Type} {xs:List α} {i:Int} {v:α} (h:atI xs i = some v):∃ j,seqIndex? i xs.length = some j ∧ xs[j]? = some v ∧ j < xs.length ∧ -(xs.length:Int) ≤ i ∧ i < xs.length:=by
  unfold atI at h
  cases e:ixN xs.length i with
  | none=>rw [e] at h;cases h
  | some j =>
    rw [e] at h
    obtain ⟨h1,h2,h3,h4⟩:=ixN_seq e
    exact ⟨j,h1,h,h2,h3,h4⟩
noncomputable def PlainIx (b:Expr):Prop:=∀ o i,subscripted b false o i = operate [o,i] (getItem o i)
noncomputable def IxR (X:Cx) (r:R2):Prop :=
  ∀ (value slice:Expr) (pins:List (Addr × Obj)) (s:Shared) (σ:St) (H:Hp) (x y:V) (v u:Value) (Q:VK),Inv X pins σ H s → RelV x v → RelV y u → r x y H Q →
    subscripted slice false v u = operate [v,u] (getItem v u) → wpAny (model X.prog X.w) X.A (subscriptTail value slice v u) (EP X pins σ Q) X.xe s
noncomputable def MtR (X:Cx) (id:String) (r:V → List V → Hp → VK → Prop):Prop :=
  ∀ (pins:List (Addr × Obj)) (s:Shared) (σ:St) (H:Hp) (x:V) (xs:List V) (v:Value) (us:List Value) (Q:VK),Inv X pins σ H s → RelV x v → Vals xs us → r x xs H Q →
    wpAny (model X.prog X.w) X.A (call (.builtin id) (v :: us)) (EP X pins σ Q) X.xe s
section
variable {X:Cx} {a b:Expr} {ta tb:TE} {pos:Pos}
theorem pe_ix {r:R2} (hr:IxR X r) (ha:PE X a ta) (hb:PE X b tb) (hs:PlainIx b):PE X (.Subscript a b pos) (tOp r ta tb):=by
  intro pins s σ H Q I h
  exact Subscript_ (binT ha hb I h fun v u s2 x y H2 I2 rx ry q=>hr a b pins s2 σ H2 x y v u Q I2 rx ry q (hs _ _))
noncomputable def rIxL (K:PySem.W.Frag):R2:=fun x y H Q=>∃ p xs i v,x = .ref p ∧ y = .int i ∧ SqL K H p xs ∧ atI xs i = some v ∧ Q v H
noncomputable def rIxT (K:PySem.W.Frag):R2:=fun x y H Q=>∃ p xs i v,x = .ref p ∧ y = .int i ∧ SqT K H p xs ∧ atI xs i = some v ∧ Q v H
noncomputable def rIxS:R2:=fun x y H Q=>∃ z i c,x = .str z ∧ y = .int i ∧ z.length ≤ sizeLine ∧ atI z.cps.toList i = some c ∧ Q (.str ⟨#[c]⟩) H
theorem ix_list:IxR X (rIxL X.K):=by
  intro value slice pins s σ H x y v u Q I rx ry h hs
  obtain ⟨p,xs,i,z,rfl,rfl,hq,he,q⟩:=h
  cases rx
  obtain ⟨t,rfl⟩:=ry
  obtain ⟨its,r,pl,hz⟩:=I.list hq
  obtain ⟨j,h1,h2,h3,h4,h5⟩:=atI_get he
  obtain ⟨w,ew,rw'⟩:=r.get h2
  have hl:=r.length
  have hn:=line63
  have fin:EP X pins σ Q w s:=⟨z,H,I,rw',q⟩
  by_cases h0:0 ≤ i
  · have hj:i.toNat = j:=by
      rw [seqIndex_of h0 h5] at h1
      exact Option.some.inj h1
    exact item_listR pl.isList h0 (by (first | lia | omega)) (by rw [hj];simpa using ew) fin hs
  · have hj:(i + (its.toArray.size:Int)).toNat = j:=by
      rw [seqIndex_neg (by (first | lia | omega)) h4] at h1
      rw [List.size_toArray,← hl]
      exact Option.some.inj h1
    exact subscriptTail_builtinR (x:=w) pl.isList.typeIs slot_list_getitem.lookup
      (wpAny_getItem_list_neg (Q:=fun r s'=>r = w ∧ EP X pins σ Q r s') pl.isList (by (first | lia | omega)) (by rw [List.size_toArray] <;> (first | lia | omega)) (by (first | lia | omega)) (by rw [hj];simpa using ew) ⟨rfl,fin⟩) hs
theorem ix_tup:IxR X (rIxT X.K):=by
  intro value slice pins s σ H x y v u Q I rx ry h hs
  obtain ⟨p,xs,i,z,rfl,rfl,hq,he,q⟩:=h
  cases rx
  obtain ⟨t,rfl⟩:=ry
  obtain ⟨its,r,pl,hz⟩:=I.tuple hq
  obtain ⟨j,h1,h2,h3,h4,h5⟩:=atI_get he
  obtain ⟨w,ew,rw'⟩:=r.get h2
  have hl:=r.length
  have hn:=line63
  have fin:EP X pins σ Q w s:=⟨z,H,I,rw',q⟩
  exact subscriptTail_builtinR (x:=w) pl.typeIs slot_tuple_getitem.lookup
    (getItem_tuple (j:=j) (Q:=fun r s'=>r = w ∧ EP X pins σ Q r s') pl (by (first | lia | omega)) (by (first | lia | omega)) (by rw [List.size_toArray,← hl];exact h1) (by simpa using ew) ⟨rfl,fin⟩) hs
theorem ix_str:IxR X rIxS:=by
  intro value slice pins s σ H x y v u Q I rx ry h hs
  obtain ⟨z,i,c,rfl,rfl,hz,he,q⟩:=h
  obtain ⟨t,rfl⟩:=rx
  obtain ⟨t',rfl⟩:=ry
  obtain ⟨j,h1,h2,h3,h4,h5⟩:=atI_get he
  have hl:z.cps.toList.length = z.length:=by simp [Str.length]
  rw [hl] at h1 h4 h5
  have hn:=line63
  exact tail_any (typeIs_str s z t) slot_str_getitem.lookup (getItem_str (c:=c) (by
    have e1:decide (i < -(2 ^ 63:Int)) = false:=decide_eq_false (by (first | lia | omega))
    have e2:decide (i ≥ 2 ^ 63) = false:=decide_eq_false (by (first | lia | omega))
    rw [e1,e2,Bool.or_false]) (by rw [h1];simpa using h2) ⟨.str ⟨#[c]⟩,H,I.tok _,⟨_,rfl⟩,q⟩) hs
theorem slice_bounds (lo hi:Option Int) (n:Nat):(sliceBounds lo hi none n).1 = ((HT.sIx n 0 lo:Nat):Int) ∧ (sliceBounds lo hi none n).2.1 = ((HT.sIx n n hi:Nat):Int) ∧ (sliceBounds lo hi none n).2.2 = 1:=by
  refine ⟨?_,?_,rfl⟩
  · cases lo with
    | none=>simp [sliceBounds,HT.sIx]
    | some i =>
      simp only [sliceBounds,HT.sIx,Option.getD_none,show (1:Int) > 0 by decide,if_true]
      by_cases h:i < 0
      · simp only [h,if_true] <;> (first | lia | omega)
      · simp only [h,if_false] <;> (first | lia | omega)
  · cases hi with
    | none=>simp [sliceBounds,HT.sIx]
    | some i =>
      simp only [sliceBounds,HT.sIx,Option.getD_none,show (1:Int) > 0 by decide,if_true]
      by_cases h:i < 0
      · simp only [h,if_true] <;> (first | lia | omega)
      · simp only [h,if_false] <;> (first | lia | omega)
theorem slicePick_cut (its:List Value) (lo hi:Option Int):slicePick its.toArray lo hi none = ((its.drop (HT.sIx its.length 0 lo)).take (HT.sIx its.length its.length hi - HT.sIx its.length 0 lo)).toArray:=by
  obtain ⟨h1,h2,h3⟩:=slice_bounds lo hi its.toArray.size
  unfold slicePick
  rw [h1,h2,h3]
  simp only [sliceRange_one,pick_run,List.size_toArray] <;> rfl
noncomputable def rSlL (K:PySem.W.Frag):V → Option Int → Option Int → Hp → VK → Prop:=fun x lo hi H Q=>∃ a xs,x = .ref a ∧ SqL K H a xs ∧ ∀ p,H p = none → Q (.ref p) (upd H p (.lst (cutV xs lo hi)))
theorem sl_list:SlR X (rSlL X.K):=by
  intro pins s σ H x v vl vu lo hi sl Q I rx hs pl pu h
  obtain ⟨a,xs,rfl,hx,q⟩:=h
  cases rx
  obtain ⟨its,r,ht,hz⟩:=I.list hx
  have hlen:=r.length
  refine ⟨"list", _,slot_list_getitem.lookup,ht.isList.typeIs,?_⟩
  refine wpAny_getItem_list_slice ht.isList hs pl pu .none (by simp) ?_ (by rw [List.size_toArray] <;> (first | lia | omega))
  rw [slicePick_cut,← hlen]
  refine ⟨.ref s.heap.objs.size,_,I.laid (t':=s.toks) (o:=.lst (cutV xs lo hi)) (fun b ob q=>Heap.get?_push_of_some _ q) (Nat.le_refl _) ?_,rfl,q _ (I.hok.fresh (Nat.le_refl _))⟩
  exact ⟨Nat.le_trans (cutV_length xs lo hi) hz,_,0,(r.drop (HT.sIx xs.length 0 lo)).take (HT.sIx xs.length xs.length hi - HT.sIx xs.length 0 lo),Heap.get?_push_size _ rfl⟩
theorem call_len_seq:CallR X (.builtin "len") (fun xs H Q=>∃ p ys,xs = [.ref p] ∧ (SqL X.K H p ys ∨ SqT X.K H p ys) ∧ Q (.int ys.length) H):=by
  intro pins s σ H xs us Q I r h
  obtain ⟨p,ys,rfl,hq,q⟩:=h
  obtain ⟨u,rfl,rx⟩:=vals1 r
  cases rx
  have hn:=line63
  rcases hq with hq | hq
  · obtain ⟨its,r',pl,hz⟩:=I.list hq
    have hlen:=r'.length
    exact Calls.call_len_list pl.isList (by simp only [List.size_toArray] <;> (first | lia | omega)) ⟨.int ys.length,H,I.tok _,⟨s.toks + 1,by rw [List.size_toArray,hlen]⟩,q⟩
  · obtain ⟨its,r',pl,hz⟩:=I.tuple hq
    have hlen:=r'.length
    exact len_tuple pl (by simp only [List.size_toArray] <;> (first | lia | omega)) ⟨.int ys.length,H,I.tok _,⟨s.toks + 1,by rw [List.size_toArray,hlen]⟩,q⟩
theorem call_len_str:CallR X (.builtin "len") (fun xs H Q=>∃ z,xs = [.str z] ∧ z.length ≤ sizeLine ∧ Q (.int z.length) H):=by
  intro pins s σ H xs us Q I r h
  obtain ⟨z,rfl,hz,q⟩:=h
  obtain ⟨u,rfl,t,rfl⟩:=vals1 r
  have hn:=line63
  exact len_str (by (first | lia | omega)) ⟨.int z.length,H,I.tok _,⟨_,rfl⟩,q⟩
theorem call_list_of:CallR X (.type "list") (fun xs H Q=>∃ p ys,xs = [.ref p] ∧ (SqL X.K H p ys ∨ SqT X.K H p ys) ∧ ∀ l,H l = none → Q (.ref l) (upd H l (.lst ys))):=by
  intro pins s σ H xs us Q I r h
  obtain ⟨p,ys,rfl,hq,q⟩:=h
  obtain ⟨u,rfl,rx⟩:=vals1 r
  cases rx
  have fin:∀ (its:List Value),Vals ys its → ys.length ≤ sizeLine → ∀ (h':Heap) (c':Nat),(∀ b o',s.heap.get? b = some o' → h'.get? b = some o') →
      h'.get? s.heap.objs.size = some { cls:=.type "list", dict:=none,data:=.seq its.toArray c',slots:=#[] } → EP X pins σ Q (.ref s.heap.objs.size) { s with heap:=h' }:=fun its r' hz h' c' kp e =>
    ⟨.ref s.heap.objs.size,_,I.laid (t':=s.toks) kp (Nat.le_refl _) (show ObjOk X.prog X.w _ h' _ (.lst ys) from ⟨hz,its,c',r',e⟩),rfl,q _ (I.hok.fresh (Nat.le_refl _))⟩
  rcases hq with hq | hq
  · obtain ⟨its,r',pl,hz⟩:=I.list hq
    have hlen:=r'.length
    obtain ⟨o,ho,hc,n,hd⟩:=pl.isList
    exact call_list_seq p (.inl rfl) ho hc hd (fun h' c' kp e=>fin its r' hz h' c' kp e) (by simp only [List.size_toArray] <;> (first | lia | omega))
  · obtain ⟨its,r',pl,hz⟩:=I.tuple hq
    have hlen:=r'.length
    obtain ⟨o,ho,hc,n,hd⟩:=pl
    exact call_list_seq p (.inr rfl) ho hc hd (fun h' c' kp e=>fin its r' hz h' c' kp e) (by simp only [List.size_toArray] <;> (first | lia | omega))
theorem call_tuple_of:CallR X (.type "tuple") (fun xs H Q=>∃ p ys,xs = [.ref p] ∧ ((SqL X.K H p ys ∧ ∀ l,H l = none → Q (.ref l) (upd H l (.tup ys))) ∨ (SqT X.K H p ys ∧ Q (.ref p) H))):=by
  intro pins s σ H xs us Q I r h
  obtain ⟨p,ys,rfl,h⟩:=h
  obtain ⟨u,rfl,rx⟩:=vals1 r
  cases rx
  rcases h with ⟨hq,q⟩ | ⟨hq,q⟩
  · obtain ⟨its,r',pl,hz⟩:=I.list hq
    have hlen:=r'.length
    refine call_tuple_list pl.isList (fun h' kp=>?_) (by simp only [List.size_toArray] <;> (first | lia | omega))
    have I1:Inv X pins σ H { s with heap:=h' }:=I.kept (t':=s.toks) kp
    have I2:Inv X pins σ (upd H h'.objs.size (.tup ys)) { s with heap:=h'.push { cls:=.type "tuple", data:=.seq its.toArray } } :=
      I1.laid (t':=s.toks) (fun b o e=>Heap.get?_push_of_some _ e) (Nat.le_refl _) (show ObjOk X.prog X.w _ _ _ (.tup ys) from ⟨hz,its,r',IsTup.new _ _⟩)
    exact ⟨.ref h'.objs.size,_,I2,rfl,q _ (I1.hok.fresh (Nat.le_refl _))⟩
  · obtain ⟨its,r',pl,hz⟩:=I.tuple hq
    exact call_tuple_same pl ⟨.ref p,H,I,rfl,q⟩
noncomputable def tyV (K:PySem.W.Frag) (T:String) (x:V) (H:Hp):Prop:=match x with
  | .str _=>T = "str"
  | .int _=>T = "int"
  | .ref p=>(T = "list" ∧ ∃ xs,SqL K H p xs) ∨ (T = "tuple" ∧ ∃ o,K.lookup p = some o ∧ o.cls = .type "tuple" ∧ o.dict = none) ∨
      (T = "dict" ∧ ((∃ kvs,H p = some (.dK kvs)) ∨ ∃ kvs,H p = some (.dT kvs))) ∨ (T = "set" ∧ ∃ S n,H p = some (.set S n))
  | _=>False
theorem tyV_is {pins:List (Addr × Obj)} {σ:St} {H:Hp} {s:Shared} {T:String} {x:V} {v:Value} (I:Inv X pins σ H s) (r:RelV x v) (ty:tyV X.K T x H) :
    s.TypeIs v T ∧ ∀ a,v = .ref a → ∃ ob,s.heap.get? a = some ob ∧ ob.dict = none:=by
  cases x with
  | str z =>
    obtain ⟨t,rfl⟩:=r
    cases (show T = "str" from ty)
    exact ⟨typeIs_str s z t,fun _ e=>nomatch e⟩
  | int i =>
    obtain ⟨t,rfl⟩:=r
    cases (show T = "int" from ty)
    exact ⟨typeIs_int s i t,fun _ e=>nomatch e⟩
  | ref p =>
    cases r
    rcases ty with ⟨rfl,xs,hq⟩ | ⟨rfl,o,hk,hc,hd⟩ | ⟨rfl,hk⟩ | ⟨rfl,S,n,hk⟩
    · obtain ⟨its,_,pl,_⟩:=I.list hq
      refine ⟨pl.isList.typeIs,fun a e=>?_⟩
      cases e
      obtain ⟨o,n,e,c,hd,_⟩:=pl
      exact ⟨o,e,hd⟩
    · refine ⟨⟨o,I.kIn p o hk,hc⟩,fun a e=>?_⟩
      cases e
      exact ⟨o,I.kIn _ o hk,hd⟩
    · have z:∃ o,s.heap.get? p = some o ∧ o.ExactDict:=by
        rcases hk with ⟨kvs,hk⟩ | ⟨kvs,hk⟩
        · obtain ⟨_,_,_,_,o,_,_,e,ex,_⟩:=I.hok p _ hk
          exact ⟨o,e,ex⟩
        · obtain ⟨_,_,_,_,o,_,_,e,ex,_⟩:=I.hok p _ hk
          exact ⟨o,e,ex⟩
      obtain ⟨o,e,ex⟩:=z
      refine ⟨⟨o,e,ex.1⟩,fun a e2=>?_⟩
      cases e2
      exact ⟨o,e,ex.2.1⟩
    · obtain ⟨o,_,_,_,e,ex,_⟩:=I.hok p _ hk
      refine ⟨⟨o,e,ex.1⟩,fun a e2=>?_⟩
      cases e2
      exact ⟨o,e,ex.2.1⟩
  | _=>exact False.elim ty
noncomputable def tBM (K:PySem.W.Frag) (T:String) (r:V → List V → Hp → VK → Prop) (to:TE) (t:TA):TE:=fun σ H Q=>to σ H fun x H1=>tyV K T x H1 ∧ t σ H1 fun xs H2=>r x xs H2 Q
variable {o e:Expr} {es:List Expr} {to:TE} {t:TA} {name:Str} {apos cpos:Pos} {T id:String} {r:V → List V → Hp → VK → Prop}
theorem pe_bm (pa:PlainAttrs T) (slot:Slot T name id) (hty:typeOf (.builtin id) = pure (.type "method_descriptor")) (hm:MtR X id r) (ho:PE X o to) (ha:PA X (e :: es) t)
    (hbase:attributeBase o name X.env (eval o X.env) = eval o X.env:=by rfl)
    (hfew:((backTo cpos (starEach (e :: es) X.env)).all (fun x=>!x.1) && (backToKw cpos (keywordEach [] X.env)).all (fun x=>x.1.isSome)
      && decide ((e :: es).length + ([]:List Keyword).length + (if ([]:List Keyword).isEmpty then 0 else 1) < 30)) = true:=by rfl)
    (hline:(apos.endLine == cpos.line) = true:=by rfl) (hs:starEach (e :: es) X.env = (false,eval e X.env) :: starEach es X.env:=by rfl) (hplain:(backTo cpos (starEach es X.env)).any (·.1) = false:=by rfl) :
    PE X (.Call (.Attribute o name apos) (e :: es) [] cpos) (tBM X.K T r to t):=by
  intro pins s σ H Q I h
  refine wpAny_Call_method_late hbase hfew hline rfl (thn (ho pins s σ H _ I h) fun v s1 ⟨x,H1,I1,r1,ty,q1⟩=>?_)
  obtain ⟨h1,h2⟩:=tyV_is I1 r1 ty
  refine ⟨T,id,pa,slot,hty,h1,h2,?_⟩
  have hA:=ha cpos pins s1 σ H1 _ I1 q1
  rw [hs] at hA ⊢
  refine Calls.callWith_builtin (by show (false || (backTo cpos (starEach es X.env)).any (·.1)) = false;rw [hplain] <;> rfl) (Calls.evalArgs_plain ?_)
  exact thn hA fun us s2 ⟨vs,H2,I2,r2,q2⟩=>hm pins s2 σ H2 x vs v us Q I2 r1 r2 q2
end
end L2
namespace L2
open PySem PySem.Spec PyProof.Rows
noncomputable def MtM (X:Cx) (id:String) (r:V → List V → Hp → VK → Prop):Prop :=
  ∀ (pins:List (Addr × Obj)) (s:Shared) (σ:St) (H:Hp) (x:V) (xs:List V) (v:Value) (us:List Value) (Q:VK),Inv X pins σ H s → RelV x v → Vals xs us → r x xs H Q →
    wpAny (model X.prog X.w) X.A (call (.builtin id) (v :: us)) (EP X pins σ Q) X.xe s
theorem Vals.one:∀ {x:V} {us:List Value},Vals [x] us → ∃ u,us = [u] ∧ RelV x u
  | _,_,.cons r .nil=>⟨_,rfl,r⟩
theorem Vals.rep {xs:List V} {us:List Value} (h:Vals xs us):∀ k:Nat,Vals (List.replicate k xs).flatten (List.replicate k us).flatten
  | 0=>.nil
  | k + 1=>by
    rw [List.replicate_succ,List.replicate_succ,List.flatten_cons,List.flatten_cons]
    exact Vals.append h (Vals.rep h k)
theorem foldl_rep (its:List Value):∀ (k:Nat) (acc:List Value),
    List.foldl (fun x1 x2=>x1 ++ x2) acc.toArray (List.replicate k its.toArray) = (acc ++ (List.replicate k its).flatten).toArray
  | 0,acc=>by simp
  | k + 1,acc=>by
    have e:acc.toArray ++ its.toArray = (acc ++ its).toArray:=by simp
    have e2:(acc ++ its) ++ (List.replicate k its).flatten = acc ++ (List.replicate (k + 1) its).flatten:=by
      rw [List.replicate_succ,List.flatten_cons,List.append_assoc]
    rw [← e2,← foldl_rep its k (acc ++ its),← e,List.replicate_succ,List.foldl_cons]
section
variable {X:Cx} {pins:List (Addr × Obj)} {σ:St} {H:Hp} {s:Shared} {l b:Addr} {xs ys zs:List V}
theorem Inv.lset {its its':List Value} {n:Nat} {f:Array Value → Array Value} {t':Nat} (I:Inv X pins σ H s) (hH:H l = some (.lst xs))
    (e:s.heap.get? l = some { cls:=.type "list", data:=.seq its.toArray n }) (hf:f its.toArray = its'.toArray) (hv:Vals ys its') (hz:ys.length ≤ sizeLine) :
    Inv X pins σ (upd H l (.lst ys)) { s with heap:=s.heap.update l (Obj.mapSeq f),toks:=t' }:=by
  have q:=PySem.IsL.update e f
  rw [hf] at q
  refine I.write (x:=l) (e:=l) (by rw [hH];exact trivial) (.inl rfl) (fun b' u hb hu=>(Heap.get?_update_other s.heap (Obj.mapSeq f) (Ne.symm hb)).trans hu) ⟨_,q⟩ ?_
  exact ⟨hz,its',_,hv,q⟩
theorem Inv.lnew {its:List Value} {t':Nat} (I:Inv X pins σ H s) (hv:Vals ys its) (hz:ys.length ≤ sizeLine) :
    Inv X pins σ (upd H s.heap.objs.size (.lst ys)) { s with heap:=s.heap.push { cls:=.type "list", data:=.seq its.toArray },toks:=t' } :=
  I.laid (fun _ _ q=>Heap.get?_push_of_some _ q) (Nat.le_refl _) ⟨hz,its,0,hv,Heap.get?_push_size _ rfl⟩
theorem Inv.fresh (I:Inv X pins σ H s):H s.heap.objs.size = none:=I.hok.fresh (Nat.le_refl _)
theorem Inv.lstM (I:Inv X pins σ H s) (hH:H l = some (.lst xs)):xs.length ≤ sizeLine ∧ ∃ (its:List Value) (n:Nat),Vals xs its ∧ xs.length = its.length ∧ s.heap.get? l = some { cls:=.type "list", data:=.seq its.toArray n }:=by
  obtain ⟨z,its,n,r,e⟩:=I.hok l _ hH
  exact ⟨z,its,n,r,r.length,e⟩
theorem notLongL {n:Nat} (h:n ≤ sizeLine):Builtin.List.listTooLong n = false:=by
  unfold Builtin.List.listTooLong
  exact decide_eq_false (by (first | lia | omega))
end
section
variable {X:Cx}
noncomputable def rAppend:V → List V → Hp → VK → Prop:=fun x vs H Q=>∃ l xs y,x = .ref l ∧ vs = [y] ∧ H l = some (.lst xs) ∧ xs.length < sizeLine ∧ Q .non (upd H l (.lst (xs ++ [y])))
theorem mt_append:MtM X "list.append" rAppend:=by
  intro pins s σ H x vs v us Q I rx rv h
  obtain ⟨l,xs,y,rfl,rfl,hH,hz,q⟩:=h
  cases rx
  obtain ⟨u,rfl,ru⟩:=rv.one
  obtain ⟨z,its,n,r,hl,e⟩:=I.lstM hH
  refine call_meets F.slot_list_append ⟨_,e,rfl⟩ F.entry_list_append (F.args_list_append_2 _ _) (PySem.list_append l its.toArray n u (by rw [List.size_toArray];(first | lia | omega))) ⟨e,?_⟩
  refine ⟨.non,_,I.lset (its':=its ++ [u]) hH e (by simp) (r.append (.cons ru .nil)) ?_,rfl,q⟩
  rw [List.length_append,List.length_singleton]
  (first | lia | omega)
noncomputable def rExtend:V → List V → Hp → VK → Prop:=fun x vs H Q=>∃ l b xs zs,x = .ref l ∧ vs = [.ref b] ∧ H l = some (.lst xs) ∧ H b = some (.lst zs) ∧ xs.length + zs.length ≤ sizeLine ∧ Q .non (upd H l (.lst (xs ++ zs)))
theorem mt_extend:MtM X "list.extend" rExtend:=by
  intro pins s σ H x vs v us Q I rx rv h
  obtain ⟨l,b,xs,zs,rfl,rfl,hH,hB,hz,q⟩:=h
  cases rx
  obtain ⟨u,rfl,ru⟩:=rv.one
  cases ru
  obtain ⟨z,its,n,r,hl,e⟩:=I.lstM hH
  obtain ⟨z2,its2,n2,r2,hl2,e2⟩:=I.lstM hB
  have hsz:its.toArray.size + its2.toArray.size ≤ sizeLine:=by rw [List.size_toArray,List.size_toArray];(first | lia | omega)
  have hlong:¬ (!its.toArray.isEmpty && Builtin.List.listTooLong (its.toArray.size + its2.toArray.size)) = true:=by
    rw [notLongL hsz,Bool.and_false]
    exact Bool.false_ne_true
  refine call_meets F.slot_list_extend ⟨_,e,rfl⟩ F.entry_list_extend (F.args_list_extend_2 _ _)
    (AutoSeq1.list_extend_list_list_0 l its.toArray n b its2.toArray n2 hlong (by rw [List.size_toArray];(first | lia | omega)) (by (first | lia | omega))) ⟨e,e2,?_⟩
  refine ⟨.non,_,I.lset (its':=its ++ its2) hH e (by simp) (r.append r2) ?_,rfl,q⟩
  rw [List.length_append]
  (first | lia | omega)
theorem len_rep {α:Type} (xs:List α) (k:Nat):(List.replicate k xs).flatten.length = k * xs.length:=by
  induction k with
  | zero=>simp
  | succ k ih=>rw [List.replicate_succ,List.flatten_cons,List.length_append,ih,Nat.succ_mul,Nat.add_comm]
end
end L2
namespace Att
open PySem PySem.W PySem.Calls PyProof.Rows
theorem ints_of_wellAll {P:Params} {h:Heap}:∀ (ns:List Int) (vs:List Value),WellAll P h vs (ns.map WData.int) → IntsAre vs ns:=by
  intro ns
  induction ns with
  | nil =>
    intro vs w
    rw [List.map_nil] at w
    cases w
    exact .nil
  | cons n ns ih =>
    intro vs w
    rw [List.map_cons] at w
    cases w with
    | cons a b =>
      cases a
      exact .cons _ _ (ih _ b)
theorem script_of {l:OpenLaw} {n:Nat} (hn:l.most = some n) {P:Params} {h:Heap} {args:List WData} {vals:List Value}
    (hpre:l.row.toRowW.claim.pre args = true) (hwl:WellAll P h vals args) :
    ∃ a vs ns,vals = [Value.ref a] ∧ args = [WData.list (ns.map WData.int)] ∧ h.get? a = some { cls:=.type "list", data:=.seq vs.toArray } ∧ IntsAre vs ns ∧ ns.length ≤ n:=by
  have hsh:WShape.hasAll [] args [.list .int] = true:=(pre_splitW hpre).1
  have hc:l.pre.holds [] { args:=args } = true:=(pre_splitW hpre).2
  obtain ⟨d,r,rfl,h1,h2⟩:=hasAllW_cons hsh
  obtain rfl:=hasAllW_nil h2
  obtain ⟨xs,rfl,h3⟩:=hasW_list h1
  obtain ⟨ns,rfl⟩:=items_int h3
  have hlen:ns.length ≤ n:=by
    unfold OpenLaw.pre at hc
    have h4:(WTm.not (.lt (.lit (.int (n:Int))) (.len (.arg 0)))).holds [] { args:=[.list (ns.map .int)] } = true:=by
      have h4:=(holds_andW hc).1
      rw [hn] at h4
      exact h4
    have h5:=condW_of h4 (w_not (w_lt w_lit (w_len_list (w_arg rfl))))
    rw [List.length_map] at h5
    refine Nat.le_of_not_lt fun q=>?_
    have q':(n:Int) < ((ns.length:Nat):Int):=by (first | lia | omega)
    first
      | (rw [decide_eq_true q'] at h5;exact absurd h5 (by decide))
      | (simp at h5;(first | lia | omega))
  cases hwl with
  | cons w1 w2 =>
    cases w2
    cases w1 with
    | list ho hall=>exact ⟨_,_,ns,rfl,rfl,ho,ints_of_wellAll ns _ hall,hlen⟩
theorem post_true (l:OpenLaw) (args:List WData):l.row.toRowW.claim.post args (.bool true) args = true :=
  postW_of (r:=l.row.toRowW) (X:=(true == true))
    (show WShape.has [] (.bool true) .bool = true by first | rfl | decide | simp [WShape.has,WShape.arms,WShape.armsAll])
    (show (WTm.eq .res (.lit (.bool true))).value [] { args:=args,res:=some (.bool true),after:=args } = some (.bool (true == true)) from w_eq_bool (w_res rfl) w_lit) rfl
theorem attach_call {l:OpenLaw} {n:Nat} {q:Program} {loose:List Str} {XP:(Str → Option Value) → Heap → Prop} {YP:World → Heap → Prop} {d:DefRec}
    (hn:l.most = some n) (hdf:d.params.defaults = [])
    (call:∀ (w:World) (s₀ s₁:Shared) (mg mb:Str → Option Value) (fa:Addr) (o:Obj) (pm cd doc:Value) (a:Addr) (vs:List Value) (ns:List Int),
      Ground q loose [] XP w s₀ mg mb s₁.heap → YP w s₁.heap →
      s₁.heap.get? fa = some o → o.data = .func (docDef d.name d.params d.body d.scope pm cd doc) → s₁.heap.CodeRec cd d.name → mg d.name = some (.ref fa) →
      s₁.heap.get? a = some { cls:=.type "list", data:=.seq vs.toArray } → IntsAre vs ns → ns.length ≤ n → s₁.gens = #[] →
      codeAny (model l.prog w) callerA (.call (.ref fa) ⟨[.ref a],[]⟩) (fun r s'=>r = .ok (.ret (.bool true)) ∧ OldK s₁.heap s'.heap ∧ s'.os = s₁.os ∧ AllBare s'.gens) s₁) :
    WalkO q loose XP YP l.row.toRowW d [] (fun f vs=>PySem.call f vs):=by
  intro w s₀ s₁ mg mb G Y fa o pm cd doc dV kV ho hd hcd hD hmg hg args vals as hpre hlay hrd hwl hlo
  obtain rfl:dV = .none:=Dflts.none hD hdf
  obtain rfl:kV = .none:=Dflts.noKw hD
  obtain ⟨a,vs,ns,rfl,rfl,hobj,hints,hlen⟩:=script_of hn hpre hwl
  refine enter_call (codeAny_mono (call w s₀ s₁ mg mb fa o pm cd doc a vs ns G Y ho (fd_plain hd) hcd hmg hobj hints hlen hg) fun r s' hq=>?_)
  obtain ⟨rfl,h2,h3,h4⟩:=hq
  exact ⟨.inl ⟨.bool true,.bool true,[],rfl,fun _=>rfl,.bool true,post_true l _,fun _=>⟨List.Pairwise.nil,fun _ hm=>(nomatch hm)⟩⟩,h2,h3,h4⟩
end Att
namespace L2
open PySem PySem.Spec PyProof.Rows
theorem vals_ints:∀ {vs:List Value} {ns:List Int},IntsAre vs ns → Vals (ns.map V.int) vs
  | _,_,.nil=>.nil
  | _,_,.cons n t h=>.cons ⟨t,rfl⟩ (vals_ints h)
noncomputable def Only (H:Hp):Prop:=∀ b,H b = none ∨ ∃ o xs,H b = some (.frz o (.lst xs))
theorem law_call {P:Program} {w:World} {K:PySem.W.Frag} {mg mb:Str → Option Value} {CX:CXT} {k:Nat} {fa a:Addr} {fd:FuncData} {x:Str} {sp:Sp} {s₁:Shared} {vs:List Value} {ns:List Int}
    (KX:K.In s₁.heap) (hns:s₁.heap.Ns mainGlobals mg) (hb:s₁.heap.Ns builtinsNs mb) (hbb:∀ x:Str,x ≠ "__name__" → mb x = bootBuiltins x) (hlim:s₁.heap.NoLimit) (hg:s₁.gens = #[])
    (ha:s₁.heap.get? a = some { cls:=.type "list", data:=.seq vs.toArray }) (hi:IntsAre vs ns) (hl:ns.length ≤ sizeLine) (hr:Room k callerA)
    (F:∀ base:Heap,K.In base → base.Ns mainGlobals mg → FnOk P w K mg base CX k fa fd [x] sp) (hbind:∀ (s:Shared) (u:Value),BindsTo s fd ⟨[u],[]⟩ [(x,u)])
    (hsp:∀ H:Hp,Only H → SqL K H a (ns.map V.int) → sp [.ref a] H (fun v _=>v = .bl true) fun _ _ _=>False)
    (hCX:∀ H e s',CX [] H s₁ (fun _ _ _=>False) e s' → False) :
    codeAny (model P w) callerA (.call (.ref fa) ⟨[.ref a],[]⟩) (fun r s'=>r = .ok (.ret (.bool true)) ∧ OldK s₁.heap s'.heap ∧ s'.os = s₁.os ∧ AllBare s'.gens) s₁:=by
  have rv:=vals_ints hi
  have lenV:=hi.length
  have core:∀ H:Hp,Only H → SqL K H a (ns.map V.int) → HOk P w H s₁.heap → (∀ b,H b ≠ none → b = a) → (H a ≠ none → K.lookup a = none) →
      codeAny (model P w) callerA (.call (.ref fa) ⟨[.ref a],[]⟩) (fun r s'=>r = .ok (.ret (.bool true)) ∧ OldK s₁.heap s'.heap ∧ s'.os = s₁.os ∧ AllBare s'.gens) s₁:=by
    intro H hO hS hok hA hK
    have base_of:∀ {b:Addr} {o:Obj},s₁.heap.get? b = some o → H b = none → (hidT s₁.heap H).get? b = some o:=fun e n=>hidT_get e n
    have noA:∀ {b:Addr} {o:Obj} {es:Array DictEntry} {ep:Nat},s₁.heap.get? b = some o → o.data = .dict es ep → H b = none:=fun {b o es ep} e d=>by
      cases q:H b with
      | none=>rfl
      | some u =>
        have e':b = a:=hA b (by rw [q];simp)
        subst e'
        rw [ha] at e;cases e
        have d':Data.seq vs.toArray _ = Data.dict es ep:=d
        cases d'
    have nsK:∀ {b:Addr} {m:Str → Option Value},s₁.heap.Ns b m → (hidT s₁.heap H).Ns b m:=fun {b m} ⟨o,es,ep,e,d,r⟩=>⟨o,es,ep,base_of e (noA e d),d,r⟩
    have hKb:K.In (hidT s₁.heap H):=fun b o e=>base_of (KX b o e) (by
      cases q:H b with
      | none=>rfl
      | some u =>
        have e':b = a:=hA b (by rw [q];simp)
        subst e'
        rw [hK (by rw [q];simp)] at e;cases e)
    have hM:Mod K mg (hidT s₁.heap H):=⟨hKb,nsK hns,⟨mb,nsK hb,hbb⟩,let ⟨mc,h1,h2⟩:=hlim;⟨mc,nsK h1,h2⟩⟩
    have e0:Env0 P w K mg (hidT s₁.heap H) callerA [] s₁ H:=⟨rfl,hM,fun b o e=>of_hidT e,Nat.le_of_eq (hidT_size _ _),trivial,fun b hb=>absurd (show b ∈ ([]:List Addr) from hb) (by simp),hok,.of_eq hg⟩
    refine codeAny_mono ((F _ hKb (nsK hns)).run callerA [] s₁ H ⟨[.ref a],[]⟩ [.ref a] [.ref a] _ _ hr e0 (hbind s₁ (.ref a)) (.cons rfl .nil) (hsp H hO hS)) fun r s' h=>?_
    cases r with
    | error e=>exact (hCX H e s' h).elim
    | ok fl =>
      cases fl with
      | next=>exact False.elim h
      | brk=>exact False.elim h
      | cont=>exact False.elim h
      | ret u =>
        obtain ⟨v,H',os,bare,un,hok',r',q⟩:=h
        have q':v = .bl true:=q
        subst q'
        obtain rfl:u = Value.bool true:=r'
        refine ⟨rfl,OldK.of_keep fun b o e=>?_,os,bare⟩
        cases q:H b with
        | none=>exact un.keep b o e q (by intro z;exact absurd (show b ∈ ([]:List Addr) from z) (by simp)) (by simp)
        | some u =>
          rcases hO b with z | ⟨ob,xs,z⟩
          · rw [q] at z;cases z
          · have z2:=un.frzs b ob _ z
            obtain ⟨e1,_⟩:=hok b _ z
            obtain ⟨e2,_⟩:=hok' b _ z2
            rw [e] at e1;cases e1
            exact e2
  cases hk:K.lookup a with
  | some o =>
    have e:=KX a o hk
    rw [ha] at e
    cases e
    refine core (fun _=>none) (fun _=>.inl rfl) (.inr ⟨_,vs.toArray,_,hk,rfl,rfl,rfl,by rw [List.size_toArray,lenV];exact hl,by simpa using rv⟩) (fun b u z=>by have z':(none:Option HO) = some u:=z;cases z') (fun b z=>absurd rfl z) fun z=>absurd rfl z
  | none =>
    refine core (fun b=>if b = a then some (.frz { cls:=.type "list", data:=.seq vs.toArray } (.lst (ns.map V.int))) else none) (fun b=>?_) (.inl (.inr ⟨{ cls:=.type "list", data:=.seq vs.toArray },if_pos rfl⟩)) (fun b u z=>?_) (fun b z=>?_) fun _=>hk
    · by_cases hb:b = a
      · exact .inr ⟨_,_,if_pos hb⟩
      · exact .inl (if_neg hb)
    · by_cases hb:b = a
      · have z':=(if_pos hb).symm.trans z
        cases z'
        subst hb
        exact ⟨ha,by rw [List.length_map];exact hl,vs,_,rv,ha⟩
      · have z':=(if_neg hb).symm.trans z
        cases z'
    · by_cases hb:b = a
      · exact hb
      · exact absurd (if_neg hb) z
end L2
namespace L2
open PySem PySem.Spec PyProof.Rows
theorem walk_of {l:PySem.W.OpenLaw} {n k:Nat} {q:Program} {loose:List Str} {XP:(Str → Option Value) → Heap → Prop} {YP:World → Heap → Prop} {d:DefRec} {K:Params → PySem.W.Frag} {CX:World → CXT} {sp:World → Sp} {x:Str}
    (hn:l.most = some n) (hn2:n ≤ sizeLine) (hdf:d.params.defaults = []) (hr:Room k callerA)
    (hY:∀ (w:World) (h:Heap),YP w h → (K w.params).In h)
    (F:∀ (w:World) (mg:Str → Option Value) (fa:Addr) (h:Heap),(K w.params).In h → h.Ns mainGlobals mg → mg d.name = some (.ref fa) →
      ∃ fd:FuncData,(∀ (s:Shared) (u:Value),BindsTo s fd ⟨[u],[]⟩ [(x,u)]) ∧
        ∀ base:Heap,(K w.params).In base → base.Ns mainGlobals mg → FnOk l.prog w (K w.params) mg base (CX w) k fa fd [x] (sp w))
    (hsp:∀ (w:World) (H:Hp) (a:Addr) (ns:List Int),ns.length ≤ n → Only H → SqL (K w.params) H a (ns.map V.int) → sp w [.ref a] H (fun v _=>v = .bl true) fun _ _ _=>False)
    (hCX:∀ (w:World) (H:Hp) (s:Shared) (e:Value) (s':Shared),CX w [] H s (fun _ _ _=>False) e s' → False) :
    PySem.W.WalkO q loose XP YP l.row.toRowW d [] (fun f vs=>PySem.call f vs):=by
  refine Att.attach_call hn hdf fun w s₀ s₁ mg mb fa o pm cd doc a vs ns G Y ho hd hcd hmg hobj hints hlen hg=>?_
  have KX:=hY w _ Y
  obtain ⟨fd,hb,hF⟩:=F w mg fa _ KX G.T.g hmg
  exact law_call KX G.T.g G.T.b G.T.builtins G.T.nolimit hg hobj hints (Nat.le_trans hlen hn2) hr hF hb (fun H hO hS=>hsp w H a ns hlen hO hS) fun H e s'=>hCX w H s₁ e s'
end L2
namespace L2
open PySem PySem.Spec PyProof.Rows
noncomputable def defArgs (s:Stmt):Arguments:=match s with
  | .FunctionDef _ a _ _ _ _ _ _ _ _=>a
  | _=>{ posonlyargs:=[],args:=[],vararg:=none,kwonlyargs:=[],kw_defaults:=[],kwarg:=none,defaults:=[] }
noncomputable def defBody (s:Stmt):List Stmt:=match s with
  | .FunctionDef _ _ b _ _ _ _ _ _ _=>b
  | _=>[]
noncomputable def defScope (s:Stmt):Scope:=match s with
  | .FunctionDef _ _ _ _ _ _ sc _ _ _=>sc
  | _=>{ kind:=.function,names:=[],isGenerator:=false,isCoroutine:=false }
noncomputable abbrev E0:XK:=fun _ _ _=>False
set_option genInjectivity false in
structure Fun (K:PySem.W.Frag) (x qual:Str) (st:Stmt) (f:Addr) (fd:FuncData):Prop where
  ex:∃ (oc:Value) (od:Option Addr) (kV doc pm:Value) (an:Option Addr) (cdv ct:Value) (osl:Array (Option Value)),
    fd = PySem.W.fnOf x qual (defArgs st) (defBody st) (defScope st) .none kV doc pm an cdv ct ∧ K.lookup f = some ⟨oc,od,.func fd,osl⟩ ∧ PySem.W.codeIn K cdv qual = true
  kp:PySem.W.keepIn K (.ref f) = true
section
variable {P:Program} {w:World} {K:PySem.W.Frag} {mg:Str → Option Value} {base:Heap}
theorem Fun.binds {x qual:Str} {st:Stmt} {f:Addr} {fd:FuncData} {ps:List Str} (F:Fun K x qual st f fd)
    (h:∀ (kV doc pm:Value) (an:Option Addr) (cdv ct:Value) (us:List Value),us.length = ps.length → bindArgs (PySem.W.fnOf x qual (defArgs st) (defBody st) (defScope st) .none kV doc pm an cdv ct) ⟨us,[]⟩ = pure (ps.zip us)):Binds K fd ps []:=by
  obtain ⟨oc,od,kV,doc,pm,an,cdv,ct,osl,rfl,lk,hcd⟩:=F.ex
  exact .all (h kV doc pm an cdv ct)
theorem fun_mk {x qual:Str} {st:Stmt} {f:Addr} {oc:Value} {od an:Option Addr} {osl:Array (Option Value)} {kV doc pm cdv ct:Value} (l:K.lookup f = some ⟨oc,od,.func (PySem.W.fnOf x qual (defArgs st) (defBody st) (defScope st) .none kV doc pm an cdv ct),osl⟩)
    (c:PySem.W.codeIn K cdv qual = true) (k:PySem.W.keepIn K (.ref f) = true):Fun K x qual st f (PySem.W.fnOf x qual (defArgs st) (defBody st) (defScope st) .none kV doc pm an cdv ct):=⟨⟨oc,od,kV,doc,pm,an,cdv,ct,osl,rfl,l,c⟩,k⟩
end
theorem small1000 {n:Nat} (h:n ≤ 1000):n < sizeLine:=Nat.lt_of_le_of_lt h (by decide)
noncomputable def Same (H H':Hp):Prop:=∀ b o,H b = some o → H' b = some o
theorem Same.refl (H:Hp):Same H H:=fun _ _ h=>h
theorem Same.trans {H H1 H2:Hp} (a:Same H H1) (b:Same H1 H2):Same H H2:=fun c o h=>b c o (a c o h)
theorem Same.free {H H':Hp} (e:Same H H') {l:Addr} (h:H' l = Option.none):H l = Option.none:=by
  cases q:H l with
  | none=>rfl
  | some o =>
    rw [e l o q] at h
    cases h
end L2
set_option maxRecDepth 100000
namespace L2
open PySem PySem.Spec PyProof.Rows
section
variable {κ:Type} [DecidableEq κ]
noncomputable def valV (kvs:List (κ × V)) (k:κ):Option V:=(kvs.find? fun kv=>decide (kv.1 = k)).map (·.2)
noncomputable def putK (kvs:List (κ × V)) (k:κ) (v:V):List (κ × V) :=
  if (kvs.any fun kv=>decide (kv.1 = k)) = true then kvs.map (fun kv=>if kv.1 = k then (kv.1,v) else kv) else kvs ++ [(k,v)]
theorem valV_pos {p:κ × V} {r:List (κ × V)} {k:κ} (e:p.1 = k):valV (p :: r) k = some p.2:=by simp [valV,List.find?_cons,e]
theorem valV_neg {p:κ × V} {r:List (κ × V)} {k:κ} (e:¬ p.1 = k):valV (p :: r) k = valV r k:=by simp [valV,List.find?_cons,e]
theorem RelO.isSome_eq {o:Option V} {u:Option Value} (r:RelO o u):o.isSome = u.isSome:=by
  cases o with
  | none=>cases u with
    | none=>rfl
    | some _=>exact (show False from r).elim
  | some _=>cases u with
    | none=>exact (show False from r).elim
    | some _=>rfl
theorem KV.val {kvs:List (κ × V)} {vs:List (κ × Value)} (r:KV kvs vs) (k:κ):RelO (valV kvs k) (valueAt vs k):=by
  unfold KV at r
  induction r with
  | nil=>exact True.intro
  | @cons p q ps qs h t ih =>
    obtain ⟨h1,h2⟩:=h
    by_cases e:p.1 = k
    · have e':q.1 = k:=h1.symm.trans e
      have b:valueAt (q :: qs) k = some q.2:=by simp [valueAt,List.find?_cons,e']
      rw [valV_pos e,b];exact h2
    · have e':¬ q.1 = k:=fun z=>e (h1.trans z)
      have b:valueAt (q :: qs) k = valueAt qs k:=by simp [valueAt,List.find?_cons,e']
      rw [valV_neg e,b];exact ih
theorem KV.length {kvs:List (κ × V)} {vs:List (κ × Value)} (r:KV kvs vs):kvs.length = vs.length:=Paired.length r
end
theorem kV_is {P:Program} {w:World} {k:Key} {u:Value} (r:RelV (kV k) u):(mixKind P w).is k u = true:=by
  cases k with
  | inl i=>obtain ⟨t,e⟩:=(show ∃ t,u = Value.int i t from r);subst e;exact mixKind_int P w i t
  | inr x=>obtain ⟨t,e⟩:=(show ∃ t,u = Value.str x t from r);subst e;exact mixKind_str P w x t
theorem items_are {P:Program} {w:World}:∀ {ks:List Key} {us:List Value},Vals (ks.map kV) us → ItemsAre (mixKind P w) ks us
  | [],_,r=>by rw [List.map_nil] at r;cases r;exact .nil
  | k :: ks,_,r=>by
    rw [List.map_cons] at r
    cases r with
    | cons h t=>exact .cons (kV_is h) (items_are t)
noncomputable abbrev KT (H:Hp):List (List Key × V) → List (List Key × Addr × Value) → Prop:=Paired fun p q=>p.1 = q.1 ∧ H q.2.1 = some (.tup (p.1.map kV)) ∧ RelV p.2 q.2.2
theorem KT.val {H:Hp} {kvs:List (List Key × V)} {xs:List (List Key × Addr × Value)} (r:KT H kvs xs) (k:List Key):RelO (valV kvs k) ((atKey xs k).map (·.2)):=by
  induction r with
  | nil=>exact True.intro
  | @cons p q ps qs h t ih =>
    obtain ⟨h1,_,h2⟩:=h
    by_cases e:p.1 = k
    · have e':q.1 = k:=h1.symm.trans e
      have b:atKey (q :: qs) k = some q.2:=by simp [atKey,List.find?_cons,e']
      rw [valV_pos e,b];exact h2
    · have e':¬ q.1 = k:=fun z=>e (h1.trans z)
      have b:atKey (q :: qs) k = atKey qs k:=by simp [atKey,List.find?_cons,e']
      rw [valV_neg e,b];exact ih
section
variable {P:Program} {w:World} {H:Hp} {h:Heap} {a:Addr}
theorem rd_of {u:HO} (ok:HOk P w H h) (e:Rd H a u):ObjOk P w H h a u:=e.ok ok
theorem dk_rd {kvs:List (Key × V)} (ok:HOk P w H h) (e:Rd H a (.dK kvs)):kvs.length ≤ sizeLine ∧ (a == sysModules) = false ∧ ∃ vs,KV kvs vs ∧ h.DictOf (mixKind P w) a vs :=
  show ObjOk P w H h a (.dK kvs) from rd_of ok e
theorem key_of {ks:List Key} (ok:HOk P w H h) (e:H a = some (.tup (ks.map kV))):(tupleKind (mixKind P w)).is h ks a:=by
  obtain ⟨_,its,r,o,h1,h2,n,h3⟩:=(show ObjOk P w H h a (.tup (ks.map kV)) from ok a _ e)
  exact ⟨o,its.toArray,n,h1,h2,h3,by simpa using items_are r⟩
theorem dt_rd {kvs:List (List Key × V)} (ok:HOk P w H h) (e:Rd H a (.dT kvs)):kvs.length ≤ sizeLine ∧ (a == sysModules) = false ∧
    ∃ xs,KT H kvs xs ∧ h.DictOfH (tupleKind (mixKind P w)) a xs:=by
  obtain ⟨z,y,xs,r,o,es,ep,h1,h2,h3,h4,h5⟩:=(show ObjOk P w H h a (.dT kvs) from rd_of ok e)
  refine ⟨z,y,xs,r,o,es,ep,h1,h2,h3,h4,fun x hx=>?_,h5⟩
  have all:∀ {l:List (List Key × V)} {m:List (List Key × Addr × Value)},KT H l m → ∀ x ∈ m,(tupleKind (mixKind P w)).is h x.1 x.2.1:=by
    intro l m q
    induction q with
    | nil=>intro x hx;exact nomatch hx
    | @cons p q ps qs hq t ih =>
      intro x hx
      rcases List.mem_cons.mp hx with e | hx
      · subst e
        exact key_of ok (by rw [← hq.1];exact hq.2.1)
      · exact ih x hx
  exact all r x hx
end
noncomputable def DGet (H:Hp) (a:Addr) (y:V) (r:Option V):Prop :=
  (∃ kvs k,Rd H a (.dK kvs) ∧ y = kV k ∧ r = valV kvs k) ∨ ∃ kvs k b,Rd H a (.dT kvs) ∧ y = .ref b ∧ H b = some (.tup (k.map kV)) ∧ r = valV kvs k
noncomputable def DPut (H:Hp) (a:Addr) (y v:V) (H':Hp):Prop :=
  (∃ kvs k,H a = some (.dK kvs) ∧ y = kV k ∧ kvs.length < sizeLine ∧ H' = upd H a (.dK (putK kvs k v))) ∨
  ∃ kvs k b,H a = some (.dT kvs) ∧ y = .ref b ∧ H b = some (.tup (k.map kV)) ∧ kvs.length < sizeLine ∧ H' = upd H a (.dT (putK kvs k v))
theorem DGet.k {H:Hp} {a:Addr} {kvs:List (Key × V)} {k:Key} (e:H a = some (.dK kvs)):DGet H a (kV k) (valV kvs k):=.inl ⟨kvs,k,.inl e,rfl,rfl⟩
section
variable {X:Cx} {pins:List (Addr × Obj)} {σ:St} {H:Hp} {s:Shared} {a:Addr} {y v:V} {u r:Value} {o:Option V} {A:Around} {E:Value → Shared → Prop}
theorem d_getItem {Q:Value → Shared → Prop} (hu:A.units + 1 < cLine) (I:Inv X pins σ H s) (g:DGet H a y (some v)) (ry:RelV y u) (h:∀ w' s',Inv X pins σ H s' → RelV v w' → Q w' s') :
    wpAny (model X.prog X.w) A (getItem (.ref a) u) Q E s:=by
  rcases g with ⟨kvs,k,e,ey,l⟩ | ⟨kvs,k,b,e,ey,eb,l⟩
  · subst ey
    obtain ⟨z,hd,vs,rel,dd⟩:=dk_rd I.hok e
    obtain ⟨w',hw,rw'⟩:=RelO.some_of (v:=v) (o:=valueAt vs k) (by rw [l];exact rel.val k)
    exact wpAny_getItem_of (kV_is ry) dd.mapOf hw (h w' _ (I.tok _) rw')
  · subst ey
    cases (show u = Value.ref b from ry)
    obtain ⟨z,hd,xs,rel,dd⟩:=dt_rd I.hok e
    obtain ⟨w',hw,rw'⟩:=RelO.some_of (v:=v) (o:=(atKey xs k).map (·.2)) (by rw [l];exact rel.val k)
    obtain ⟨p,hp,hp2⟩:=Option.map_eq_some_iff.mp hw
    refine wpAny_getItem_heap (tupleKind_room_in1 hu) (key_of I.hok eb) dd hp ?_
    rw [hp2]
    exact h w' _ (I.tok _) rw'
theorem d_in {Q:Value → Shared → Prop} (hu:A.units + 1 < cLine) (I:Inv X pins σ H s) (g:DGet H a y o) (ry:RelV y u) (h:∀ s',Inv X pins σ H s' → Q (.bool o.isSome) s') :
    wpAny (model X.prog X.w) A (compareOp .In u (.ref a)) Q E s:=by
  rcases g with ⟨kvs,k,e,ey,l⟩ | ⟨kvs,k,b,e,ey,eb,l⟩
  · subst ey
    obtain ⟨z,hd,vs,rel,dd⟩:=dk_rd I.hok e
    refine wpAny_in_of (kV_is ry) hd dd.mapOf ?_
    rw [← (rel.val k).isSome_eq,← l]
    exact h _ (I.tok _)
  · subst ey
    cases (show u = Value.ref b from ry)
    obtain ⟨z,hd,xs,rel,dd⟩:=dt_rd I.hok e
    refine wpAny_in_heap (tupleKind_room_in1 hu) (key_of I.hok eb) hd dd ?_
    have q:=(rel.val k).isSome_eq
    rw [Option.isSome_map] at q
    rw [← q,← l]
    exact h _ (I.tok _)
theorem d_notIn {Q:Value → Shared → Prop} (hu:A.units + 1 < cLine) (I:Inv X pins σ H s) (g:DGet H a y o) (ry:RelV y u) (h:∀ s',Inv X pins σ H s' → Q (.bool (!o.isSome)) s') :
    wpAny (model X.prog X.w) A (compareOp .NotIn u (.ref a)) Q E s:=by
  rcases g with ⟨kvs,k,e,ey,l⟩ | ⟨kvs,k,b,e,ey,eb,l⟩
  · subst ey
    obtain ⟨z,hd,vs,rel,dd⟩:=dk_rd I.hok e
    refine wpAny_notIn_of (kV_is ry) hd dd.mapOf ?_
    rw [← (rel.val k).isSome_eq,← l]
    exact h _ (I.tok _)
  · subst ey
    cases (show u = Value.ref b from ry)
    obtain ⟨z,hd,xs,rel,dd⟩:=dt_rd I.hok e
    refine wpAny_notIn_heap (tupleKind_room_in1 hu) (key_of I.hok eb) hd dd ?_
    have q:=(rel.val k).isSome_eq
    rw [Option.isSome_map] at q
    rw [← q,← l]
    exact h _ (I.tok _)
end
section
variable {X:Cx} {pins:List (Addr × Obj)} {σ:St} {H:Hp} {s:Shared} {a:Addr} {kvs:List (Key × V)} {k:Key} {u:Value} {A:Around} {E:Value → Shared → Prop}
theorem d_len {Q:Value → Shared → Prop} (I:Inv X pins σ H s) (e:Rd H a (.dK kvs)) (h:∀ t s',Inv X pins σ H s' → Q (.int kvs.length t) s'):wpAny (model X.prog X.w) A (call (.builtin "len") [.ref a]) Q E s:=by
  obtain ⟨z,hd,vs,rel,dd⟩:=dk_rd I.hok e
  refine call_len_dict hd dd (by rw [← rel.length];rw [sizeLine_eq] at z;(first | lia | omega)) ?_
  rw [← rel.length]
  exact h _ _ (I.tok _)
end
theorem dict_typeIs {X:Cx} {pins:List (Addr × Obj)} {σ:St} {H:Hp} {s:Shared} {a:Addr} {y:V} {o:Option V} (I:Inv X pins σ H s) (g:DGet H a y o):s.TypeIs (.ref a) "dict" := by
  rcases g with ⟨kvs,k,e,_,_⟩ | ⟨kvs,k,b,e,_,_,_⟩
  · obtain ⟨_,_,vs,_,dd⟩:=dk_rd I.hok e
    exact dd.typeIs
  · obtain ⟨_,_,xs,_,dd⟩:=dt_rd I.hok e
    exact dd.typeIs
section
variable {X:Cx} {o i e value:Expr} {pos pos' tpos:Pos} {td ty tv:TE}
end
section
variable {X:Cx} {pos:Pos}
end
structure M2 (X:Cx) (o:Expr) (m:Str) (apos:Pos) (e f:Expr) (cpos:Pos):Prop where
  base:attributeBase o m X.env (eval o X.env) = eval o X.env
  few:((backTo cpos (starEach [e,f] X.env)).all (fun x=>!x.1) && (backToKw cpos (keywordEach [] X.env)).all (fun x=>x.1.isSome)
    && decide (([e,f]:List Expr).length + ([]:List Keyword).length + (if ([]:List Keyword).isEmpty then 0 else 1) < 30)) = true
  line:(apos.endLine == cpos.line) = true
  trees:backTo cpos (starEach [e,f] X.env) = [(false,eval e X.env),(false,eval f X.env)]
section
variable {X:Cx} {pins:List (Addr × Obj)} {σ:St} {H:Hp} {s:Shared} {a:Addr} {y d:V} {u r:Value} {o:Option V} {A:Around} {E:Value → Shared → Prop}
end
section
variable {X:Cx} {o e f:Expr} {apos cpos:Pos} {td ty tx:TE}
end
end L2
namespace Tr
open PySem
set_option genSizeOf true in
set_option genSizeOfSpec true in
inductive D where
  | non | bl (b:Bool) | int (i:Int) | str (x:Str) | tup (ds:List D) | lst (ds:List D) | dct (kvs:List (Sum Int Str × D)) | tdc (kvs:List (List (Sum Int Str) × D))
  deriving Inhabited
inductive Res (α:Type) where
  | ok (a:α) | err (c:Str) (d:D) | no
  deriving Inhabited
namespace Res
@[reducible] noncomputable def bind {α β:Type} (x:Res α) (f:α → Res β):Res β:=match x with | .ok a=>f a | .err c d=>.err c d | .no=>.no
noncomputable instance:Monad Res where
  pure:=.ok
  bind:=bind
@[simp] theorem ok_bind {α β:Type} (a:α) (f:α → Res β):(Res.ok a >>= f) = f a:=id rfl
@[simp] theorem no_bind {α β:Type} (f:α → Res β):((Res.no:Res α) >>= f) = .no:=id rfl
theorem bind_ok {α β:Type} {x:Res α} {f:α → Res β} {b:β} (h:(x >>= f) = .ok b):∃ a,x = .ok a ∧ f a = .ok b:=by
  cases x with
  | ok a=>exact ⟨a,rfl,h⟩
  | err c d=>cases h
  | no=>cases h
end Res
noncomputable def when {α:Type} (c:Bool) (r:Res α):Res α:=if c then r else .no
theorem when_ok {α:Type} {c:Bool} {r:Res α} {a:α} (h:when c r = .ok a):c = true ∧ r = .ok a:=by
  unfold when at h
  split at h
  · exact ⟨by assumption,h⟩
  · cases h
@[simp] theorem when_true {α:Type} (r:Res α):when true r = r:=id rfl
theorem when_of {α:Type} {c:Bool} (h:c = true) (r:Res α):when c r = r:=by subst h;rfl
noncomputable def b2z (b:Bool):Int:=if b then 1 else 0
mutual
noncomputable def D.eqb:D → D → Bool
  | .non,.non=>true
  | .bl a,.bl b=>a == b
  | .bl a,.int j=>b2z a == j
  | .int i,.bl b=>i == b2z b
  | .int i,.int j=>i == j
  | .str x,.str y=>x == y
  | .tup a,.tup b=>D.eqs a b
  | .lst a,.lst b=>D.eqs a b
  | _,_=>false
noncomputable def D.eqs:List D → List D → Bool
  | [],[]=>true
  | a :: r,b :: q=>D.eqb a b && D.eqs r q
  | _,_=>false
end
mutual
noncomputable def D.pl:Nat → D → Bool
  | _,.dct _=>false
  | _,.tdc _=>false
  | n,.tup a=>D.pls n a
  | n,.lst a=>D.pls n a
  | _,_=>true
noncomputable def D.pls:Nat → List D → Bool
  | _,[]=>true
  | 0,_ :: _=>false
  | n + 1,a :: r=>D.pl n a && D.pls (n + 1) r
end
mutual
noncomputable def D.flat:D → Bool
  | .dct _=>false
  | .tdc _=>false
  | .lst _=>false
  | .tup a=>D.flats a
  | _=>true
noncomputable def D.flats:List D → Bool
  | []=>true
  | a :: r=>D.flat a && D.flats r
end
mutual
theorem D.eqb_refl:∀ (n:Nat) (d:D),D.pl n d = true → D.eqb d d = true
  | _,.non,_=>rfl
  | _,.bl a,_=>by simp [D.eqb]
  | _,.int i,_=>by simp [D.eqb]
  | _,.str x,_=>by simp [D.eqb]
  | n,.tup a,h=>by rw [D.eqb];exact D.eqs_refl n a (by rw [D.pl] at h;exact h)
  | n,.lst a,h=>by rw [D.eqb];exact D.eqs_refl n a (by rw [D.pl] at h;exact h)
  | _,.dct a,h=>by rw [D.pl] at h;cases h
  | _,.tdc a,h=>by rw [D.pl] at h;cases h
theorem D.eqs_refl:∀ (n:Nat) (a:List D),D.pls n a = true → D.eqs a a = true
  | _,[],_=>by rw [D.eqs]
  | 0,a :: r,h=>by rw [D.pls] at h;cases h
  | n + 1,a :: r,h=>by
    rw [D.pls,Bool.and_eq_true] at h
    rw [D.eqs,D.eqb_refl n a h.1,D.eqs_refl (n + 1) r h.2];rfl
end
noncomputable def big:Nat:=16777216
noncomputable def sIx (n d:Nat):Option Int → Nat
  | none=>d
  | some v=>if v < 0 then (v + (n:Int)).toNat else min v.toNat n
noncomputable def cut {α:Type} (xs:List α) (lo hi:Option Int):List α:=(xs.drop (sIx xs.length 0 lo)).take (sIx xs.length xs.length hi - sIx xs.length 0 lo)
noncomputable def ixN (n:Nat) (i:Int):Option Nat:=if 0 ≤ i then (if i < n then some i.toNat else none) else if -(n:Int) ≤ i then some (i + n).toNat else none
noncomputable def atI {α:Type} (xs:List α) (i:Int):Option α:=(ixN xs.length i).bind fun j=>xs[j]?
noncomputable def small64 (i:Int):Bool:=decide (-(2 ^ 64) < i) && decide (i < 2 ^ 64)
noncomputable def D.bin:Operator → D → D → Res D
  | .Add,.int i,.int j=>.ok (.int (i + j))
  | .Add,.str x,.str y=>when (decide (x.length + y.length ≤ big)) (.ok (.str (x ++ y)))
  | .Add,.lst a,.lst b=>when (decide (a.length + b.length ≤ big)) (.ok (.lst (a ++ b)))
  | .Add,.tup a,.tup b=>when (decide (a.length + b.length ≤ big)) (.ok (.tup (a ++ b)))
  | .Sub,.int i,.int j=>.ok (.int (i - j))
  | .Mult,.int i,.int j=>when (small64 i || small64 j) (.ok (.int (i * j)))
  | .Mult,.tup a,.int j=>when (decide (a.length = 1) && decide (0 ≤ j) && decide (j ≤ 1000)) (.ok (.tup (List.replicate j.toNat a).flatten))
  | .FloorDiv,.int i,.int j=>when (decide (0 < j) && decide (j < 1073741824)) (.ok (.int (i / j)))
  | .Mod,.int i,.int j=>when (decide (0 < j)) (.ok (.int (i % j)))
  | .Pow,.int i,.int j=>when (decide (0 ≤ j) && decide (j ≤ 1000000) && decide (i.natAbs < 2 ^ 64)) (.ok (.int (i ^ j.toNat)))
  | _,_,_=>.no
noncomputable def chr1 (c:Nat):Str:=⟨#[c]⟩
noncomputable def strCut (x:Str) (lo hi:Option Int):Str:=⟨(cut x.cps.toList lo hi).toArray⟩
noncomputable def splitC (c:Nat):List Nat → List (List Nat)
  | []=>[[]]
  | x :: r=>if x = c then [] :: splitC c r else match splitC c r with
    | h :: t=>(x :: h) :: t
    | []=>[[x]]
noncomputable def splitS (x:Str) (c:Nat):List Str:=(splitC c x.cps.toList).map fun l=>⟨l.toArray⟩
noncomputable def joinC (g:List Nat):List (List Nat) → List Nat
  | []=>[]
  | [a]=>a
  | a :: b :: r=>a ++ g ++ joinC g (b :: r)
noncomputable def joinS (g:Str) (xs:List Str):Str:=⟨(joinC g.cps.toList (xs.map fun x=>x.cps.toList)).toArray⟩
noncomputable def digitsN (cs:List Nat):Nat:=cs.foldl (fun acc c=>acc * 10 + (c - 48)) 0
noncomputable def isDigits (cs:List Nat):Bool:=!cs.isEmpty && cs.all fun c=>decide (48 ≤ c) && decide (c ≤ 57)
noncomputable def strsOf:List D → Res (List Str)
  | []=>.ok []
  | .str x :: r=>do let q ← strsOf r;.ok (x :: q)
  | _ :: _=>.no
noncomputable def blsOf:List D → Res (List Bool)
  | []=>.ok []
  | .bl x :: r=>do let q ← blsOf r;.ok (x :: q)
  | _ :: _=>.no
noncomputable def oneIn (x y:Str):Res Bool:=match x.cps.toList with
  | [c]=>.ok (decide (c ∈ y.cps.toList))
  | _=>.no
noncomputable def keyOf:D → Option (Sum Int Str)
  | .int i=>some (.inl i)
  | .str x=>some (.inr x)
  | _=>none
noncomputable def valK (kvs:List (Sum Int Str × D)) (k:Sum Int Str):Option D:=(kvs.find? fun kv=>decide (kv.1 = k)).map (·.2)
noncomputable def putKD (kvs:List (Sum Int Str × D)) (k:Sum Int Str) (v:D):List (Sum Int Str × D) :=
  if (kvs.any fun kv=>decide (kv.1 = k)) = true then kvs.map (fun kv=>if kv.1 = k then (kv.1,v) else kv) else kvs ++ [(k,v)]
noncomputable def keysT:List D → Option (List (Sum Int Str))
  | []=>some []
  | d :: r=>(keyOf d).bind fun k=>(keysT r).map fun q=>k :: q
noncomputable def valT (kvs:List (List (Sum Int Str) × D)) (k:List (Sum Int Str)):Option D:=(kvs.find? fun kv=>decide (kv.1 = k)).map (·.2)
noncomputable def putTD (kvs:List (List (Sum Int Str) × D)) (k:List (Sum Int Str)) (v:D):List (List (Sum Int Str) × D) :=
  if (kvs.any fun kv=>decide (kv.1 = k)) = true then kvs.map (fun kv=>if kv.1 = k then (kv.1,v) else kv) else kvs ++ [(k,v)]
noncomputable def Res.of {α:Type}:Option α → Res α
  | some a=>.ok a
  | none=>.no
noncomputable def D.isNon:D → Bool
  | .non=>true
  | _=>false
noncomputable def D.eqOk (a b:D):Bool:=D.pl 30 a && D.pl 30 b
noncomputable def D.mem (x:D):List D → Bool
  | []=>false
  | y :: r=>D.eqb y x || D.mem x r
noncomputable def D.inn (x:D):D → Res Bool
  | .lst ds=>when (D.pls 30 ds && D.pl 29 x) (.ok (D.mem x ds))
  | .tup ds=>when (D.pls 30 ds && D.pl 29 x) (.ok (D.mem x ds))
  | .dct kvs=>do let k ← Res.of (keyOf x);.ok (valK kvs k).isSome
  | .str y=>match x with
    | .str z=>oneIn z y
    | _=>.no
  | _=>.no
noncomputable def D.cmp:CmpOp → D → D → Res D
  | .Eq,a,b=>when (D.eqOk a b) (.ok (.bl (D.eqb a b)))
  | .NotEq,a,b=>when (D.eqOk a b) (.ok (.bl (!D.eqb a b)))
  | .Lt,.int i,.int j=>.ok (.bl (decide (i < j)))
  | .LtE,.int i,.int j=>.ok (.bl (decide (i ≤ j)))
  | .Gt,.int i,.int j=>.ok (.bl (decide (j < i)))
  | .GtE,.int i,.int j=>.ok (.bl (decide (j ≤ i)))
  | .Is,a,.non=>.ok (.bl a.isNon)
  | .IsNot,a,.non=>.ok (.bl (!a.isNon))
  | .Is,.bl a,.bl b=>.ok (.bl (a == b))
  | .IsNot,.bl a,.bl b=>.ok (.bl (a != b))
  | .In,a,b=>do let k ← D.inn a b;.ok (.bl k)
  | .NotIn,a,b=>do let k ← D.inn a b;.ok (.bl (!k))
  | _,_,_=>.no
noncomputable def D.truth:D → Res Bool
  | .non=>.ok false
  | .bl b=>.ok b
  | .int i=>.ok (i != 0)
  | .str x=>when (decide (x.length ≤ big)) (.ok ((x.length:Int) != 0))
  | .tup a=>.ok (!a.isEmpty)
  | .lst a=>.ok (!a.isEmpty)
  | .dct a=>.ok (!a.isEmpty)
  | .tdc _=>.no
noncomputable def D.ix:D → D → Res D
  | .lst a,.int i=>Res.of (atI a i)
  | .tup a,.int i=>Res.of (atI a i)
  | .str x,.int i=>when (decide (x.length ≤ big)) (Res.of ((atI x.cps.toList i).map fun c=>.str ⟨#[c]⟩))
  | .dct kvs,y=>do let k ← Res.of (keyOf y);Res.of (valK kvs k)
  | _,_=>.no
noncomputable def D.part:D → Res (Option Int)
  | .non=>.ok none
  | .int i=>.ok (some i)
  | _=>.no
noncomputable def D.sl:D → Option Int → Option Int → Res D
  | .lst a,lo,hi=>.ok (.lst (cut a lo hi))
  | .tup a,lo,hi=>.ok (.tup (cut a lo hi))
  | .str x,lo,hi=>when (decide (x.length ≤ big)) (.ok (.str (strCut x lo hi)))
  | _,_,_=>.no
noncomputable def D.items:D → Res (List D)
  | .lst a=>.ok a
  | .tup a=>.ok a
  | .str x=>.ok (x.cps.toList.map fun c=>.str (chr1 c))
  | _=>.no
noncomputable def intsOf:List D → Res (List Int)
  | []=>.ok []
  | .int i :: r=>do let q ← intsOf r;.ok (i :: q)
  | _ :: _=>.no
noncomputable def rangeD (lo:Int):Nat → List D
  | 0=>[]
  | n + 1=>.int lo :: rangeD (lo + 1) n
noncomputable def enumD (k:Int):List D → List D
  | []=>[]
  | d :: r=>.tup [.int k,d] :: enumD (k + 1) r
noncomputable def zipD:List D → List D → List D
  | a :: r,b :: q=>.tup [a,b] :: zipD r q
  | _,_=>[]
noncomputable def small62 (i:Int):Bool:=decide (-(2 ^ 62) ≤ i) && decide (i < 2 ^ 62)
inductive Ty where
  | int | bool | str | tuple | list
  deriving DecidableEq,Inhabited
noncomputable def D.isDct:D → Bool
  | .dct _=>true
  | .tdc _=>true
  | _=>false
noncomputable def D.isTy:D → Ty → Bool
  | .int _,.int=>true
  | .bl _,.int=>true
  | .bl _,.bool=>true
  | .str _,.str=>true
  | .tup _,.tuple=>true
  | .lst _,.list=>true
  | _,_=>false
inductive Bt where
  | len | sum | tuple | list | int | str | bool | abs | min | max | all | any
  deriving DecidableEq,Inhabited
noncomputable def D.len:D → Res D
  | .lst a=>.ok (.int a.length)
  | .tup a=>.ok (.int a.length)
  | .str x=>when (decide (x.length ≤ big)) (.ok (.int x.length))
  | .dct a=>.ok (.int a.length)
  | _=>.no
noncomputable def D.sum:D → Res D
  | .lst a=>do let ns ← intsOf a;.ok (.int ns.sum)
  | _=>.no
noncomputable def D.tuple:D → Res D
  | .lst a=>.ok (.tup a)
  | .tup a=>.ok (.tup a)
  | _=>.no
noncomputable def D.list:D → Res D
  | .lst a=>.ok (.lst a)
  | .tup a=>.ok (.lst a)
  | _=>.no
noncomputable def D.toInt:D → Res D
  | .int i=>.ok (.int i)
  | .bl b=>.ok (.int (b2z b))
  | .str x=>when (isDigits x.cps.toList && decide (x.length ≤ 640)) (.ok (.int (digitsN x.cps.toList)))
  | _=>.no
noncomputable def D.toStr:D → Res D
  | .int i=>when (decide (i.natAbs.log2 < 1920)) (.ok (.str (Str.ofString (toString i))))
  | _=>.no
noncomputable def D.toBool:D → Res D
  | .int i=>.ok (.bl (i != 0))
  | .bl b=>.ok (.bl b)
  | _=>.no
noncomputable def D.abs:D → Res D
  | .int i=>.ok (.int (if i < 0 then -i else i))
  | _=>.no
noncomputable def D.all:D → Res D
  | .lst a=>do let q ← blsOf a;.ok (.bl (q.all id))
  | _=>.no
noncomputable def D.any:D → Res D
  | .lst a=>do let q ← blsOf a;.ok (.bl (q.any id))
  | _=>.no
noncomputable def maxI:Int → List Int → Int
  | m,[]=>m
  | m,n :: r=>maxI (if n > m then n else m) r
noncomputable def minI:Int → List Int → Int
  | m,[]=>m
  | m,n :: r=>minI (if n < m then n else m) r
noncomputable def D.maxL:D → Res D
  | .lst a=>do
    match ← intsOf a with
    | n :: ns=>.ok (.int (maxI n ns))
    | []=>.no
  | .tup a=>do
    match ← intsOf a with
    | n :: ns=>.ok (.int (maxI n ns))
    | []=>.no
  | _=>.no
noncomputable def D.minL:D → Res D
  | .lst a=>do
    match ← intsOf a with
    | n :: ns=>.ok (.int (minI n ns))
    | []=>.no
  | .tup a=>do
    match ← intsOf a with
    | n :: ns=>.ok (.int (minI n ns))
    | []=>.no
  | _=>.no
noncomputable def D.maxD:D → D → Res D
  | .lst a,.int d=>do
    match ← intsOf a with
    | n :: ns=>.ok (.int (maxI n ns))
    | []=>.ok (.int d)
  | _,_=>.no
noncomputable def D.min2:D → D → Res D
  | .int i,.int j=>.ok (.int (if j < i then j else i))
  | _,_=>.no
noncomputable def D.max2:D → D → Res D
  | .int i,.int j=>.ok (.int (if j > i then j else i))
  | _,_=>.no
noncomputable def Bt.one:Bt → D → Res D
  | .len=>D.len
  | .sum=>D.sum
  | .tuple=>D.tuple
  | .list=>D.list
  | .int=>D.toInt
  | .str=>D.toStr
  | .bool=>D.toBool
  | .abs=>D.abs
  | .all=>D.all
  | .any=>D.any
  | .min=>D.minL
  | .max=>D.maxL
noncomputable def Bt.two:Bt → D → D → Res D
  | .min=>D.min2
  | .max=>D.max2
  | _=>fun _ _=>.no
noncomputable def Bt.run (b:Bt):List D → Res D
  | [d]=>b.one d
  | [d,d']=>b.two d d'
  | _=>.no
noncomputable def D.aug:Operator → D → D → Res D
  | .Add,.int i,.int j=>.ok (.int (i + j))
  | .Sub,.int i,.int j=>.ok (.int (i - j))
  | _,_,_=>.no
noncomputable def zipR:D → D → Res (List D)
  | .lst a,.lst b=>.ok (zipD a b)
  | _,_=>.no
noncomputable def lrngR:D → Res D
  | .int n=>when (small62 n && decide (n ≤ (big:Nat))) (.ok (.lst (rangeD 0 n.toNat)))
  | _=>.no
noncomputable def sset8 (ns:List Int):List D:=((List.range 8).filter fun i:Nat=>ns.contains (i:Int)).map fun i:Nat=>D.int (i:Int)
noncomputable def ssetR:D → Res D
  | .lst a=>do let ns ← intsOf a;when (ns.all fun n=>decide (0 ≤ n) && decide (n < 8)) (.ok (.lst (sset8 ns)))
  | _=>.no
inductive Mt where
  | split | join | index
  deriving DecidableEq,Inhabited
noncomputable def Mt.run:Mt → D → D → Res D
  | .split,.str x,.str y=>match y.cps.toList with
    | [c]=>when (decide (x.length < big) && decide (c < 256)) (.ok (.lst ((splitS x c).map D.str)))
    | _=>.no
  | .join,.str g,.lst ds=>do
    let xs ← strsOf ds
    when (decide (g.length ≤ 64) && decide ((xs.map (·.length)).sum + xs.length * 64 ≤ big)) (.ok (.str (joinS g xs)))
  | .index,.lst ds,.int i=>do let ns ← intsOf ds;when (ns.contains i) (.ok (.int (ns.idxOf i:Nat)))
  | _,_,_=>.no
noncomputable def tabAt (fs:List Nat):D → Res Nat
  | .int i=>Res.of (atI fs i)
  | _=>.no
noncomputable def idxS (ss:List Str):D → Res D
  | .str z=>when (ss.contains z) (.ok (.int (ss.idxOf z:Nat)))
  | _=>.no
noncomputable def keysD:List D → Res (List (Sum Int Str))
  | []=>.ok []
  | d :: r=>do let k ← Res.of (keyOf d);let q ← keysD r;.ok (k :: q)
noncomputable def D.keys:D → Res (List (Sum Int Str))
  | .lst ds=>keysD ds
  | .tup ds=>keysD ds
  | .str x=>.ok (x.cps.toList.map fun c=>.inr ⟨#[c]⟩)
  | _=>.no
noncomputable def metD (ks:List (Sum Int Str)):List (Sum Int Str):=ks.foldl (fun acc k=>if acc.any (fun x=>decide (x = k)) then acc else acc ++ [k]) []
noncomputable def pairOf:D → Option (Nat × Nat)
  | .tup [.int a,.int b]=>if decide (0 ≤ a) && decide (a < 9) && decide (0 ≤ b) && decide (b < 8) then some (a.toNat,b.toNat) else none
  | _=>none
noncomputable def prsOf:List D → Option (List (Nat × Nat))
  | []=>some []
  | d :: r=>(pairOf d).bind fun p=>(prsOf r).bind fun q=>some (p :: q)
noncomputable def nodupP:List (Nat × Nat) → Bool
  | []=>true
  | p :: r=>(!r.contains p) && nodupP r
noncomputable def D.setN (x:D):Res D:=match x.keys with
  | .ok ks=>when (decide (ks.length + 1 < 4096)) (.ok (.int (metD ks).length))
  | _=>match x with
    | .lst ds=>match prsOf ds with
      | some ps=>when (nodupP ps && decide (ps.length ≤ 72)) (.ok (.int ps.length))
      | none=>.no
    | _=>.no
set_option genInjectivity false in
inductive G where
  | one (i:Nat) | many (is:List Nat)
  deriving Inhabited
set_option genInjectivity false in
inductive E where
  | var (i:Nat) | rd (i:Nat) | con (d:D) | glob (g:Nat)
  | bin (o:Operator) (a b:E) | cmp (o:CmpOp) (a b:E) | chain (o p:CmpOp) (a b c:E)
  | and (a b:E) | or (a b:E) | not (a:E) | neg (a:E) | ife (c a b:E)
  | ix (a b:E) | sl (a lo hi:E) | omit
  | tup (a:E) | lst (a:E) | anil | acons (a r:E)
  | call (f:Nat) (a:E) | callB (f:Nat) (a:E) | bt (b:Bt) (a:E) | isi (a:E) (t:Ty)
  | comp (own:Nat) (caps:List Nat) (g:G) (elt src cond:E)
  | seq (a:E) | rng (a:E) | rng2 (a b:E) | enum (a:E)
  | dnew | mth (m:Mt) (a b:E)
  | callT (fs:List Nat) (k a:E) | gidx (ss:List Str) (a:E) | lset (a:E)
  | lrng (a:E) | zip (a b:E) | maxd (a b:E) | sset (a:E) | dnewT | getT (i:Nat) (a b:E) | look (i:Nat) (a:E)
  deriving Inhabited
set_option genInjectivity false in
inductive S where
  | nil | cons (a r:S)
  | pass | ret (e:E) | retO (i:Nat) | retN
  | asg (g:G) (e:E) | asgO (i:Nat) (e:E) | sealed (i:Nat)
  | ite (c:E) (a b:S) | forS (g:G) (src:E) (b:S) | whl (n:Nat) (c:E) (b:S)
  | app (i:Nat) (e:E) | rev (i:Nat) | brk | cnt
  | dput (i:Nat) (k v:E) | ext (i:Nat) (e:E)
  | never | asgP (g:G) (i:Nat) (k:E) | appP (j i:Nat) (k:E)
  | aug (i:Nat) (o:Operator) (e:E) | lput (i:Nat) (k e:E) | dputT (i:Nat) (k v:E)
  | exp (e:E) | ins (i:Nat) (k e:E) | rais (c:Str) (a:E)
  | asgT (i:Nat) (e:E) | appT (i:Nat) (e:E) | retT (a b:E)
  deriving Inhabited
inductive Sl where
  | no | v (d:D) | o (d:D) | t (ds:List D)
  deriving Inhabited
noncomputable abbrev Nv:=List Sl
noncomputable def Nv.at (e:Nv) (i:Nat):Sl:=(e[i]?).getD .no
noncomputable def Sl.val:Sl → Res D
  | .v d=>.ok d
  | _=>.no
noncomputable def Sl.any:Sl → Res D
  | .v d=>.ok d
  | .o d=>.ok d
  | _=>.no
noncomputable def Sl.own:Sl → Res (List D)
  | .o (.lst a)=>.ok a
  | _=>.no
noncomputable def Sl.ownD:Sl → Res (List (Sum Int Str × D))
  | .o (.dct a)=>.ok a
  | _=>.no
noncomputable def Sl.ownT:Sl → Res (List (List (Sum Int Str) × D))
  | .o (.tdc a)=>.ok a
  | _=>.no
noncomputable def Sl.ownP:Sl → Res (List D)
  | .t ds=>.ok ds
  | _=>.no
noncomputable def Sl.ownA:Sl → Res D
  | .o d=>.ok d
  | _=>.no
noncomputable def puts:List Nat → List D → Nv → Res Nv
  | [],[],e=>.ok e
  | i :: r,d :: q,e=>puts r q (e.set i (.v d))
  | _,_,_=>.no
noncomputable def G.put:G → D → Nv → Res Nv
  | .one i,d,e=>.ok (e.set i (.v d))
  | .many is,.tup ds,e=>puts is ds e
  | _,_,_=>.no
noncomputable def compEnv (own:Nat) (caps:List Nat) (e:Nv):Nv:=List.replicate own Sl.no ++ caps.map fun i=>e.at i
set_option genInjectivity false in
structure Tab where
  glob:Nat → D
  fresh:Nat → Bool
section
variable (T:Tab) (cf:Nat → List D → Res D)
noncomputable def tupL:D → Bool
  | .tup (.lst _ :: _)=>true
  | _=>false
noncomputable def D.flatL:D → Bool
  | .lst ds=>D.flats ds
  | _=>false
noncomputable def freshE:E → Bool
  | .lst _=>true
  | .sl _ _ _=>true
  | .bin .Add _ _=>true
  | .comp _ _ _ _ _ _=>true
  | .bt .list _=>true
  | .dnew=>true
  | .dnewT=>true
  | .lrng _=>true
  | .sset _=>true
  | .mth .split _ _=>true
  | .call f _=>T.fresh f
  | .look _ x=>freshE x
  | _=>false
noncomputable def compL (f:D → Res (Option D)):List D → Res (List D)
  | []=>.ok []
  | d :: r=>do
    let x ← f d
    let q ← compL f r
    match x with
    | some y=>.ok (y :: q)
    | none=>.ok q
mutual
noncomputable def evE:E → Nv → Res D
  | .var i,e=>(e.at i).val
  | .rd i,e=>(e.at i).any
  | .con d,_=>.ok d
  | .glob g,_=>.ok (T.glob g)
  | .bin o a b,e=>do let x ← evE a e;let y ← evE b e;D.bin o x y
  | .cmp o a b,e=>do let x ← evE a e;let y ← evE b e;D.cmp o x y
  | .chain o p a b c,e=>do
    let x ← evE a e
    let y ← evE b e
    match ← D.cmp o x y with
    | .bl true=>do let z ← evE c e;D.cmp p y z
    | .bl false=>.ok (.bl false)
    | _=>.no
  | .and a b,e=>do let x ← evE a e;let k ← x.truth;if k then evE b e else .ok x
  | .or a b,e=>do let x ← evE a e;let k ← x.truth;if k then .ok x else evE b e
  | .not a,e=>do let x ← evE a e;let k ← x.truth;.ok (.bl (!k))
  | .neg a,e=>do
    match ← evE a e with
    | .int i=>.ok (.int (-i))
    | _=>.no
  | .ife c a b,e=>do let x ← evE c e;let k ← x.truth;if k then evE a e else evE b e
  | .ix a b,e=>do let x ← evE a e;let y ← evE b e;D.ix x y
  | .sl a lo hi,e=>do let x ← evE a e;let l ← evE lo e;let l ← l.part;let h ← evE hi e;let h ← h.part;D.sl x l h
  | .omit,_=>.ok .non
  | .tup a,e=>do let xs ← evA a e;.ok (.tup xs)
  | .lst a,e=>do let xs ← evA a e;.ok (.lst xs)
  | .call f a,e=>do let xs ← evA a e;cf f xs
  | .callB f a,e=>do let xs ← evA a e;let d ← cf f xs;when d.flat (.ok d)
  | .bt b a,e=>do let xs ← evA a e;b.run xs
  | .isi a t,e=>do let x ← evE a e;when (!x.isDct) (.ok (.bl (x.isTy t)))
  | .dnew,_=>.ok (.dct [])
  | .mth m a b,e=>do let x ← evE a e;let y ← evE b e;m.run x y
  | .callT fs k a,e=>do let x ← evE k e;let f ← tabAt fs x;let xs ← evA a e;cf f xs
  | .gidx ss a,e=>do let x ← evE a e;idxS ss x
  | .lset a,e=>do let x ← evE a e;x.setN
  | .lrng a,e=>do let x ← evE a e;lrngR x
  | .sset a,e=>do let x ← evE a e;ssetR x
  | .dnewT,_=>.ok (.tdc [])
  | .getT i a b,e=>do let kvs ← (e.at i).ownT;let ys ← evA a e;let z ← evE b e;let k ← Res.of (keysT ys);.ok ((valT kvs k).getD z)
  | .maxd a b,e=>do let x ← evE a e;let y ← evE b e;D.maxD x y
  | .look i a,e=>do let ds ← (e.at i).ownP;let d ← evE a (e.set i (.v (.tup ds)));when (d.flat || (freshE T a && d.flatL)) (.ok d)
  | .comp own caps g elt src cond,e=>do
    let ds ← evI src e
    let ys ← compL (fun d=>do
      let e1 ← g.put d (compEnv own caps e)
      let c ← evE cond e1
      let k ← c.truth
      if k then do let y ← evE elt e1;.ok (some y) else .ok none) ds
    when (decide (ds.length ≤ big)) (.ok (.lst ys))
  | _,_=>.no
noncomputable def evA:E → Nv → Res (List D)
  | .anil,_=>.ok []
  | .acons a r,e=>do let x ← evE a e;let q ← evA r e;when (decide (q.length < 1000)) (.ok (x :: q))
  | _,_=>.no
noncomputable def evI:E → Nv → Res (List D)
  | .seq a,e=>do let x ← evE a e;x.items
  | .rng a,e=>do
    match ← evE a e with
    | .int n=>when (small62 n) (.ok (rangeD 0 n.toNat))
    | _=>.no
  | .rng2 a b,e=>do
    match ← evE a e with
    | .int n=>do
      match ← evE b e with
      | .int m=>when (small62 n && small62 m) (.ok (rangeD n (m - n).toNat))
      | _=>.no
    | _=>.no
  | .enum a,e=>do
    match ← evE a e with
    | .lst ds=>.ok (enumD 0 ds)
    | .tup ds=>.ok (enumD 0 ds)
    | _=>.no
  | .zip a b,e=>do let x ← evE a e;let y ← evE b e;zipR x y
  | _,_=>.no
end
noncomputable def popIx (n:Nat):D → Res Nat
  | .int v=>when (small62 v) (Res.of (ixN n v))
  | _=>.no
noncomputable def popAt (n:Nat):E → D → Res Nat
  | .omit,_=>if n = 0 then .no else .ok (n - 1)
  | _,d=>popIx n d
noncomputable def insIx (n:Nat):D → Res Nat
  | .int v=>when (decide (0 ≤ v) && decide (v ≤ (n:Int)) && decide (n < big)) (.ok v.toNat)
  | _=>.no
inductive Out where
  | nx (e:Nv) | rt (d:D) (fresh:Bool) | bk (e:Nv) | ct (e:Nv)
  deriving Inhabited
noncomputable def forL (f:D → Nv → Res Out):List D → Nv → Res Out
  | [],e=>.ok (.nx e)
  | d :: r,e=>do
    match ← f d e with
    | .nx e1=>forL f r e1
    | .ct e1=>forL f r e1
    | .bk e1=>.ok (.nx e1)
    | .rt x k=>.ok (.rt x k)
noncomputable def whileL (c:Nv → Res Bool) (f:Nv → Res Out):Nat → Nv → Res Out
  | 0,_=>.no
  | n + 1,e=>do
    if ← c e then
      match ← f e with
      | .nx e1=>whileL c f n e1
      | .ct e1=>whileL c f n e1
      | .bk e1=>.ok (.nx e1)
      | .rt x k=>.ok (.rt x k)
    else .ok (.nx e)
noncomputable def exS:S → Nv → Res Out
  | .nil,e=>.ok (.nx e)
  | .cons a r,e=>do
    match ← exS a e with
    | .nx e1=>exS r e1
    | o=>.ok o
  | .pass,e=>.ok (.nx e)
  | .ret x,e=>do let d ← evE T cf x e;.ok (.rt d (freshE T x && !tupL d))
  | .retO i,e=>do let a ← (e.at i).ownA;.ok (.rt a true)
  | .retN,_=>.ok (.rt .non false)
  | .asg g x,e=>do let d ← evE T cf x e;let e1 ← g.put d e;.ok (.nx e1)
  | .asgO i x,e=>do
    match ← evE T cf x e with
    | .lst a=>when (freshE T x) (.ok (.nx (e.set i (.o (.lst a)))))
    | .dct a=>when (freshE T x) (.ok (.nx (e.set i (.o (.dct a)))))
    | .tdc a=>when (freshE T x) (.ok (.nx (e.set i (.o (.tdc a)))))
    | _=>.no
  | .sealed i,e=>do let a ← (e.at i).ownA;.ok (.nx (e.set i (.v a)))
  | .ite c a b,e=>do let x ← evE T cf c e;let k ← x.truth;if k then exS a e else exS b e
  | .forS g src b,e=>do
    let ds ← evI T cf src e
    forL (fun d e0=>do let e1 ← g.put d e0;exS b e1) ds e
  | .whl n c b,e=>whileL (fun e0=>do let x ← evE T cf c e0;x.truth) (fun e0=>exS b e0) n e
  | .app i x,e=>do
    let d ← evE T cf x e
    let a ← (e.at i).own
    when (decide (a.length < big)) (.ok (.nx (e.set i (.o (.lst (a ++ [d]))))))
  | .rev i,e=>do
    let a ← (e.at i).own
    .ok (.nx (e.set i (.o (.lst a.reverse))))
  | .dput i k x,e=>do
    let d ← evE T cf x e
    let a ← (e.at i).ownD
    let y ← evE T cf k e
    let key ← Res.of (keyOf y)
    when (decide (a.length < big)) (.ok (.nx (e.set i (.o (.dct (putKD a key d))))))
  | .dputT i k x,e=>do
    let d ← evE T cf x e
    let a ← (e.at i).ownT
    let ys ← evA T cf k e
    let key ← Res.of (keysT ys)
    when (decide (a.length < big)) (.ok (.nx (e.set i (.o (.tdc (putTD a key d))))))
  | .ext i x,e=>do
    match ← evE T cf x e with
    | .lst b=>do
      let a ← (e.at i).own
      when (freshE T x && decide (a.length + b.length ≤ big)) (.ok (.nx (e.set i (.o (.lst (a ++ b))))))
    | _=>.no
  | .never,_=>.no
  | .asgP g i k,e=>do
    let a ← (e.at i).own
    let d ← evE T cf k e
    let j ← popAt a.length k d
    let y ← Res.of a[j]?
    let e1 ← g.put y (e.set i (.o (.lst (a.eraseIdx j))))
    .ok (.nx e1)
  | .appP i' i k,e=>do
    let b ← (e.at i').own
    let a ← (e.at i).own
    let d ← evE T cf k e
    let j ← popAt a.length k d
    let y ← Res.of a[j]?
    when (decide (i ≠ i') && decide (b.length < big)) (.ok (.nx ((e.set i (.o (.lst (a.eraseIdx j)))).set i' (.o (.lst (b ++ [y]))))))
  | .aug i o x,e=>do
    let d ← (e.at i).val
    let y ← evE T cf x e
    let z ← D.aug o d y
    .ok (.nx (e.set i (.v z)))
  | .lput i k x,e=>do
    let d ← evE T cf x e
    let a ← (e.at i).own
    let y ← evE T cf k e
    let j ← popIx a.length y
    .ok (.nx (e.set i (.o (.lst (a.set j d)))))
  | .exp x,e=>do let _ ← evE T cf x e;.ok (.nx e)
  | .ins i k x,e=>do
    let y ← evE T cf k e
    let d ← evE T cf x e
    let a ← (e.at i).own
    let j ← insIx a.length y
    .ok (.nx (e.set i (.o (.lst (a.take j ++ d :: a.drop j)))))
  | .rais _ _,_=>.no
  | .asgT i x,e=>do
    match ← evE T cf x e with
    | .tup (.lst a :: r)=>when (freshE T x) (.ok (.nx (e.set i (.t (.lst a :: r)))))
    | _=>.no
  | .appT i x,e=>do
    let d ← evE T cf x e
    match ← (e.at i).ownP with
    | .lst a :: _=>when (decide (a.length < big)) (.ok (.nx (e.set i .no)))
    | _=>.no
  | .retT x y,e=>do
    match ← evE T cf x e with
    | .lst a=>do
      let d ← evE T cf y e
      when (freshE T x) (.ok (.rt (.tup [.lst a,d]) true))
    | _=>.no
  | .brk,e=>.ok (.bk e)
  | .cnt,e=>.ok (.ct e)
noncomputable def exX:S → Nv → Option (Str × D)
  | .cons a r,e=>match exX a e with
    | some z=>some z
    | none=>match exS T cf a e with
      | .ok (.nx e1)=>exX r e1
      | _=>none
  | .ite c a b,e=>match evE T cf c e with
    | .ok x=>match x.truth with
      | .ok true=>exX a e
      | .ok false=>exX b e
      | _=>none
    | _=>none
  | .exp (.call f a),e=>match evA T cf a e with
    | .ok ds=>match cf f ds with
      | .err c d=>some (c,d)
      | _=>none
    | _=>none
  | .rais c a,e=>match evA T cf a e with
    | .ok [.str _]=>some (c,.non)
    | _=>none
  | _,_=>none
end
noncomputable def calmS:S → Bool
  | .nil=>true
  | .cons a r=>calmS a && calmS r
  | .ite _ a b=>calmS a && calmS b
  | .exp _=>true
  | _=>false
structure Told where
  b:S
  c:Str
  yes:D
  thr:D
  deriving Inhabited
set_option genInjectivity false in
structure Df where
  names:Nat
  pars:Nat
  body:S
  told:Option Told:=none
  deriving Inhabited
noncomputable def callF (T:Tab) (defs:List Df):Nat → Nat → List D → Res D
  | 0,_,_=>.no
  | n + 1,f,ds =>
    match defs[f]? with
    | none=>.no
    | some d =>
      when (ds.length == d.pars) (match d.told with
        | none=>match exX T (callF T defs n) d.body (ds.map Sl.v ++ List.replicate (d.names - d.pars) Sl.no) with
          | some z=>.err z.1 z.2
          | none=>match exS T (callF T defs n) d.body (ds.map Sl.v ++ List.replicate (d.names - d.pars) Sl.no) with
            | .ok (.rt x k)=>when (k || !T.fresh f) (.ok x)
            | .ok (.nx _)=>when (!T.fresh f) (.ok .non)
            | _=>.no
        | some t=>match exX T (callF T defs n) t.b (ds.map Sl.v ++ [.v .non,.no]) with
          | some z=>when (z.1 == t.c && !T.fresh f) (.ok t.yes)
          | none=>match exS T (callF T defs n) t.b (ds.map Sl.v ++ [.v .non,.no]) with
            | .ok (.nx _)=>when (!T.fresh f) (.ok t.thr)
            | _=>.no)
end Tr
namespace Tr
open PySem
section
variable {T:Tab} {cf:Nat → List D → Res D} {e:Nv}
theorem xE_var {i:Nat}:evE T cf (.var i) e = ((e.at i).val):=rfl
theorem xE_rd {i:Nat}:evE T cf (.rd i) e = ((e.at i).any):=rfl
theorem xE_con {d:D}:evE T cf (.con d) e = (.ok d):=rfl
theorem xE_glob {g:Nat}:evE T cf (.glob g) e = (.ok (T.glob g)):=rfl
theorem xE_bin {o:Operator} {a:E} {b:E}:evE T cf (.bin o a b) e = (do let x ← evE T cf a e;let y ← evE T cf b e;D.bin o x y):=rfl
theorem xE_cmp {o:CmpOp} {a:E} {b:E}:evE T cf (.cmp o a b) e = (do let x ← evE T cf a e;let y ← evE T cf b e;D.cmp o x y):=rfl
theorem xE_chain {o:CmpOp} {p:CmpOp} {a:E} {b:E} {c:E}:evE T cf (.chain o p a b c) e = (do
    let x ← evE T cf a e
    let y ← evE T cf b e
    match ← D.cmp o x y with
    | .bl true=>do let z ← evE T cf c e;D.cmp p y z
    | .bl false=>.ok (.bl false)
    | _=>.no):=rfl
theorem xE_and {a:E} {b:E}:evE T cf (.and a b) e = (do let x ← evE T cf a e;let k ← x.truth;if k then evE T cf b e else .ok x):=rfl
theorem xE_or {a:E} {b:E}:evE T cf (.or a b) e = (do let x ← evE T cf a e;let k ← x.truth;if k then .ok x else evE T cf b e):=rfl
theorem xE_not {a:E}:evE T cf (.not a) e = (do let x ← evE T cf a e;let k ← x.truth;.ok (.bl (!k))):=rfl
theorem xE_neg {a:E}:evE T cf (.neg a) e = (do
    match ← evE T cf a e with
    | .int i=>.ok (.int (-i))
    | _=>.no):=rfl
theorem xE_ife {c:E} {a:E} {b:E}:evE T cf (.ife c a b) e = (do let x ← evE T cf c e;let k ← x.truth;if k then evE T cf a e else evE T cf b e):=rfl
theorem xE_ix {a:E} {b:E}:evE T cf (.ix a b) e = (do let x ← evE T cf a e;let y ← evE T cf b e;D.ix x y):=rfl
theorem xE_sl {a:E} {lo:E} {hi:E}:evE T cf (.sl a lo hi) e = (do let x ← evE T cf a e;let l ← evE T cf lo e;let l ← l.part;let h ← evE T cf hi e;let h ← h.part;D.sl x l h):=rfl
theorem xE_omit  : evE T cf (.«omit») e = (.ok .non):=rfl
theorem xE_tup {a:E}:evE T cf (.tup a) e = (do let xs ← evA T cf a e;.ok (.tup xs)):=rfl
theorem xE_lst {a:E}:evE T cf (.lst a) e = (do let xs ← evA T cf a e;.ok (.lst xs)):=rfl
theorem xE_call {f:Nat} {a:E}:evE T cf (.call f a) e = (do let xs ← evA T cf a e;cf f xs):=rfl
theorem xE_callB {f:Nat} {a:E}:evE T cf (.callB f a) e = (do let xs ← evA T cf a e;let d ← cf f xs;when d.flat (.ok d)):=rfl
theorem xE_bt {b:Bt} {a:E}:evE T cf (.bt b a) e = (do let xs ← evA T cf a e;b.run xs):=rfl
theorem xE_isi {a:E} {t:Ty}:evE T cf (.isi a t) e = (do let x ← evE T cf a e;when (!x.isDct) (.ok (.bl (x.isTy t)))):=rfl
theorem xE_dnew  : evE T cf (.dnew) e = (.ok (.dct [])):=rfl
theorem xE_mth {m:Mt} {a:E} {b:E}:evE T cf (.mth m a b) e = (do let x ← evE T cf a e;let y ← evE T cf b e;m.run x y):=rfl
theorem xE_callT {fs:List Nat} {k:E} {a:E}:evE T cf (.callT fs k a) e = (do let x ← evE T cf k e;let f ← tabAt fs x;let xs ← evA T cf a e;cf f xs):=rfl
theorem xE_gidx {ss:List Str} {a:E}:evE T cf (.gidx ss a) e = (do let x ← evE T cf a e;idxS ss x):=rfl
theorem xE_lset {a:E}:evE T cf (.lset a) e = (do let x ← evE T cf a e;x.setN):=rfl
theorem xE_maxd {a:E} {b:E}:evE T cf (.maxd a b) e = (do let x ← evE T cf a e;let y ← evE T cf b e;D.maxD x y):=rfl
theorem xE_lrng {a:E}:evE T cf (.lrng a) e = (do let x ← evE T cf a e;lrngR x):=rfl
theorem xE_sset {a:E}:evE T cf (.sset a) e = (do let x ← evE T cf a e;ssetR x):=rfl
theorem xE_look {i:Nat} {a:E}:evE T cf (.look i a) e = (do let ds ← (e.at i).ownP;let d ← evE T cf a (e.set i (.v (.tup ds)));when (d.flat || (freshE T a && d.flatL)) (.ok d)):=rfl
theorem xE_dnewT:evE T cf (.dnewT) e = (.ok (.tdc [])):=rfl
theorem xE_getT {i:Nat} {a b:E}:evE T cf (.getT i a b) e = (do let kvs ← (e.at i).ownT;let ys ← evA T cf a e;let z ← evE T cf b e;let k ← Res.of (keysT ys);.ok ((valT kvs k).getD z)):=rfl
theorem xE_comp {own:Nat} {caps:List Nat} {g:G} {elt:E} {src:E} {cond:E}:evE T cf (.comp own caps g elt src cond) e = (do
    let ds ← evI T cf src e
    let ys ← compL (fun d=>do
      let e1 ← g.put d (compEnv own caps e)
      let c ← evE T cf cond e1
      let k ← c.truth
      if k then do let y ← evE T cf elt e1;.ok (some y) else .ok none) ds
    when (decide (ds.length ≤ big)) (.ok (.lst ys))):=rfl
theorem xA_anil  : evA T cf (.anil) e = (.ok []):=rfl
theorem xA_acons {a:E} {r:E}:evA T cf (.acons a r) e = (do let x ← evE T cf a e;let q ← evA T cf r e;when (decide (q.length < 1000)) (.ok (x :: q))):=rfl
theorem xI_seq {a:E}:evI T cf (.seq a) e = (do let x ← evE T cf a e;x.items):=rfl
theorem xI_rng {a:E}:evI T cf (.rng a) e = (do
    match ← evE T cf a e with
    | .int n=>when (small62 n) (.ok (rangeD 0 n.toNat))
    | _=>.no):=rfl
theorem xI_rng2 {a:E} {b:E}:evI T cf (.rng2 a b) e = (do
    match ← evE T cf a e with
    | .int n=>do
      match ← evE T cf b e with
      | .int m=>when (small62 n && small62 m) (.ok (rangeD n (m - n).toNat))
      | _=>.no
    | _=>.no):=rfl
theorem xI_enum {a:E}:evI T cf (.enum a) e = (do
    match ← evE T cf a e with
    | .lst ds=>.ok (enumD 0 ds)
    | .tup ds=>.ok (enumD 0 ds)
    | _=>.no):=rfl
theorem xI_zip {a:E} {b:E}:evI T cf (.zip a b) e = (do let x ← evE T cf a e;let y ← evE T cf b e;zipR x y):=rfl
theorem xS_nil  : exS T cf (.nil) e = (.ok (.nx e)):=rfl
theorem xS_cons {a:S} {r:S}:exS T cf (.cons a r) e = (do
    match ← exS T cf a e with
    | .nx e1=>exS T cf r e1
    | o=>.ok o):=rfl
theorem xS_pass  : exS T cf (.pass) e = (.ok (.nx e)):=rfl
theorem xS_ret {x:E}:exS T cf (.ret x) e = (do let d ← evE T cf x e;.ok (.rt d (freshE T x && !tupL d))):=rfl
theorem xS_retO {i:Nat}:exS T cf (.retO i) e = (do let a ← (e.at i).ownA;.ok (.rt a true)):=rfl
theorem xS_retN  : exS T cf (.retN) e = (.ok (.rt .non false)):=rfl
theorem xS_asg {g:G} {x:E}:exS T cf (.asg g x) e = (do let d ← evE T cf x e;let e1 ← g.put d e;.ok (.nx e1)):=rfl
theorem xS_asgO {i:Nat} {x:E}:exS T cf (.asgO i x) e = (do
    match ← evE T cf x e with
    | .lst a=>when (freshE T x) (.ok (.nx (e.set i (.o (.lst a)))))
    | .dct a=>when (freshE T x) (.ok (.nx (e.set i (.o (.dct a)))))
    | .tdc a=>when (freshE T x) (.ok (.nx (e.set i (.o (.tdc a)))))
    | _=>.no):=rfl
theorem xS_sealed {i:Nat}:exS T cf (.«sealed» i) e = (do let a ← (e.at i).ownA;.ok (.nx (e.set i (.v a)))):=rfl
theorem xS_ite {c:E} {a:S} {b:S}:exS T cf (.ite c a b) e = (do let x ← evE T cf c e;let k ← x.truth;if k then exS T cf a e else exS T cf b e):=rfl
theorem xS_forS {g:G} {src:E} {b:S}:exS T cf (.forS g src b) e = (do
    let ds ← evI T cf src e
    forL (fun d e0=>do let e1 ← g.put d e0;exS T cf b e1) ds e):=rfl
theorem xS_whl {n:Nat} {c:E} {b:S}:exS T cf (.whl n c b) e = (whileL (fun e0=>do let x ← evE T cf c e0;x.truth) (fun e0=>exS T cf b e0) n e):=rfl
theorem xS_app {i:Nat} {x:E}:exS T cf (.app i x) e = (do
    let d ← evE T cf x e
    let a ← (e.at i).own
    when (decide (a.length < big)) (.ok (.nx (e.set i (.o (.lst (a ++ [d]))))))):=rfl
theorem xS_rev {i:Nat}:exS T cf (.rev i) e = (do
    let a ← (e.at i).own
    .ok (.nx (e.set i (.o (.lst a.reverse))))):=rfl
theorem xS_dput {i:Nat} {k:E} {x:E}:exS T cf (.dput i k x) e = (do
    let d ← evE T cf x e
    let a ← (e.at i).ownD
    let y ← evE T cf k e
    let key ← Res.of (keyOf y)
    when (decide (a.length < big)) (.ok (.nx (e.set i (.o (.dct (putKD a key d))))))):=rfl
theorem xS_dputT {i:Nat} {k:E} {x:E}:exS T cf (.dputT i k x) e = (do
    let d ← evE T cf x e
    let a ← (e.at i).ownT
    let ys ← evA T cf k e
    let key ← Res.of (keysT ys)
    when (decide (a.length < big)) (.ok (.nx (e.set i (.o (.tdc (putTD a key d))))))):=rfl
theorem xS_ext {i:Nat} {x:E}:exS T cf (.ext i x) e = (do
    match ← evE T cf x e with
    | .lst b=>do
      let a ← (e.at i).own
      when (freshE T x && decide (a.length + b.length ≤ big)) (.ok (.nx (e.set i (.o (.lst (a ++ b))))))
    | _=>.no):=rfl
theorem xS_never  : exS T cf (.never) e = (.no):=rfl
theorem xS_asgP {g:G} {i:Nat} {k:E}:exS T cf (.asgP g i k) e = (do
    let a ← (e.at i).own
    let d ← evE T cf k e
    let j ← popAt a.length k d
    let y ← Res.of a[j]?
    let e1 ← g.put y (e.set i (.o (.lst (a.eraseIdx j))))
    .ok (.nx e1)):=rfl
theorem xS_appP {i':Nat} {i:Nat} {k:E}:exS T cf (.appP i' i k) e = (do
    let b ← (e.at i').own
    let a ← (e.at i).own
    let d ← evE T cf k e
    let j ← popAt a.length k d
    let y ← Res.of a[j]?
    when (decide (i ≠ i') && decide (b.length < big)) (.ok (.nx ((e.set i (.o (.lst (a.eraseIdx j)))).set i' (.o (.lst (b ++ [y]))))))):=rfl
theorem xS_aug {i:Nat} {o:Operator} {x:E}:exS T cf (.aug i o x) e = (do
    let d ← (e.at i).val
    let y ← evE T cf x e
    let z ← D.aug o d y
    .ok (.nx (e.set i (.v z)))):=rfl
theorem xS_lput {i:Nat} {k:E} {x:E}:exS T cf (.lput i k x) e = (do
    let d ← evE T cf x e
    let a ← (e.at i).own
    let y ← evE T cf k e
    let j ← popIx a.length y
    .ok (.nx (e.set i (.o (.lst (a.set j d)))))):=rfl
theorem xS_exp {x:E}:exS T cf (.exp x) e = (do let _ ← evE T cf x e;.ok (.nx e)):=rfl
theorem xS_ins {i:Nat} {k:E} {x:E}:exS T cf (.ins i k x) e = (do
    let y ← evE T cf k e
    let d ← evE T cf x e
    let a ← (e.at i).own
    let j ← insIx a.length y
    .ok (.nx (e.set i (.o (.lst (a.take j ++ d :: a.drop j)))))):=rfl
theorem xS_asgT {i:Nat} {x:E}:exS T cf (.asgT i x) e = (do
    match ← evE T cf x e with
    | .tup (.lst a :: r)=>when (freshE T x) (.ok (.nx (e.set i (.t (.lst a :: r)))))
    | _=>.no):=rfl
theorem xS_appT {i:Nat} {x:E}:exS T cf (.appT i x) e = (do
    let d ← evE T cf x e
    match ← (e.at i).ownP with
    | .lst a :: _=>when (decide (a.length < big)) (.ok (.nx (e.set i .no)))
    | _=>.no):=rfl
theorem xS_retT {x y:E}:exS T cf (.retT x y) e = (do
    match ← evE T cf x e with
    | .lst a=>do
      let d ← evE T cf y e
      when (freshE T x) (.ok (.rt (.tup [.lst a,d]) true))
    | _=>.no):=rfl
theorem xS_rais {c:Str} {a:E}:exS T cf (.rais c a) e = (.no):=rfl
theorem xS_brk  : exS T cf (.brk) e = (.ok (.bk e)):=rfl
theorem xS_cnt  : exS T cf (.cnt) e = (.ok (.ct e)):=rfl
end
section
variable {T:Tab} {cf:Nat → List D → Res D} {e:Nv}
theorem xX_cons {a r:S}:exX T cf (.cons a r) e = (match exX T cf a e with
    | some z=>some z
    | none=>match exS T cf a e with
      | .ok (.nx e1)=>exX T cf r e1
      | _=>none):=rfl
theorem xX_ite {c:E} {a b:S}:exX T cf (.ite c a b) e = (match evE T cf c e with
    | .ok x=>match x.truth with
      | .ok true=>exX T cf a e
      | .ok false=>exX T cf b e
      | _=>none
    | _=>none):=rfl
theorem xX_call {f:Nat} {a:E}:exX T cf (.exp (.call f a)) e = (match evA T cf a e with
    | .ok ds=>match cf f ds with
      | .err c d=>some (c,d)
      | _=>none
    | _=>none):=rfl
theorem xX_rais {c:Str} {a:E}:exX T cf (.rais c a) e = (match evA T cf a e with
    | .ok [.str _]=>some (c,.non)
    | _=>none):=rfl
end
section
variable {T:Tab} {cf:Nat → List D → Res D}
theorem exX_not:∀ {x:S} {e:Nv} {z:Str × D},exX T cf x e = some z → ∀ o,exS T cf x e ≠ .ok o
  | .cons a r,e,z,h,o,k=>by
    rw [xX_cons] at h
    rw [xS_cons] at k
    cases ha:exX T cf a e with
    | some z' =>
      have:=exX_not ha
      cases hs:exS T cf a e with
      | ok o'=>exact this o' hs
      | err c d=>rw [hs] at k;cases k
      | no=>rw [hs] at k;cases k
    | none =>
      rw [ha] at h
      cases hs:exS T cf a e with
      | ok o' =>
        rw [hs] at h k
        cases o' with
        | nx e1=>exact exX_not h o k
        | _=>cases h
      | err c d=>rw [hs] at h;cases h
      | no=>rw [hs] at h;cases h
  | .ite c a b,e,z,h,o,k=>by
    rw [xX_ite] at h
    rw [xS_ite] at k
    cases hc:evE T cf c e with
    | ok x =>
      rw [hc] at h k
      cases ht:x.truth with
      | ok q =>
        have k:(do let q ← x.truth;if q = true then exS T cf a e else exS T cf b e) = .ok o:=k
        simp only [ht] at h
        rw [ht] at k
        cases q with
        | true=>exact exX_not h o k
        | false=>exact exX_not h o k
      | err _ _=>simp only [ht] at h;cases h
      | no=>simp only [ht] at h;cases h
    | err _ _=>rw [hc] at h;cases h
    | no=>rw [hc] at h;cases h
  | .exp x,e,z,h,o,k=>by
    cases x with
    | call f a =>
      rw [xX_call] at h
      rw [xS_exp,xE_call] at k
      cases ha:evA T cf a e with
      | ok ds =>
        rw [ha] at h k
        have k:(do let _ ← cf f ds;Res.ok (Out.nx e)) = .ok o:=k
        cases hf:cf f ds with
        | err c d=>rw [hf] at k;cases k
        | ok _=>simp only [hf] at h;cases h
        | no=>simp only [hf] at h;cases h
      | err _ _=>rw [ha] at h;cases h
      | no=>rw [ha] at h;cases h
    | _=>cases h
  | .rais c a,e,z,h,o,k=>by cases k
  | .nil,_,_,h,_,_ | .pass,_,_,h,_,_ | .ret _,_,_,h,_,_ | .retO _,_,_,h,_,_ | .retN,_,_,h,_,_ | .asg _ _,_,_,h,_,_ | .asgO _ _,_,_,h,_,_ | .«sealed» _,_,_,h,_,_ | .forS _ _ _,_,_,h,_,_ | .whl _ _ _,_,_,h,_,_ | .app _ _,_,_,h,_,_ | .rev _,_,_,h,_,_ | .brk,_,_,h,_,_ | .cnt,_,_,h,_,_ | .dput _ _ _,_,_,h,_,_ | .ext _ _,_,_,h,_,_ | .never,_,_,h,_,_ | .asgP _ _ _,_,_,h,_,_ | .appP _ _ _,_,_,h,_,_ | .aug _ _ _,_,_,h,_,_ | .lput _ _ _,_,_,h,_,_ | .dputT _ _ _,_,_,h,_,_ | .ins _ _ _,_,_,h,_,_ | .asgT _ _,_,_,h,_,_ | .appT _ _,_,_,h,_,_ | .retT _ _,_,_,h,_,_=>by cases h
end
end Tr
namespace Tr
open PySem PySem.Spec PyProof.Rows L2 Builtin.Str
theorem str_ext {x y:Str} (h:x.cps.toList = y.cps.toList):x = y:=by
  cases x;cases y
  simp only [Str.mk.injEq]
  exact Array.toList_inj.mp h
theorem filterMap_range {α:Type} (xs:List α) (a b:Nat) (hb:b ≤ xs.length):((List.range (b - a)).map fun k=>a + k).filterMap (xs[·]?) = (xs.drop a).take (b - a):=by
  generalize hn:b - a = n
  induction n generalizing a with
  | zero=>simp
  | succ n ih =>
    have ha:a < xs.length:=by (first | lia | omega)
    rw [List.range_succ_eq_map,List.map_cons,List.filterMap_cons,List.map_map,List.drop_eq_getElem_cons ha,List.take_succ_cons]
    simp only [Nat.add_zero,List.getElem?_eq_getElem ha]
    congr 1
    rw [← ih (a + 1) (by (first | lia | omega))]
    congr 1
    apply List.map_congr_left
    intro k _
    simp only [Function.comp]
    (first | lia | omega)
theorem sliceRange_nat {a b:Int} {p q:Nat} (ha:a = p) (hb:b = q):sliceRange a b 1 = (List.range (q - p)).map fun k=>p + k:=by
  subst ha hb
  unfold sliceRange
  simp only [show (1:Int) > 0 by decide,if_true]
  have hc:(if (p:Int) < (q:Int) then ((q:Int) - (p:Int) + 1 - 1) / 1 else 0).toNat = q - p:=by
    rw [Int.ediv_one]
    split <;> (first | lia | omega)
  rw [hc]
  apply List.map_congr_left
  intro k _
  (first | lia | omega)
theorem slice_indices (n:Nat) (lo hi:Option Int):strSliceIndices lo hi 1 n = (List.range (sIx n n hi - sIx n 0 lo)).map fun k=>sIx n 0 lo + k:=by
  unfold strSliceIndices
  refine sliceRange_nat ?_ ?_
  · cases lo with
    | none=>rfl
    | some v =>
      simp only [show (1:Int) > 0 by decide,if_true,sIx]
      split <;> (first | lia | omega)
  · cases hi with
    | none=>rfl
    | some v =>
      simp only [show (1:Int) > 0 by decide,if_true,sIx]
      split <;> (first | lia | omega)
theorem sIx_le' (n d:Nat) (hd:d ≤ n) (o:Option Int):sIx n d o ≤ n:=by
  cases o with
  | none=>exact hd
  | some v =>
    simp only [sIx]
    split <;> (first | lia | omega)
theorem slice_cut (x:Str) (lo hi:Option Int):Txt.slice x lo hi = strCut x lo hi:=by
  have hl:x.cps.toList.length = x.length:=by simp [Str.length]
  unfold Txt.slice
  rw [slice_indices]
  have e:(List.filterMap (x.cps[·]?) ((List.range (sIx x.length x.length hi - sIx x.length 0 lo)).map fun k=>sIx x.length 0 lo + k)) = cut x.cps.toList lo hi:=by
    have:=filterMap_range x.cps.toList (sIx x.length 0 lo) (sIx x.length x.length hi) (by rw [hl];exact sIx_le' _ _ (Nat.le_refl _) _)
    unfold cut
    rw [hl,← this]
    congr 1
    funext k
    simp
  split
  · rename_i c
    simp only [beq_self_eq_true,Bool.true_and,List.length_map,List.length_range,beq_iff_eq] at c
    refine str_ext ?_
    show _ = (cut x.cps.toList lo hi).toArray.toList
    have h1:=sIx_le' x.length x.length (Nat.le_refl _) hi
    unfold cut
    by_cases hz:x.length = 0
    · have:x.cps.toList = []:=List.eq_nil_of_length_eq_zero (by (first | lia | omega))
      rw [this];simp
    · have h0:sIx x.length 0 lo = 0:=by (first | lia | omega)
      have h2:sIx x.length x.length hi = x.length:=by (first | lia | omega)
      rw [hl,h0,h2,List.drop_zero,Nat.sub_zero,← hl,List.take_of_length_le (Nat.le_refl _)]
  · rw [e];rfl
theorem oneIn_ok {x y:Str} {b:Bool} (h:oneIn x y = .ok b):(!(occurrences y x 0 y.length 1).isEmpty) = b:=by
  unfold oneIn at h
  split at h
  · rename_i c hc
    cases h
    have ex:x = ⟨#[c]⟩:=str_ext (by rw [hc])
    rw [ex]
    exact StrLaws.found_one y c
  · cases h
end Tr
namespace Tr
open PySem PySem.Spec PyProof.Rows L2 Builtin.Str
section
variable {X:Cx}
theorem isPart_str {v:Value} {o:Option Int} (h:IsPart v o):∃ p:Option (Int × Tok),v = partValue p ∧ p.map (·.1) = o:=by
  cases h with
  | none=>exact ⟨none,rfl,rfl⟩
  | int i t=>exact ⟨some (i,t),rfl,rfl⟩
theorem sl_str:SlR X (fun x lo hi H Q=>∃ z,x = .str z ∧ z.length ≤ sizeLine ∧ Q (.str (strCut z lo hi)) H):=by
  intro pins s σ H x v vl vu lo hi sl Q I rx hs pl pu h
  obtain ⟨z,rfl,hz,q⟩:=h
  obtain ⟨t,rfl⟩:=rx
  obtain ⟨p,rfl,rfl⟩:=isPart_str pl
  obtain ⟨p',rfl,rfl⟩:=isPart_str pu
  refine ⟨"str", _,PySem.F.slot_str_getitem.lookup,typeIs_str _ _ _,wpAny_getItem_str_slice (l:=p) (u:=p') (st:=none) hs rfl ?_⟩
  refine post_val_or_str ⟨Nat.le_trans (Txt.slice_le z _ _) hz,fun t' k=>?_⟩
  refine ⟨.str _,H,I.tok k,⟨t',?_⟩,q⟩
  rw [← slice_cut]
  rfl
theorem call_int_text:CallR X (.type "int") (fun xs H Q=>∃ z,xs = [.str z] ∧ isDigits z.cps.toList = true ∧ z.length ≤ 640 ∧ Q (.int (digitsN z.cps.toList)) H):=by
  intro pins s σ H xs us Q I r h
  obtain ⟨z,rfl,hd,hl,q⟩:=h
  obtain ⟨u,rfl,rx⟩:=vals1 r
  obtain ⟨t,rfl⟩:=rx
  unfold isDigits at hd
  rw [Bool.and_eq_true,List.all_eq_true] at hd
  have had:PySem.NumText.AllDigits z.cps.toList:=fun c hc=>by
    have:=hd.2 c hc
    simpa using this
  have hne:z.cps.toList ≠ []:=by
    have:=hd.1
    intro e
    rw [e] at this
    cases this
  have hn:=PySem.intText_digits had hne (by (first | lia | omega))
  exact PySem.W.KIN.call_text (n:=((digitsN z.cps.toList:Nat):Int)) hn hl ⟨.int _,H,I.tok _,⟨_,rfl⟩,q⟩
theorem bools_walk {pins:List (Addr × Obj)} {s:Shared} {σ:L2.St} {H:Hp} {a:Addr} {bs:List Bool} {its:List Value} (I:Inv X pins σ H s) (r':Vals (bs.map V.bl) its) (pl:PlainL s.heap a its.toArray) :
    (s.heap.push { cls:=.type "list_iterator", data:=.fields #[.ref a,.int 0 0] }).IsList a its.toArray ∧ TruthOf X.prog X.w X.A.in1 (fun i v=>its.toArray[i]? = some v) (fun i=>(bs[i]?).getD true):=by
  refine ⟨pl.isList.at fun o e=>Heap.get?_push_of_some _ e,?_⟩
  intro i v s' Q' E' hv hQ'
  have hv':its[i]? = some v:=by simpa using hv
  obtain ⟨hi,_⟩:=List.getElem?_eq_some_iff.mp hv'
  have hib:i < bs.length:=by have:=r'.length;rw [List.length_map] at this;(first | lia | omega)
  obtain ⟨w,hw,rw'⟩:=r'.get (i:=i) (by rw [List.getElem?_map,List.getElem?_eq_getElem hib];rfl)
  rw [hv'] at hw
  cases hw
  have:v = .bool bs[i]:=rw'
  subst this
  have e:(bs[i]?).getD true = bs[i]:=by rw [List.getElem?_eq_getElem hib];rfl
  dsimp only at hQ'
  rw [e] at hQ'
  exact wpAny_truthy_bool hQ'
theorem range_all (bs:List Bool):(List.range bs.length).all (fun i=>(bs[i]?).getD true) = bs.all id:=by
  induction bs with
  | nil=>rfl
  | cons b r ih =>
    rw [List.length_cons,List.range_succ_eq_map,List.all_cons,List.all_map,List.all_cons,← ih]
    rfl
theorem range_any (bs:List Bool):(List.range bs.length).any (fun i=>(bs[i]?).getD true) = bs.any id:=by
  induction bs with
  | nil=>rfl
  | cons b r ih =>
    rw [List.length_cons,List.range_succ_eq_map,List.any_cons,List.any_map,List.any_cons,← ih]
    rfl
theorem call_all:CallR X (.builtin "all") (fun xs H Q=>∃ (a:Addr) (bs:List Bool),xs = [.ref a] ∧ SqL X.K H a (bs.map V.bl) ∧ X.calm = true ∧ Q (.bl (bs.all id)) H):=by
  intro pins s σ H xs us Q I r h
  obtain ⟨a,bs,rfl,hq,hc,q⟩:=h
  obtain ⟨u,rfl,rx⟩:=vals1 r
  cases rx
  obtain ⟨its,r',pl,hz⟩:=I.list hq
  refine call_all_walk (wpAny_pyIter_list pl.isList ?_)
  have hlt:a < s.heap.objs.size:=by obtain ⟨o,e,_⟩:=pl.isList;exact Heap.lt_size e
  obtain ⟨w1,w2⟩:=bools_walk I r' pl
  refine ⟨s.heap.objs.size,[s.heap.objs.size,a],[s.heap.objs.size],its.toArray.size,(fun i v=>its.toArray[i]? = some v),(fun i h=>h.IsListIter s.heap.objs.size a i ∧ h.IsList a its.toArray),fun i=>(bs[i]?).getD true,rfl,Walks.list (A:=X.A.in1) (I.ok.hd hc) s.heap.objs.size a (Nat.ne_of_lt hlt) its.toArray,⟨⟨_,Heap.get?_push_size _ rfl,rfl,rfl⟩,w1⟩,w2,fun h' tk hk=>?_⟩
  refine ⟨.bl (bs.all id),H,I.kept (h':=h') (t':=tk) fun b o e=>hk b o (by simp;exact fun z=>absurd (z ▸ Heap.lt_size e) (Nat.lt_irrefl _)) (Heap.get?_push_of_some _ e),?_,q⟩
  have hl:=r'.length
  rw [List.length_map] at hl
  show Value.bool _ = Value.bool _
  rw [List.size_toArray,← hl,range_all]
theorem call_any:CallR X (.builtin "any") (fun xs H Q=>∃ (a:Addr) (bs:List Bool),xs = [.ref a] ∧ SqL X.K H a (bs.map V.bl) ∧ X.calm = true ∧ Q (.bl (bs.any id)) H):=by
  intro pins s σ H xs us Q I r h
  obtain ⟨a,bs,rfl,hq,hc,q⟩:=h
  obtain ⟨u,rfl,rx⟩:=vals1 r
  cases rx
  obtain ⟨its,r',pl,hz⟩:=I.list hq
  refine call_any_walk (wpAny_pyIter_list pl.isList ?_)
  have hlt:a < s.heap.objs.size:=by obtain ⟨o,e,_⟩:=pl.isList;exact Heap.lt_size e
  obtain ⟨w1,w2⟩:=bools_walk I r' pl
  refine ⟨s.heap.objs.size,[s.heap.objs.size,a],[s.heap.objs.size],its.toArray.size,(fun i v=>its.toArray[i]? = some v),(fun i h=>h.IsListIter s.heap.objs.size a i ∧ h.IsList a its.toArray),fun i=>(bs[i]?).getD true,rfl,Walks.list (A:=X.A.in1) (I.ok.hd hc) s.heap.objs.size a (Nat.ne_of_lt hlt) its.toArray,⟨⟨_,Heap.get?_push_size _ rfl,rfl,rfl⟩,w1⟩,w2,fun h' tk hk=>?_⟩
  refine ⟨.bl (bs.any id),H,I.kept (h':=h') (t':=tk) fun b o e=>hk b o (by simp;exact fun z=>absurd (z ▸ Heap.lt_size e) (Nat.lt_irrefl _)) (Heap.get?_push_of_some _ e),?_,q⟩
  have hl:=r'.length
  rw [List.length_map] at hl
  show Value.bool _ = Value.bool _
  rw [List.size_toArray,← hl,range_any]
noncomputable def Its (x:Str):It:=⟨fun i _=>i < x.cps.size,fun i H v H'=>H' = H ∧ ∃ c,x.cps[i]? = some c ∧ v = .str ⟨#[c]⟩,fun i _=>x.cps.size ≤ i⟩
theorem turn_str {P:Program} {w:World} {K:PySem.W.Frag} {tg:Expr} (ty:String) (it:Addr) (x:Str) (t:Tok)
    (hty:["enumerate", "zip", "dict_itemiterator", "dict_reverseitemiterator", "odict_iterator", "itertools.zip_longest", "itertools.pairwise"].contains ty = false)
    (W:∀ A:Around,A.handled = none → Walks P w A it [it] [it] x.cps.size (SignAt x) (fun i h=>h.IsStrIter it ty x t i))
    (en:∀ (A:Around) (s:Shared) (i:Nat) (Q:Option Value → Shared → Prop) (E:Value → Shared → Prop),A.handled = none → s.heap.IsStrIter it ty x t i → x.cps[i]? = none → (∀ h',Heap.ExtBut it s.heap h' → Q none { s with heap:=h' }) → wpAny (model P w) A (pyNext (.ref it)) Q E s)
    (sf:∀ (A:Around) (s:Shared) (i:Nat) (Q:Value → Shared → Prop) (E:Value → Shared → Prop),s.heap.IsStrIter it ty x t i → Q (.ref it) s → wpAny (model P w) A (pyIter (.ref it)) Q E s) :
    Turn P w K tg (Its x) [it] it (fun i h=>h.IsStrIter it ty x t i) where
  mem:=by simp
  obj:=fun i h st b hb=>by
    have e:b = it:=by simpa using hb
    subst e
    obtain ⟨o,e,c,d⟩:=st
    exact ⟨o,e,fun v z=>by rw [d] at z;cases z⟩
  keep:=fun i h h' st k=>let ⟨o,e,c⟩:=st;⟨o,k it (by simp) o e,c⟩
  item:=by
    intro X hP hw hK hc i pins s σ H E I hf st hg
    subst hP hw hK
    obtain ⟨f0,f1,f2,f3,f4,f5⟩:=hf it (by simp)
    refine (W X.A (I.ok.hd hc)).item i s _ _ hg st fun v h' tk hv st' kk=>?_
    obtain ⟨c,u,hx,rfl⟩:=hv
    have I1:Inv X pins σ H { s with heap:=h',toks:=tk }:=I.turned (fun b o hb e=>kk b o (by simpa using hb) e) f0 f1 f3 f4 f5
    obtain ⟨o,e,cc,d⟩:=id st'
    exact ⟨_,rfl,go_of (s:={ s with heap:=h',toks:=tk }) e cc d hty ⟨.str ⟨#[c]⟩,H,I1,⟨u,rfl⟩,⟨rfl,c,hx,rfl⟩,st',fun b hb=>(hf b hb).1⟩⟩
  done:=by
    intro X hP hw hK hc i pins s σ H E I hf st hg
    subst hP hw hK
    obtain ⟨f0,f1,f2,f3,f4,f5⟩:=hf it (by simp)
    have hn:x.cps[i]? = none:=by
      have:x.cps.size ≤ i:=hg
      simpa using this
    exact en X.A s i _ _ (I.ok.hd hc) st hn fun h' eb=>⟨rfl,I.turned (t':=s.toks) (fun b o hb e=>eb b o hb e) f0 f1 f3 f4 f5⟩
  self:=fun A i s Q E st h=>sf A s i Q E st h
theorem pi_str {pins:List (Addr × Obj)} {s:Shared} {σ:L2.St} {H:Hp} {tg:Expr} {R:It → Hp → Prop} {x:Str} {t:Tok} (I:Inv X pins σ H s) (h:R (Its x) H) :
    wpAny (model X.prog X.w) X.A (pyIter (.str x t)) (PIE X pins σ tg R) X.xe s:=by
  have fp:∀ b ∈ [s.heap.objs.size],FpOk X pins H b:=fun b hb=>by
    rcases List.mem_cons.mp hb with rfl | hb
    · exact I.fpOk (Nat.le_refl _) (I.hok.fresh (Nat.le_refl _))
    · cases hb
  cases ha:x.cps.all (· < 128)
  · refine wpAny_pyIter_wide ha ?_
    exact ⟨s.heap.objs.size,[s.heap.objs.size],_,Its x,H,rfl,I.kept (t':=s.toks) fun b u e=>Heap.get?_push_of_some _ e,turn_str "str_iterator" _ x t (by decide) (fun A hA=>Walks.strWide hA _ x t) (fun A s i Q E hA st hx k=>wpAny_pyNext_wide_end hA st hx k) (fun A s i Q E st k=>wpAny_pyIter_striter_wide st k),⟨_,Heap.get?_push_size _ rfl,rfl,rfl⟩,fp,h⟩
  · refine wpAny_pyIter_ascii ha ?_
    exact ⟨s.heap.objs.size,[s.heap.objs.size],_,Its x,H,rfl,I.kept (t':=s.toks) fun b u e=>Heap.get?_push_of_some _ e,turn_str "str_ascii_iterator" _ x t (by decide) (fun A hA=>Walks.strAscii hA _ x t) (fun A s i Q E hA st hx k=>wpAny_pyNext_ascii_end hA st hx k) (fun A s i Q E st k=>wpAny_pyIter_striter_ascii st k),⟨_,Heap.get?_push_size _ rfl,rfl,rfl⟩,fp,h⟩
end
end Tr
namespace Tr
open PySem PySem.Spec PyProof.Rows L2
section
variable {prog:Program} {w:World} {A:Around} {E:Value → Shared → Prop} {s:Shared}
theorem nextOf_tup {it t:Addr} {i:Nat} {items:Array Value} {x:Value} {Q:Value → Shared → Prop} (hit:s.heap.IsTupleIter it t i) (ht:s.heap.IsTuple t items) (hx:items[i]? = some x)
    (hQ:∀ h',h'.IsTupleIter it t (i + 1) → Heap.SameBut it s.heap h' → Q x { s with heap:=h' }):wpAny (model prog w) A (Builtin.SmallTypes.nextOf (.ref it)) Q E s:=by
  obtain ⟨o,ho,hc,hd⟩:=id hit
  obtain ⟨ol,hol,_,nl,hdl⟩:=ht
  unfold Builtin.SmallTypes.nextOf
  refine wpAny_bind (wpAny_callSpecial?_slot (name:=Str.ofString "__next__") hit.typeIs F.slot_tuple_iterator_next
    (wpAny_call_entry F.slot_tuple_iterator_next hit.typeIs F.entry_tuple_iterator_next ?_ (F.args_tuple_iterator_next_1 _)))
  show wpAny _ _ (field (.ref it) 0 >>= _) _ _ s
  refine wpAny_bind (wpAny_field ho hd (x:=.ref t) rfl ?_)
  show wpAny _ _ (if (Value.ref t == Value.none) = true then _ else _) _ _ s
  rw [if_neg (show ¬ ((Value.ref t == Value.none) = true) from Bool.false_ne_true)]
  show wpAny _ _ (field (.ref it) 1 >>= _) _ _ s
  refine wpAny_bind (wpAny_field ho hd (x:=.int i 0) rfl ?_)
  show wpAny _ _ (seqItems? (.ref t) >>= _) _ _ s
  refine wpAny_bind (wpAny_seqItems hol hdl ?_)
  simp only [Int.toNat_natCast,hx]
  refine wpAny_bind (wpAny_setField ho hd (by simp) (wpAny_pure ⟨x,rfl,wpAny_pure (hQ _ ?_ (Heap.SameBut.update ..))⟩))
  exact ⟨_,Heap.get?_update_self _ ho (Obj.isFreed_of_fields (Obj.data_mapFields hd _)),(Obj.cls_mapFields ..).trans hc,by
    rw [Obj.data_mapFields hd];simp [rawInt]⟩
theorem nextOf_tup_end {it t:Addr} {i:Nat} {items:Array Value} {Q:Value → Shared → Prop} (hh:A.handled = none) (hit:s.heap.IsTupleIter it t i) (ht:s.heap.IsTuple t items) (hx:items[i]? = none)
    (hE:∀ h' e,Heap.ExtBut it s.heap h' → (∃ o,h'.get? e = some o ∧ o.cls = .type "StopIteration") → E (.ref e) { s with heap:=h' }):wpAny (model prog w) A (Builtin.SmallTypes.nextOf (.ref it)) Q E s:=by
  obtain ⟨o,ho,hc,hd⟩:=id hit
  obtain ⟨ol,hol,_,nl,hdl⟩:=ht
  unfold Builtin.SmallTypes.nextOf
  refine wpAny_bind (wpAny_callSpecial?_slot (name:=Str.ofString "__next__") hit.typeIs F.slot_tuple_iterator_next
    (wpAny_call_entry F.slot_tuple_iterator_next hit.typeIs F.entry_tuple_iterator_next ?_ (F.args_tuple_iterator_next_1 _)))
  show wpAny _ _ (field (.ref it) 0 >>= _) _ _ s
  refine wpAny_bind (wpAny_field ho hd (x:=.ref t) rfl ?_)
  show wpAny _ _ (if (Value.ref t == Value.none) = true then _ else _) _ _ s
  rw [if_neg (show ¬ ((Value.ref t == Value.none) = true) from Bool.false_ne_true)]
  show wpAny _ _ (field (.ref it) 1 >>= _) _ _ s
  refine wpAny_bind (wpAny_field ho hd (x:=.int i 0) rfl ?_)
  show wpAny _ _ (seqItems? (.ref t) >>= _) _ _ s
  refine wpAny_bind (wpAny_seqItems hol hdl ?_)
  simp only [Int.toNat_natCast,hx]
  refine wpAny_bind (wpAny_rule (wpAny_bind (wpAny_setField ho hd (by simp) ?_)))
  show wpAny _ _ (newExc (.type "StopIteration") [] >>= _) _ _ _
  refine wpAny_bind ?_
  simp only [newExc,newTuple]
  refine wpAny_bind (wpAny_newObj_type ?_ (by size_fits))
  refine wpAny_bind (m:=firstArgMember _ _) (wpAny_of_eq (a:=Value.none) (by first | rfl | (simp only [firstArgMember];rfl)) ?_)
  refine wpAny_newObj_type ?_ (by size_fits)
  simp only [raiseNew]
  refine wpAny_bind (wpAny_handled ?_)
  first | rw [show A.in1.handled = none from hh] | rw [hh]
  refine wpAny_bind (wpAny_pure (wpAny_throw ?_))
  exact hE _ _ (((Heap.SameBut.update ..).extBut.push _).push _) ⟨_,Heap.get?_push_size _ rfl,rfl⟩
end
theorem tup_at {h h':Heap} {a:Addr} {items:Array Value} (x:h.IsTuple a items) (e:∀ o,h.get? a = some o → h'.get? a = some o):h'.IsTuple a items:=let ⟨o,ho,r⟩:=x;⟨o,e _ ho,r⟩
theorem draws_tup {prog:Program} {w:World} {A:Around} (hh:A.handled = none) (it t:Addr) (hne:t ≠ it) (items:Array Value) :
    Draws prog w A it [it,t] items.size (fun i v=>items[i]? = some v) (fun i h=>h.IsTupleIter it t i ∧ h.IsTuple t items) where
  live:=fun _ _ st=>let ⟨o,ho,_⟩:=st.1;⟨o,ho⟩
  frame:=fun _ _ _ st hk=>⟨st.1.at fun o e=>hk it (by simp) o e,tup_at st.2 fun o e=>hk t (by simp) o e⟩
  item:=fun i s Q E hi st hQ=>nextOf_tup st.1 st.2 (x:=items[i]) (by simp [hi]) fun h' hit' hs'=>hQ _ h' s.toks (by simp [hi]) ⟨hit',st.2.extBut hs'.extBut hne⟩ hs'
  done:=fun s Q E st hE=>nextOf_tup_end hh st.1 st.2 (by simp) hE
theorem meets_enum_tup (l:Addr) (items:Array Value) (n:Nat) (dct:Option Addr) (sl:Array (Option Value)) :
    Meets (Builtin.«enumerate.__new__» ⟨[.type "enumerate", .ref l],[]⟩) (fun _ R s=>s.heap.get? l = some { cls:=.type "tuple", dict:=dct,data:=.seq items n,slots:=sl } ∧
      R (.ok (.ret (.ref (s.heap.push { cls:=.type "tuple_iterator", data:=.fields #[.ref l,.int 0 0] }).objs.size)))
        { s with heap:=(s.heap.push { cls:=.type "tuple_iterator", data:=.fields #[.ref l,.int 0 0] }).push { cls:=.type "enumerate", data:=.fields #[.none,.bool false,.ref s.heap.objs.size,rawInt 0,.none,.none] } }) :=
  .of_wp fun prog w A R s h=>by
    obtain ⟨hp,g,d,tk,os⟩:=s;obtain ⟨hl,h⟩:=h
    have hsub:=sub_enumerate
    have hL:Heap.IsTuple (Shared.heap ⟨hp,g,d,tk,os⟩) l items:=⟨_,hl,rfl,n,rfl⟩
    wp_walk using AutoSeq1.wpAny_loadPart' hl
    refine wpAny_stack_any fun st=>wpAny_pure ?_
    split
    · rename_i c _ _ _ _ _
      cases (c == Value.type "enumerate")
      · wp_walk using AutoSeq1.wpAny_loadPart' hl,wpAny_pyIter_tuple hL
        exact ⟨_,rfl,h⟩
      · wp_walk using AutoSeq1.wpAny_loadPart' hl,wpAny_pyIter_tuple hL
        exact ⟨_,rfl,h⟩
    · wp_walk using AutoSeq1.wpAny_loadPart' hl,wpAny_pyIter_tuple hL
      exact ⟨_,rfl,h⟩
theorem call_enum_tup {prog:Program} {w:World} {A:Around} {E:Value → Shared → Prop} {s:Shared} {l:Addr} {items:Array Value} {Q:Value → Shared → Prop} (hL:s.heap.IsTuple l items)
    (h:∀ h',IsEnum h' (s.heap.objs.size + 1) s.heap.objs.size 0 .none → h'.IsTupleIter s.heap.objs.size l 0 → h'.objs.size = s.heap.objs.size + 2 →
      (∀ b o,s.heap.get? b = some o → h'.get? b = some o) → Q (.ref (s.heap.objs.size + 1)) { s with heap:=h' }) :
    wpAny (model prog w) A (call (.type "enumerate") [.ref l]) Q E s:=by
  obtain ⟨⟨c,dct,dt,sl⟩,hl,hc,n,hd⟩:=hL
  replace hc:c = .type "tuple" := hc
  replace hd:dt = .seq items n:=hd
  subst hc hd
  refine callType_new F.called_enumerate (by decide) (F.typeCall_enumerate_1 _) (F.newCall_enumerate_1 _) (fun obj=>F.args_object_init_2 obj _) F.entry_enumerate_new
    (meets_enum_tup l items n dct sl) ⟨hl,?_⟩
  have hz:(s.heap.push { cls:=.type "tuple_iterator", data:=.fields #[.ref l,.int 0 0] }).objs.size = s.heap.objs.size + 1:=Heap.size_push ..
  show _ ∧ _
  rw [hz]
  have he:IsEnum ((s.heap.push { cls:=.type "tuple_iterator", data:=.fields #[.ref l,.int 0 0] }).push
      { cls:=.type "enumerate", data:=.fields #[.none,.bool false,.ref s.heap.objs.size,rawInt 0,.none,.none] }) (s.heap.objs.size + 1) s.heap.objs.size 0 .none:=by
    have:=Heap.get?_push_size (s.heap.push { cls:=.type "tuple_iterator", data:=.fields #[.ref l,.int 0 0] })
      (o:={ cls:=.type "enumerate", data:=.fields #[.none,.bool false,.ref s.heap.objs.size,rawInt 0,.none,.none] }) rfl
    rw [hz] at this;exact this
  refine ⟨⟨_,he,rfl⟩,h _ he ⟨_,Heap.get?_push_of_some _ (Heap.get?_push_size _ rfl),rfl,rfl⟩ (by rw [Heap.size_push,hz]) fun b o x=>Heap.get?_push_of_some _ (Heap.get?_push_of_some _ x)⟩
end Tr
namespace Tr
open PySem PySem.Spec PyProof.Rows L2 PySem.SeqAt
end Tr
namespace Tr
open PySem PySem.Spec PyProof.Rows L2 PySem.SeqAt
noncomputable def ModS (K:PySem.W.Frag) (a:Addr) (ss:List Str):Prop:=∃ (o:Obj) (its:Array Value) (n:Nat),K.lookup a = some o ∧ o.cls = .type "tuple" ∧ o.dict = none ∧ o.data = .seq its n ∧ Vals (ss.map V.str) its.toList
end Tr
namespace Tr
open PySem PySem.Spec PyProof.Rows L2
noncomputable def met (val:Nat → Key):Nat → List Key
  | 0=>[]
  | i + 1=>if (met val i).any (fun x=>decide (x = val i)) then met val i else met val i ++ [val i]
theorem met_le (val:Nat → Key):∀ i,(met val i).length ≤ i
  | 0=>Nat.le_refl _
  | i + 1=>by
    have ih:=met_le val i
    rw [met]
    split
    · (first | lia | omega)
    · rw [List.length_append,List.length_singleton];(first | lia | omega)
theorem met_any (val:Nat → Key) (i:Nat) (k:Key):(met val (i + 1)).any (fun x=>decide (x = k)) = ((met val i).any (fun x=>decide (x = k)) || decide (k = val i)):=by
  rw [met]
  split
  · rename_i h
    by_cases e:k = val i
    · subst e;rw [h];simp
    · simp [e]
  · rw [List.any_append]
    by_cases e:k = val i
    · subst e;simp
    · have e':¬ val i = k:=fun h=>e h.symm
      simp [e,e']
theorem met_len (val:Nat → Key) (i:Nat):(met val (i + 1)).length = if (met val i).any (fun x=>decide (x = val i)) then (met val i).length else (met val i).length + 1:=by
  rw [met];split <;> simp
section
variable {prog:Program} {w:World} {A:Around} {R:Result → Shared → Prop} {I:Addr} {fp wr:List Addr} {G:Array GenState → Array GenState → Prop} {n:Nat} {P:Nat → Value → Prop} {St:Nat → Shared → Prop}
theorem set_loop (W:WalksS prog w A.in1 I fp wr G n P St) (S:Addr) (hSf:S ∉ fp) (val:Nat → Key) (hval:∀ i v,P i v → (mixKind prog w).is (val i) v = true ∧ v.scannable = true) (hb:n + 1 < scanBound) :
    ∀ (k i:Nat) (s:Shared),n - i = k → i ≤ n → St i s →
      s.heap.SetOf (mixKind prog w) S (fun k'=>(met val i).any (fun x=>decide (x = k'))) (met val i).length →
      (∀ s',Moved (S :: wr) G s s' → s'.heap.SetOf (mixKind prog w) S (fun k'=>(met val n).any (fun x=>decide (x = k'))) (met val n).length → R (.ok (.ret .none)) s') →
      codeAny (model prog w) A (.builtin "set.update.loop" ⟨[.ref S,.ref I],[]⟩) R s:=by
  have hSw:S ∉ wr:=fun h=>hSf (W.sub _ h)
  have hsub:∀ b ∈ wr,b ∈ S :: wr:=fun b hb=>List.mem_cons_of_mem _ hb
  intro k
  induction k with
  | zero =>
    intro i s hk hi hst hS hR
    have hin:i = n:=by (first | lia | omega)
    subst hin
    refine codeAny_builtin PyProof.Rows.F.entry_set_update_loop ?_
    rw [Around.under_plainId PyProof.Rows.F.plain_set_update_loop _]
    show wpAny _ A.in1 (pyNext (.ref I) >>= _) _ _ s
    refine wpAny_bind (W.done s _ _ hst fun s' hm=>?_)
    show wpAny _ A.in1 (ret Value.none) _ _ s'
    exact wpAny_pure (hR s' (hm.mono hsub) (by
      obtain ⟨o,es,ep,t,ho,rest⟩:=hS
      exact ⟨o,es,ep,t,hm.heap S _ hSw ho,rest⟩))
  | succ k ih =>
    intro i s hk hi hst hS hR
    have hlt:i < n:=by (first | lia | omega)
    refine codeAny_builtin PyProof.Rows.F.entry_set_update_loop ?_
    rw [Around.under_plainId PyProof.Rows.F.plain_set_update_loop _]
    show wpAny _ A.in1 (pyNext (.ref I) >>= _) _ _ s
    refine wpAny_bind (W.item i s _ _ hlt hst fun v s' hP hst' hm=>?_)
    obtain ⟨hv,hsc⟩:=hval i v hP
    have hS':s'.heap.SetOf (mixKind prog w) S (fun k'=>(met val i).any (fun x=>decide (x = k'))) (met val i).length:=by
      obtain ⟨o,es,ep,tb,ho,rest⟩:=hS
      exact ⟨o,es,ep,tb,hm.heap S _ hSw ho,rest⟩
    show wpAny _ A.in1 (holding [v] (setAdd S v) >>= _) _ _ s'
    refine wpAny_bind (wpAny_holding ?_)
    unfold setAdd
    refine wpAny_holding ?_
    refine wpAny_bind ((mixKind prog w).pyHash (k:=val i) hv ?_)
    have hroom:(met val i).length + 1 < scanBound:=by have:=met_le val i;(first | lia | omega)
    refine wpAny_setAddHashed_of (knd:=mixKind prog w) (s:={ s' with toks:=s'.toks + 1 }) hv hsc hS' hroom fun h' hsb hS2=>?_
    have hSi:h'.SetOf (mixKind prog w) S (fun k'=>(met val (i + 1)).any (fun x=>decide (x = k'))) (met val (i + 1)).length:=by
      have e1:(fun k'=>(met val (i + 1)).any (fun x=>decide (x = k'))) = (fun k'=>(met val i).any (fun x=>decide (x = k')) || decide (k' = val i)):=funext fun k'=>met_any val i k'
      rw [e1,met_len]
      exact hS2
    refine wpAny_pure ⟨plainId_quiet PyProof.Rows.F.plain_set_update_loop _,ih (i + 1) _ (by (first | lia | omega)) hlt (W.frame _ s' _ _ hst' (Nat.le_succ _) fun b hb o e=>?_) hSi fun s'' hm'' hS''=>?_⟩
    · rw [hsb.2 b (fun h:b = S=>hSf (by rw [← h];exact hb))];exact e
    · refine hR s'' (Moved.trans W.gtrans ((hm.mono hsub).then_heap (Nat.le_succ _) fun b o hb e=>?_) hm'') hS''
      rw [hsb.2 b (fun h:b = S=>hb (by rw [h];exact List.mem_cons_self))];exact e
end
section
variable {prog:Program} {w:World} {A:Around} {E:Value → Shared → Prop} {s:Shared}
set_option maxHeartbeats 3200000 in
theorem call_set_lst {l:Addr} {items:Array Value} {val:Nat → Key} {Q:Value → Shared → Prop} (hh:A.handled = none) (hl:s.heap.IsList l items) (hval:∀ i v,items[i]? = some v → (mixKind prog w).is (val i) v = true ∧ v.scannable = true) (hb:items.size + 1 < scanBound)
    (h:∀ (h':Heap) (tk:Nat),h'.SetOf (mixKind prog w) s.heap.objs.size (fun k'=>(met val items.size).any (fun x=>decide (x = k'))) (met val items.size).length →
      (∀ b o,b < s.heap.objs.size → s.heap.get? b = some o → h'.get? b = some o) → Q (.ref s.heap.objs.size) { s with heap:=h',toks:=tk }) :
    wpAny (model prog w) A (call (.type "set") [.ref l]) Q E s:=by
  obtain ⟨c,tl,hmro⟩:=F.called_set.mro
  have hmade:=F.called_set.made
  have hsub:=F.called_set.sub
  refine wpAny_call (codeAny_of_tree ?_)
  show wpAny _ _ (callAny (.type "set") _) _ _ _
  refine wpAny_pure ⟨Code.quiet_builtin _ (by decide +kernel),codeAny_builtin F.entry_type_call ?_⟩
  rw [Around.under_plain (weight_type_call_type "set" [.ref l] []) rfl]
  have h1:=F.called_set.notType
  have h2:=F.called_set.canCreate
  have hct:=F.typeCall_set_1 (.ref l)
  repeat (any_goals (first | assumption | wp_step))
  refine codeAny_mono (code_set_new_1 (.ref l) (E:=E) (Q₁:=fun obj s₁=>∃ led:Bool,obj = .ref s.heap.objs.size ∧ s₁ = { s with heap:=s.heap.push { cls:=.type "set", dict:=none,data:=.set #[] 0 (.fresh 0 0 led) } }) fun led=>⟨led,rfl,rfl⟩) fun r s₁ hr=>?_
  cases r with
  | error e=>exact hr
  | ok fl =>
    cases fl with
    | ret obj =>
      obtain ⟨led,rfl,rfl⟩:=hr
      have hS:(s.heap.push { cls:=.type "set", dict:=none,data:=.set #[] 0 (.fresh 0 0 led) }).get? s.heap.objs.size = some { cls:=.type "set", dict:=none,data:=.set #[] 0 (.fresh 0 0 led) }:=Heap.get?_push_size _ rfl
      have hT:Shared.TypeIs { s with heap:=s.heap.push { cls:=.type "set", dict:=none,data:=.set #[] 0 (.fresh 0 0 led) } } (.ref s.heap.objs.size) "set" := ⟨_,hS,rfl⟩
      have hli:=F.called_set.init.lookup
      have hbi:=F.called_set.init.bind (.ref s.heap.objs.size)
      repeat (any_goals (first | assumption | wp_step))
      refine codeAny_mono (codeAny_call_builtin (R:=wants (fun r s₂=>r = .none ∧ ∃ h' tk,s₂ = { s with heap:=h',toks:=tk } ∧
          h'.SetOf (mixKind prog w) s.heap.objs.size (fun k'=>(met val items.size).any (fun x=>decide (x = k'))) (met val items.size).length ∧
          (∀ b o,b < s.heap.objs.size → s.heap.get? b = some o → h'.get? b = some o)) E) F.called_set.init.plain F.entry_set_init (check_set_init_1 hT ?_)) fun r₂ s₂ hr₂=>?_
      · generalize hpu:s.heap.push { cls:=.type "set", dict:=none,data:=.set #[] 0 (.fresh 0 0 led) } = hp1 at *
        have hz:hp1.objs.size = s.heap.objs.size + 1:=by rw [← hpu];exact Heap.size_push ..
        have hold:∀ b o,s.heap.get? b = some o → hp1.get? b = some o:=fun b o e=>by rw [← hpu];exact Heap.get?_push_of_some _ e
        obtain ⟨ol,hol,hcl,nl,hdl⟩:=hl
        obtain ⟨ocls,odict,odata,oslots⟩:=ol
        simp only at hcl hdl
        subst hcl;subst hdl
        have hol':hp1.get? l = some { cls:=.type "list", dict:=odict,data:=.seq items nl,slots:=oslots }:=hold _ _ hol
        have hsls:=F.sub_list_set
        have hslf:=F.sub_list_frozenset
        have hne:(Value.type "list" == Value.type "dict") = false:=by decide
        have hl1:hp1.IsList l items:=⟨_,hol',rfl,nl,rfl⟩
        have hlS:l < s.heap.objs.size:=Heap.lt_size hol
        have hneI:l ≠ hp1.objs.size:=by rw [hz];exact Nat.ne_of_lt (Nat.lt_succ_of_lt hlS)
        unfold Builtin.«set.__init__» noKeywords Builtin.Frozenset.updateFrom
        generalize hPI:pyIter = PI
        wp_walk
        subst hPI
        refine wpAny_pyIter_list hl1 ?_
        refine wpAny_bind (wpAny_runValue ?_)
        have hh3:A.in1.in1.in1.handled = none:=by simp [hh]
        refine set_loop ((Walks.list hh3 _ l hneI items).toS) s.heap.objs.size (by rw [hz];simp only [List.mem_cons,List.mem_singleton,List.not_mem_nil,or_false,not_or];exact ⟨Nat.ne_of_lt (Nat.lt_succ_self _),Nat.ne_of_gt hlS⟩) val hval hb (items.size - 0) 0 _ (by (first | lia | omega)) (Nat.zero_le _) ⟨⟨_,Heap.get?_push_size _ rfl,rfl,rfl⟩,(hl1.push _)⟩ ?hS0 ?hR
        case hS0 =>
          have hget:(hp1.push { cls:=.type "list_iterator", data:=.fields #[.ref l,.int 0 0] }).get? s.heap.objs.size
              = some { cls:=.type "set", dict:=none,data:=.set #[] 0 (.fresh 0 0 led) }:=Heap.get?_push_of_some _ hS
          letI:BEq Key:=instBEqOfDecidableEq
          haveI:LawfulBEq Key:=inferInstance
          exact (PyProof.Rows.setObjOf_fresh (knd:=mixKind prog w) led).setOf hget (by unfold scanBound;(first | lia | omega))
        case hR =>
          intro s' hm hS'
          obtain ⟨h',g',d',tk',os'⟩:=s'
          have eg:g' = s.gens:=hm.gens
          have ed:d' = s.drawn:=hm.drawn
          have eo:os' = s.os:=hm.os
          subst eg;subst ed;subst eo
          show wpAny _ _ _ _ _ _
          refine wpAny_pure ?_
          show wpAny _ _ (ret Value.none) _ _ _
          refine wpAny_pure ⟨rfl,h',tk',rfl,hS',fun b o hb e=>?_⟩
          have hb1:b ≠ s.heap.objs.size:=Nat.ne_of_lt hb
          have hb2:b ≠ hp1.objs.size:=by rw [hz];exact Nat.ne_of_lt (Nat.lt_succ_of_lt hb)
          exact hm.heap b o (by simp only [List.mem_cons,List.mem_singleton,List.not_mem_nil,or_false,not_or];exact ⟨hb1,hb2⟩) (Heap.get?_push_of_some _ (hold _ _ e))
      · cases r₂ with
        | error e=>exact hr₂
        | ok fl₂ =>
          cases fl₂ with
          | ret r =>
            obtain ⟨rfl,h',tk,rfl,hS',hk'⟩:=hr₂
            repeat (any_goals (first | assumption | wp_step))
            exact h _ _ hS' hk'
          | _=>exact hr₂.elim
    | _=>exact hr.elim
end
end Tr
namespace Tr
open PySem PySem.Spec PyProof.Rows L2
section
variable {prog:Program} {w:World} {A:Around} {E:Value → Shared → Prop} {s:Shared}
set_option maxHeartbeats 3200000 in
theorem call_set_str {x:Str} {t:Tok} {val:Nat → Key} {Q:Value → Shared → Prop} (hh:A.handled = none) (hval:∀ i v,SignAt x i v → (mixKind prog w).is (val i) v = true ∧ v.scannable = true) (hb:x.cps.size + 1 < scanBound)
    (h:∀ (h':Heap) (tk:Nat),h'.SetOf (mixKind prog w) s.heap.objs.size (fun k'=>(met val x.cps.size).any (fun x=>decide (x = k'))) (met val x.cps.size).length →
      (∀ b o,b < s.heap.objs.size → s.heap.get? b = some o → h'.get? b = some o) → Q (.ref s.heap.objs.size) { s with heap:=h',toks:=tk }) :
    wpAny (model prog w) A (call (.type "set") [.str x t]) Q E s:=by
  obtain ⟨c,tl,hmro⟩:=F.called_set.mro
  have hmade:=F.called_set.made
  have hsub:=F.called_set.sub
  refine wpAny_call (codeAny_of_tree ?_)
  show wpAny _ _ (callAny (.type "set") _) _ _ _
  refine wpAny_pure ⟨Code.quiet_builtin _ (by decide +kernel),codeAny_builtin F.entry_type_call ?_⟩
  rw [Around.under_plain (weight_type_call_type "set" [.str x t] []) rfl]
  have h1:=F.called_set.notType
  have h2:=F.called_set.canCreate
  have hct:=F.typeCall_set_1 (.str x t)
  repeat (any_goals (first | assumption | wp_step))
  refine codeAny_mono (code_set_new_1 (.str x t) (E:=E) (Q₁:=fun obj s₁=>∃ led:Bool,obj = .ref s.heap.objs.size ∧ s₁ = { s with heap:=s.heap.push { cls:=.type "set", dict:=none,data:=.set #[] 0 (.fresh 0 0 led) } }) fun led=>⟨led,rfl,rfl⟩) fun r s₁ hr=>?_
  cases r with
  | error e=>exact hr
  | ok fl =>
    cases fl with
    | ret obj =>
      obtain ⟨led,rfl,rfl⟩:=hr
      have hS:(s.heap.push { cls:=.type "set", dict:=none,data:=.set #[] 0 (.fresh 0 0 led) }).get? s.heap.objs.size = some { cls:=.type "set", dict:=none,data:=.set #[] 0 (.fresh 0 0 led) }:=Heap.get?_push_size _ rfl
      have hT:Shared.TypeIs { s with heap:=s.heap.push { cls:=.type "set", dict:=none,data:=.set #[] 0 (.fresh 0 0 led) } } (.ref s.heap.objs.size) "set" := ⟨_,hS,rfl⟩
      have hli:=F.called_set.init.lookup
      have hbi:=F.called_set.init.bind (.ref s.heap.objs.size)
      repeat (any_goals (first | assumption | wp_step))
      refine codeAny_mono (codeAny_call_builtin (R:=wants (fun r s₂=>r = .none ∧ ∃ h' tk,s₂ = { s with heap:=h',toks:=tk } ∧
          h'.SetOf (mixKind prog w) s.heap.objs.size (fun k'=>(met val x.cps.size).any (fun x=>decide (x = k'))) (met val x.cps.size).length ∧
          (∀ b o,b < s.heap.objs.size → s.heap.get? b = some o → h'.get? b = some o)) E) F.called_set.init.plain F.entry_set_init (check_set_init_1 hT ?_)) fun r₂ s₂ hr₂=>?_
      · generalize hpu:s.heap.push { cls:=.type "set", dict:=none,data:=.set #[] 0 (.fresh 0 0 led) } = hp1 at *
        have hz:hp1.objs.size = s.heap.objs.size + 1:=by rw [← hpu];exact Heap.size_push ..
        have hold:∀ b o,s.heap.get? b = some o → hp1.get? b = some o:=fun b o e=>by rw [← hpu];exact Heap.get?_push_of_some _ e
        have hsls:=PySem.F.sub_str_set
        have hslf:=PySem.F.sub_str_frozenset
        have hne:(Value.type "str" == Value.type "dict") = false:=by decide
        unfold Builtin.«set.__init__» noKeywords Builtin.Frozenset.updateFrom
        generalize hPI:pyIter = PI
        wp_walk
        subst hPI
        refine wpAny_pyIter_str fun ito St hW st0=>?_
        refine wpAny_bind (wpAny_runValue ?_)
        have hh3:A.in1.in1.in1.handled = none:=by simp [hh]
        refine set_loop ((hW _ hh3).toS) s.heap.objs.size (by show s.heap.objs.size ∉ [hp1.objs.size];rw [hz];simp only [List.mem_singleton];exact Nat.ne_of_lt (Nat.lt_succ_self _)) val hval hb (x.cps.size - 0) 0 _ (by (first | lia | omega)) (Nat.zero_le _) st0 ?hS0 ?hR
        case hS0 =>
          have hget:(hp1.push ito).get? s.heap.objs.size
              = some { cls:=.type "set", dict:=none,data:=.set #[] 0 (.fresh 0 0 led) }:=Heap.get?_push_of_some _ hS
          letI:BEq Key:=instBEqOfDecidableEq
          haveI:LawfulBEq Key:=inferInstance
          exact (PyProof.Rows.setObjOf_fresh (knd:=mixKind prog w) led).setOf hget (by unfold scanBound;(first | lia | omega))
        case hR =>
          intro s' hm hS'
          obtain ⟨h',g',d',tk',os'⟩:=s'
          have eg:g' = s.gens:=hm.gens
          have ed:d' = s.drawn:=hm.drawn
          have eo:os' = s.os:=hm.os
          subst eg;subst ed;subst eo
          show wpAny _ _ _ _ _ _
          refine wpAny_pure ?_
          show wpAny _ _ (ret Value.none) _ _ _
          refine wpAny_pure ⟨rfl,h',tk',rfl,hS',fun b o hb e=>?_⟩
          have hb1:b ≠ s.heap.objs.size:=Nat.ne_of_lt hb
          have hb2:b ≠ hp1.objs.size:=by rw [hz];exact Nat.ne_of_lt (Nat.lt_succ_of_lt hb)
          exact hm.heap b o (by simp only [List.mem_cons,List.mem_singleton,List.not_mem_nil,or_false,not_or];exact ⟨hb1,hb2⟩) (Heap.get?_push_of_some _ (hold _ _ e))
      · cases r₂ with
        | error e=>exact hr₂
        | ok fl₂ =>
          cases fl₂ with
          | ret r =>
            obtain ⟨rfl,h',tk,rfl,hS',hk'⟩:=hr₂
            repeat (any_goals (first | assumption | wp_step))
            exact h _ _ hS' hk'
          | _=>exact hr₂.elim
    | _=>exact hr.elim
end
end Tr
namespace Tr
open PySem PySem.Spec PyProof.Rows L2
noncomputable def KeysV (K:PySem.W.Frag) (H:Hp) (v:V) (ks:List Key):Prop:=(∃ a,v = .ref a ∧ SqL K H a (ks.map kV)) ∨ ∃ x:Str,v = .str x ∧ ks = x.cps.toList.map fun c=>.inr ⟨#[c]⟩
theorem met_take (ks:List Key):∀ n,n ≤ ks.length → met (fun i=>ks.getD i (.inl 0)) n = metD (ks.take n)
  | 0,_=>by rw [List.take_zero];rfl
  | n + 1,h=>by
    have ih:=met_take ks n (by (first | lia | omega))
    have e:ks.take (n + 1) = ks.take n ++ [ks.getD n (.inl 0)]:=by
      rw [List.take_succ,List.getD_eq_getElem?_getD,List.getElem?_eq_getElem (by (first | lia | omega):n < ks.length)]
      rfl
    rw [met,ih,e]
    unfold metD
    rw [List.foldl_append]
    rfl
theorem met_all (ks:List Key):met (fun i=>ks.getD i (.inl 0)) ks.length = metD ks:=by rw [met_take ks _ (Nat.le_refl _),List.take_length]
theorem keyIs_of {P:Program} {w:World} {k:Key} {v:Value} (r:RelV (kV k) v):(mixKind P w).is k v = true ∧ v.scannable = true:=by
  cases k with
  | inl i=>obtain ⟨t,rfl⟩:=(show ∃ t,v = .int i t from r);exact ⟨mixKind_int P w i t,rfl⟩
  | inr x=>obtain ⟨t,rfl⟩:=(show ∃ t,v = .str x t from r);exact ⟨mixKind_str P w x t,rfl⟩
end Tr
namespace Tr
open PySem PySem.Spec PyProof.Rows L2
end Tr
namespace Tr
open PySem PySem.Spec PyProof.Rows L2
theorem vals_ints:∀ {ns:List Int} {its:List Value},Vals (ns.map V.int) its → ∃ xs:List (Int × Tok),its = xs.map (fun p=>Value.int p.1 p.2) ∧ xs.map (·.1) = ns
  | [],_,h=>by cases h;exact ⟨[],rfl,rfl⟩
  | n :: ns,_,h=>by
    cases h with
    | cons r rr =>
      obtain ⟨t,rfl⟩:=r
      obtain ⟨xs,rfl,e⟩:=vals_ints rr
      exact ⟨(n,t) :: xs,rfl,by rw [List.map_cons,e]⟩
end Tr
namespace Tr
open PySem PySem.Spec PyProof.Rows L2
section
variable {prog:Program} {w:World} {A:Around} {R:Result → Shared → Prop} {it:Addr} {fp wr:List Addr} {n:Nat} {P:Nat → Value → Prop} {St:Nat → Heap → Prop}
end
end Tr
namespace Tr
open PySem PySem.Spec PyProof.Rows L2
noncomputable def bitsL (m:Nat):List Nat:=(List.range 8).filter fun i=>m.testBit i
noncomputable def tabOf (led:Bool) (ns:List Nat):SetTable:={ mask:=if ns.length < 5 then 7 else 31,place:=ns.toArray,dummies:=#[],finger:=0,led:=led,moves:=if ns.length < 5 then 0 else 1,plain:=true }
end Tr
namespace Tr
open PySem PySem.Spec PyProof.Rows L2
noncomputable def EL (ns:List Nat) (l:List (Int × Value)):Prop:=l.map (·.1) = ns.map (fun i:Nat=>(i:Int)) ∧ ∀ e ∈ l,∃ tk,e.2 = .int e.1 tk
noncomputable def SetB (led:Bool) (h:Heap) (a:Addr) (m:Nat):Prop :=
  ∃ o es ep,h.get? a = some o ∧ o.ExactSet ∧ o.data = .set es ep (tabOf led (bitsL m)) ∧ EL (bitsL m) es.toList ∧ m < 256
section
variable {prog:Program} {w:World} {A:Around} {E:Value → Shared → Prop} {s:Shared}
end
end Tr
namespace Tr
open PySem PySem.Spec PyProof.Rows L2
section
variable {prog:Program} {w:World} {A:Around} {R:Result → Shared → Prop} {I:Addr} {fp wr:List Addr} {G:Array GenState → Array GenState → Prop} {n:Nat} {P:Nat → Value → Prop} {St:Nat → Shared → Prop}
end
section
variable {prog:Program} {w:World} {A:Around} {E:Value → Shared → Prop} {s:Shared}
end
end Tr
namespace Tr
open PySem PySem.Spec PyProof.Rows L2
noncomputable def IsSetIter (h:Heap) (it a:Addr) (sl i n ep:Nat):Prop :=
  ∃ o,h.get? it = some o ∧ o.cls = .type "set_iterator" ∧ o.data = .fields #[.int (sl:Int) 0,.int (i:Int) 0,.ref a,.int (n:Int) 0,.int (ep:Int) 0]
noncomputable def SetE (led:Bool) (h:Heap) (a:Addr) (m:Nat) (es:Array (Int × Value)) (ep:Nat):Prop :=
  ∃ o,h.get? a = some o ∧ o.ExactSet ∧ o.data = .set es ep (tabOf led (bitsL m)) ∧ EL (bitsL m) es.toList ∧ m < 256
section
variable {prog:Program} {w:World} {A:Around} {E:Value → Shared → Prop} {s:Shared}
end
end Tr
namespace Tr
open PySem PySem.Spec PyProof.Rows L2
section
variable {prog:Program} {w:World} {A:Around} {E:Value → Shared → Prop} {s:Shared}
end
end Tr
namespace Tr
open PySem PySem.Spec PyProof.Rows L2
section
variable {prog:Program} {w:World} {A:Around} {E:Value → Shared → Prop} {s:Shared}
end
end Tr
namespace Tr
open PySem PySem.Spec PyProof.Rows L2
section
variable {prog:Program} {w:World} {A:Around} {E:Value → Shared → Prop} {s:Shared}
end
end Tr
namespace Tr
open PySem PySem.Spec PyProof.Rows L2
section
variable {prog:Program} {w:World} {A:Around} {E:Value → Shared → Prop} {s:Shared} {l:Addr} {xs:Array (Int × Tok)}
end
end Tr
namespace Tr
open PySem PySem.Spec PyProof.Rows L2
theorem noFill_tuple_mul:fillsNumberSlot (.type "tuple") "mul" = pure false :=
  PySem.fillsNumberSlot_seq (id := "tuple.__mul__") (r:=some (.builtin "tuple.__rmul__")) PySem.F.slot_tuple_mul.lookup (by decide +kernel) PySem.F.slot_tuple_rmul.lookup (by decide +kernel)
theorem repeat_tuple:seqRepeat? (.type "tuple") = pure (some (.builtin "tuple.__mul__")):=by
  unfold seqRepeat?
  rw [PySem.seqSlot_of (T := "tuple") (name := "__mul__") (id := "tuple.__mul__") PySem.F.slot_tuple_mul.lookup (by decide +kernel),PySem.seqSlot_of (T := "tuple") (name := "__rmul__") (id := "tuple.__rmul__") PySem.F.slot_tuple_rmul.lookup (by decide +kernel)]
  rfl
theorem int_rmul_tuple (a:Int) (t:Tok) (l:Addr) (o:Obj) :
    Meets (Builtin.«int.__rmul__» ⟨[.int a t,.ref l],[]⟩) (fun _ R s=>s.heap.get? l = some o ∧ o.cls = .type "tuple" ∧ (∃ items n,o.data = .seq items n) ∧ R (.ok (.ret Value.notImplemented)) s) :=
  .of_wp fun prog w A R s h=>by
    obtain ⟨hp,g,d,tk,os⟩:=s
    obtain ⟨hl,hc,⟨items,n,hd⟩,h⟩:=h
    obtain ⟨c,dc,dt,sl⟩:=o
    dsimp only at hc hd
    subst hc;subst hd
    wp_walk
    exact ⟨_,rfl,h⟩
section
variable {prog:Program} {w:World} {A:Around} {E:Value → Shared → Prop} {s:Shared} {l:Addr} {its:List Value}
theorem mul_tuple {k:Int} {t:Tok} {Q:Value → Shared → Prop} (hl:IsTup s.heap l its.toArray) (h1:its.length = 1) (hk:0 ≤ k ∧ k ≤ 1000)
    (hs:k = 1 → Q (.ref l) s) (h:k ≠ 1 → Q (.ref s.heap.objs.size) { s with heap:=s.heap.push { cls:=.type "tuple", data:=.seq (List.replicate k.toNat its).flatten.toArray } }) :
    wpAny (model prog w) A (binaryOp .Mult (.ref l) (.int k t)) Q E s:=by
  obtain ⟨o,e,hc,n,hd⟩:=id hl
  have hT:s.TypeIs (.ref l) "tuple" := ⟨o,e,hc⟩
  refine wpAny_binaryOp_repeat_ref (T := "tuple") (U := "int") (by decide) hT (fun s'=>typeIs_int s' k t) noFill_tuple_mul PySem.F.fills_int_mul PySem.F.slot_int_rmul repeat_tuple PySem.F.slot_int_index.lookup
    (call_meets PySem.F.slot_int_rmul (typeIs_int s k t) PySem.F.entry_int_rmul (PySem.F.args_int_rmul_2 _ _) (int_rmul_tuple k t l o)
      ⟨e,hc,⟨_,n,hd⟩,rfl,hT,wpAny_call_entry PySem.F.slot_tuple_mul hT PySem.F.entry_tuple_mul ?_ (PySem.F.args_tuple_mul_2 _ _)⟩)
  show wpAny _ _ (asIndex (.int k t) >>= _) _ _ s
  refine wpAny_bind (m:=asIndex (.int k t)) (wpAny_pure ?_)
  rw [if_neg (by simp only [Bool.or_eq_true,decide_eq_true_eq,not_or];(first | lia | omega))]
  show wpAny _ _ (Builtin.Tuple.tupleItemsOf (.ref l) >>= _) _ _ s
  refine wpAny_bind (wpAny_tupleItemsOf e hd ?_)
  have hne:its.toArray.isEmpty = false:=by
    cases its with
    | nil=>cases h1
    | cons _ _=>rfl
  rw [hne]
  by_cases c1:k = 1
  · subst c1
    rw [if_pos (by decide)]
    refine wpAny_bind ?_
    unfold Builtin.Tuple.tupleIsExact
    refine wpAny_bind (wpAny_typeOf hT (wpAny_pure ?_))
    rw [if_pos (by decide)]
    exact wpAny_bind (wpAny_rule (wpAny_pure ⟨_,rfl,hs rfl⟩))
  · have hb:(k == 1) = false:=by simpa using c1
    rw [hb]
    simp only [Bool.or_false,Bool.false_eq_true,if_false]
    have hsz:its.toArray.size = 1:=by rw [List.size_toArray];exact h1
    by_cases c0:k ≤ 0
    · have k0:k = 0:=by (first | lia | omega)
      subst k0
      simp only [Int.le_refl,decide_true,if_true]
      exact wpAny_bind (wpAny_newObj_type (wpAny_pure ⟨_,rfl,h c1⟩))
    · rw [if_neg (by simpa using c0),hsz]
      rw [if_neg (by (first | lia | omega)),if_neg (by
        simp only [Builtin.Tuple.tupleTooMany,decide_eq_true_eq]
        rw [sizeLine_eq];(first | lia | omega))]
      have hf:List.foldl (fun x1 x2=>x1 ++ x2) #[] (List.replicate k.toNat its.toArray) = (List.replicate k.toNat its).flatten.toArray:=by
        have:=foldl_rep its k.toNat []
        rw [List.nil_append] at this
        exact this
      show wpAny _ _ (Builtin.Tuple.tupleExact (List.foldl (fun x1 x2=>x1 ++ x2) #[] (List.replicate k.toNat its.toArray)) >>= _) _ _ s
      rw [hf]
      refine wpAny_bind (wpAny_newObj_type (wpAny_pure ⟨_,rfl,h c1⟩) ?_)
      show (List.replicate k.toNat its).flatten.toArray.size ≤ _
      rw [List.size_toArray,len_rep,h1,sizeLine_eq];(first | lia | omega)
end
end Tr
namespace Tr
open PySem
noncomputable def pairHash (a b:Nat):Int:=reduceHash (Builtin.Tuple.tupleHashOf [hashInt a,hashInt b])
noncomputable def advM (m:Nat) (p:SetTable.Probe):SetTable.Probe :=
  if p.more > 0 then { p with j:=p.j + 1,more:=p.more - 1 } else
  { p with j:=(SetTable.leap m p.i p.perturb).1,more:=SetTable.runEnd m (SetTable.leap m p.i p.perturb).1 - (SetTable.leap m p.i p.perturb).1,i:=(SetTable.leap m p.i p.perturb).1,perturb:=(SetTable.leap m p.i p.perturb).2 }
noncomputable def startM (m:Nat) (h:Int):SetTable.Probe :=
  { j:=SetTable.bits h % (m + 1),more:=SetTable.runEnd m (SetTable.bits h % (m + 1)) - SetTable.bits h % (m + 1),i:=SetTable.bits h % (m + 1),perturb:=SetTable.bits h,dummy:=none }
noncomputable def seenM (m:Nat):Nat → SetTable.Probe → Nat
  | 0,_=>0
  | n + 1,p=>2 ^ p.j ||| seenM m n (advM m p)
noncomputable def seenL (m:Nat):Nat → Nat → Nat → Nat
  | 0,_,_=>0
  | n + 1,i,p=>2 ^ i ||| seenL m n (SetTable.leap m i p).1 (SetTable.leap m i p).2
noncomputable def goodH (m:Nat) (h:Int):Bool:=seenM m (10 * SetTable.turns m) (startM m h) == 2 ^ (m + 1) - 1
noncomputable def goodL (m:Nat) (h:Int):Bool:=seenL m (SetTable.turns m) (SetTable.bits h % (m + 1)) (SetTable.bits h) == 2 ^ (m + 1) - 1
noncomputable def goodP (a b:Nat):Bool:=goodH 7 (pairHash a b) && goodH 31 (pairHash a b) && goodH 127 (pairHash a b) && goodL 31 (pairHash a b) && goodL 127 (pairHash a b)
set_option maxRecDepth 100000 in
theorem good_all:((List.range 9).all fun a=>(List.range 8).all fun b=>goodP a b) = true:=by decide +kernel
noncomputable def pairs72:List (Nat × Nat):=(List.range 9).flatMap fun a=>(List.range 8).map fun b=>(a,b)
noncomputable def nodupH:List Int → Bool
  | []=>true
  | x :: r=>(!r.contains x) && nodupH r
theorem hash72:nodupH (pairs72.map fun p=>pairHash p.1 p.2) = true:=by decide +kernel
end Tr
namespace Tr
open PySem
theorem nodup_len {α:Type} [DecidableEq α]:∀ {l m:List α},l.Nodup → (∀ x ∈ l,x ∈ m) → l.length ≤ m.length
  | [],_,_,_=>Nat.zero_le _
  | a :: r,m,hn,h=>by
    obtain ⟨h1,h2⟩:=List.nodup_cons.mp hn
    have ha:a ∈ m:=h a List.mem_cons_self
    have hr:r.length ≤ (m.erase a).length:=nodup_len h2 fun x hx=>(List.mem_erase_of_ne (fun (e:x = a)=>h1 (by rw [← e];exact hx))).mpr (h x (List.mem_cons_of_mem _ hx))
    rw [List.length_erase_of_mem ha] at hr
    have:0 < m.length:=List.length_pos_of_mem ha
    rw [List.length_cons];(first | lia | omega)
theorem full_len {m:Nat} {l:List Nat} (h:∀ j,(2 ^ (m + 1) - 1).testBit j = true → j ∈ l):m + 1 ≤ l.length:=by
  have:=nodup_len (l:=List.range (m + 1)) (m:=l) List.nodup_range fun x hx=>h x (by rw [Nat.testBit_two_pow_sub_one];simpa using hx)
  simpa using this
theorem advance_eq (t:SetTable) (p:SetTable.Probe):t.advance p = advM t.mask p:=by
  unfold SetTable.advance advM;rfl
theorem start_eq (t:SetTable) (h:Int):t.probeStart h = startM t.mask h:=rfl
theorem adv_dummy (m:Nat) (p:SetTable.Probe):(advM m p).dummy = p.dummy:=by unfold advM;split <;> rfl
theorem has_nil (j:Nat):SetTable.has #[] j = false:=rfl
theorem slot_two {t:SetTable} (hd:t.dummies = #[]) (j:Nat):t.slot j = .empty ∨ ∃ i,t.slot j = .live i ∧ i < t.place.size ∧ j ∈ t.place.toList:=by
  unfold SetTable.slot
  rw [hd]
  dsimp only
  by_cases e:(t.place[SetTable.below t.place j]? == some j) = true
  · rw [if_pos e]
    have e':t.place[SetTable.below t.place j]? = some j:=by simpa using e
    obtain ⟨hi,hv⟩:=Array.getElem?_eq_some_iff.mp e'
    refine .inr ⟨_,rfl,hi,?_⟩
    rw [← hv];exact Array.mem_toList_iff.mpr (Array.getElem_mem hi)
  · rw [if_neg e,has_nil];exact .inl rfl
theorem probe_go {t:SetTable} (hd:t.dummies = #[]) {hashAt:Nat → Int} {h:Int} (hne:∀ i,i < t.place.size → hashAt i ≠ h):∀ (fuel:Nat) (p:SetTable.Probe),p.dummy = none →
    (∃ j,SetTable.probe.go t hashAt h fuel p = some (.empty j none)) ∨ ∀ j,(seenM t.mask fuel p).testBit j = true → j ∈ t.place.toList
  | 0,p,_=>.inr fun j hj=>by rw [seenM,Nat.zero_testBit] at hj;cases hj
  | fuel + 1,p,hp=>by
    unfold SetTable.probe.go
    rcases slot_two hd p.j with e | ⟨i,e,hi,hm⟩
    · rw [e];exact .inl ⟨p.j,by rw [hp]⟩
    · rw [e]
      have e1:(hashAt i == h) = false:=by simpa using hne i hi
      simp only [e1,Bool.false_eq_true,if_false]
      rw [advance_eq]
      rcases probe_go hd hne fuel (advM t.mask p) (by rw [adv_dummy];exact hp) with ⟨j,q⟩ | q
      · exact .inl ⟨j,q⟩
      · refine .inr fun j hj=>?_
        rw [seenM,Nat.testBit_or,Bool.or_eq_true] at hj
        rcases hj with z | z
        · rw [Nat.testBit_two_pow] at z
          have:p.j = j:=by simpa using z
          exact this ▸ hm
        · exact q j z
theorem probe_free {t:SetTable} (hd:t.dummies = #[]) {hashAt:Nat → Int} {h:Int} (hne:∀ i,i < t.place.size → hashAt i ≠ h) (hg:goodH t.mask h = true) (hf:t.place.size ≤ t.mask) :
    ∃ j,t.probe hashAt h (t.probeStart h) = some (.empty j none):=by
  unfold SetTable.probe
  rw [start_eq]
  rcases probe_go hd hne (10 * SetTable.turns t.mask) (startM t.mask h) rfl with q | q
  · exact q
  · exfalso
    have e:seenM t.mask (10 * SetTable.turns t.mask) (startM t.mask h) = 2 ^ (t.mask + 1) - 1:=by simpa [goodH] using hg
    rw [e] at q
    have:=full_len q
    rw [Array.length_toList] at this
    (first | lia | omega)
theorem free_some {m:Nat} {owner:Array (Option Nat)}:∀ (fuel i p:Nat),(∃ j,SetTable.layClean.free m owner fuel i p = some j ∧ (owner.getD j (some 0)).isNone = true) ∨ ∀ j,(seenL m fuel i p).testBit j = true → (owner.getD j (some 0)).isNone = false
  | 0,i,p=>.inr fun j hj=>by rw [seenL,Nat.zero_testBit] at hj;cases hj
  | fuel + 1,i,p=>by
    unfold SetTable.layClean.free
    cases e:(List.range (SetTable.runEnd m i + 1 - i)).find? (fun k=>(owner.getD (i + k) (some 0)).isNone) with
    | some k=>exact .inl ⟨i + k,rfl,List.find?_some (p:=fun k=>(owner.getD (i + k) (some 0)).isNone) e⟩
    | none =>
      dsimp only
      have h0:(owner.getD i (some 0)).isNone = false:=by
        have hr:0 < SetTable.runEnd m i + 1 - i:=by unfold SetTable.runEnd;split <;> (first | lia | omega)
        have:=List.find?_eq_none.mp e 0 (List.mem_range.mpr hr)
        simpa [Option.isSome_iff_ne_none] using this
      rcases free_some fuel (SetTable.leap m i p).1 (SetTable.leap m i p).2 with q | q
      · exact .inl q
      · refine .inr fun j hj=>?_
        rw [seenL,Nat.testBit_or,Bool.or_eq_true] at hj
        rcases hj with z | z
        · rw [Nat.testBit_two_pow] at z
          have:i = j:=by simpa using z
          exact this ▸ h0
        · exact q j z
noncomputable def taken (m:Nat) (owner:Array (Option Nat)):List (Nat × Nat):=(List.range (m + 1)).filterMap fun j=>(owner.getD j none).map (j,·)
theorem taken_len_set {m:Nat} {owner:Array (Option Nat)} {j k:Nat} (hz:owner.size = m + 1) (hj:j < m + 1) (hn:owner.getD j none = none) :
    (taken m (owner.setIfInBounds j (some k))).length = (taken m owner).length + 1:=by
  have key:∀ (l:List Nat),l.Nodup → (l.filterMap fun i=>((owner.setIfInBounds j (some k)).getD i none).map (i,·)).length = (l.filterMap fun i=>(owner.getD i none).map (i,·)).length + if j ∈ l then 1 else 0:=by
    intro l
    induction l with
    | nil=>intro _;rfl
    | cons a r ih =>
      intro hnd
      obtain ⟨h1,h2⟩:=List.nodup_cons.mp hnd
      have ih:=ih h2
      by_cases e:j = a
      · subst e
        have e1:(owner.setIfInBounds j (some k)).getD j none = some k:=by simp [Array.getD_eq_getD_getElem?,Array.getElem?_setIfInBounds,hz,hj]
        rw [List.filterMap_cons_some (b:=(j,k)) (by rw [e1];rfl),List.filterMap_cons_none (by rw [hn];rfl),List.length_cons,ih,if_neg h1,if_pos List.mem_cons_self]
      · have e1:(owner.setIfInBounds j (some k)).getD a none = owner.getD a none:=by simp [Array.getD_eq_getD_getElem?,Array.getElem?_setIfInBounds,e]
        have e2:(j ∈ a :: r) ↔ j ∈ r:=by simp [e]
        cases e3:owner.getD a none with
        | none=>rw [List.filterMap_cons_none (by rw [e1,e3];rfl),List.filterMap_cons_none (by rw [e3];rfl),ih];simp only [e2]
        | some v=>rw [List.filterMap_cons_some (b:=(a,v)) (by rw [e1,e3];rfl),List.filterMap_cons_some (b:=(a,v)) (by rw [e3];rfl),List.length_cons,List.length_cons,ih];simp only [e2];(first | lia | omega)
  have:=key (List.range (m + 1)) List.nodup_range
  rw [if_pos (List.mem_range.mpr hj)] at this
  exact this
theorem taken_lt_set {m:Nat} {owner:Array (Option Nat)} {j k:Nat} (hk:∀ q ∈ taken m owner,q.2 < k):∀ q ∈ taken m (owner.setIfInBounds j (some k)),q.2 < k + 1:=by
  intro q hq
  obtain ⟨i,hi,hv⟩:=List.mem_filterMap.mp hq
  cases e:(owner.setIfInBounds j (some k)).getD i none with
  | none=>rw [e] at hv;cases hv
  | some v =>
    rw [e] at hv;cases hv
    show v < k + 1
    by_cases z:j = i
    · subst z
      rw [Array.getD_eq_getD_getElem?,Array.getElem?_setIfInBounds] at e
      simp only [if_true] at e
      split at e
      · simp at e;(first | lia | omega)
      · simp at e
    · have e1:owner.getD i none = some v:=by rw [← e];simp [Array.getD_eq_getD_getElem?,Array.getElem?_setIfInBounds,z]
      have:=hk (i,v) (List.mem_filterMap.mpr ⟨i,hi,by rw [e1];rfl⟩)
      exact Nat.lt_succ_of_lt this
theorem all_taken {m:Nat} {owner:Array (Option Nat)} (hz:owner.size = m + 1) (h:∀ j,(2 ^ (m + 1) - 1).testBit j = true → (owner.getD j (some 0)).isNone = false):m + 1 ≤ (taken m owner).length:=by
  have key:∀ (l:List Nat),(∀ j ∈ l,j < m + 1) → (l.filterMap fun i=>(owner.getD i none).map (i,·)).length = l.length:=by
    intro l
    induction l with
    | nil=>intro _;rfl
    | cons a r ih =>
      intro hl
      have ha:=hl a List.mem_cons_self
      have h1:=h a (by rw [Nat.testBit_two_pow_sub_one];simpa using ha)
      have e:owner.getD a none = owner.getD a (some 0):=by simp [Array.getD_eq_getD_getElem?,hz,ha]
      cases e2:owner.getD a (some 0) with
      | none=>rw [e2] at h1;cases h1
      | some v=>rw [List.filterMap_cons_some (b:=(a,v)) (by rw [e,e2];rfl),List.length_cons,List.length_cons,ih fun j hj=>hl j (List.mem_cons_of_mem _ hj)]
  have:=key (List.range (m + 1)) fun j hj=>List.mem_range.mp hj
  rw [List.length_range] at this
  exact Nat.le_of_eq this.symm
noncomputable def layStep (m:Nat) (acc:Option (Array (Option Nat) × Nat)) (h:Int):Option (Array (Option Nat) × Nat):=do
    let (owner,k) ← acc
    let j ← SetTable.layClean.free m owner (SetTable.turns m) (SetTable.bits h % (m + 1)) (SetTable.bits h)
    pure (owner.setIfInBounds j (some k),k + 1)
theorem lay_go {m:Nat}:∀ (hs:List Int) (owner:Array (Option Nat)) (k:Nat),(∀ h ∈ hs,goodL m h = true) → owner.size = m + 1 → (taken m owner).length = k → (∀ q ∈ taken m owner,q.2 < k) → k + hs.length ≤ m →
    ∃ owner',hs.foldl (layStep m) (some (owner,k)) = some (owner',k + hs.length) ∧ (taken m owner').length = k + hs.length ∧ ∀ q ∈ taken m owner',q.2 < k + hs.length
  | [],owner,k,_,_,hl,hk,_=>⟨owner,rfl,hl,hk⟩
  | h :: r,owner,k,hg,hz,hl,hk,hr=>by
    rw [List.length_cons] at hr
    rcases free_some (m:=m) (owner:=owner) (SetTable.turns m) (SetTable.bits h % (m + 1)) (SetTable.bits h) with ⟨j,e,hn⟩ | q
    · have hj:j < m + 1:=by
        rcases Nat.lt_or_ge j (m + 1) with z | z
        · exact z
        · rw [Array.getD_eq_getD_getElem?,Array.getElem?_eq_none (by (first | lia | omega))] at hn;cases hn
      have hn':owner.getD j none = none:=by
        have e0:owner.getD j none = owner.getD j (some 0):=by simp [Array.getD_eq_getD_getElem?,hz,hj]
        rw [e0];simpa using hn
      obtain ⟨o',h1,h2,h3⟩:=lay_go r (owner.setIfInBounds j (some k)) (k + 1) (fun x hx=>hg x (List.mem_cons_of_mem _ hx)) (by rw [Array.size_setIfInBounds];exact hz) (by rw [taken_len_set hz hj hn',hl]) (taken_lt_set hk) (by (first | lia | omega))
      refine ⟨o',?_,?_,?_⟩
      · rw [List.foldl_cons,show layStep m (some (owner,k)) h = some (owner.setIfInBounds j (some k),k + 1) from by unfold layStep;rw [show (some (owner,k) >>= _) = _ from rfl];simp [e],h1,List.length_cons];congr 2;(first | lia | omega)
      · rw [h2,List.length_cons];(first | lia | omega)
      · intro q hq;rw [List.length_cons];have:=h3 q hq;(first | lia | omega)
    · exfalso
      have e:seenL m (SetTable.turns m) (SetTable.bits h % (m + 1)) (SetTable.bits h) = 2 ^ (m + 1) - 1:=by simpa [goodL] using hg h List.mem_cons_self
      rw [e] at q
      have:=all_taken hz q
      (first | lia | omega)
theorem laid_some {m f mv:Nat} {led pl:Bool} {hs:Array Int} (hg:∀ h ∈ hs.toList,goodL m h = true) (hr:hs.size ≤ m) :
    ∃ pls ord,SetTable.laid m f mv led pl hs = some ({ mask:=m,place:=pls,dummies:=#[],finger:=f,led:=led,moves:=mv,plain:=pl },ord) ∧ pls.size = hs.size ∧ ord.size = hs.size ∧ ∀ i ∈ ord.toList,i < hs.size:=by
  have hz:(Array.replicate (m + 1) (none:Option Nat)).size = m + 1:=Array.size_replicate
  have ht:taken m (Array.replicate (m + 1) none) = []:=by
    unfold taken
    rw [List.filterMap_eq_nil_iff]
    intro j hj
    have:(Array.replicate (m + 1) (none:Option Nat)).getD j none = none:=by
      rw [Array.getD_eq_getD_getElem?,Array.getElem?_replicate];split <;> rfl
    rw [this];rfl
  obtain ⟨o',h1,h2,h3⟩:=lay_go hs.toList (Array.replicate (m + 1) none) 0 hg hz (by rw [ht];rfl) (by rw [ht];intro q hq;cases hq) (by rw [Array.length_toList];(first | lia | omega))
  rw [Nat.zero_add] at h1 h2 h3
  have h2:(taken m o').length = hs.size:=by rw [h2];exact Array.length_toList
  have e:SetTable.layClean m hs = some o':=by
    unfold SetTable.layClean
    rw [← Array.foldl_toList]
    have:hs.toList.foldl (layStep m) (some (Array.replicate (m + 1) none,0)) = some (o',hs.size):=h1
    rw [show (hs.toList.foldl (fun acc h=>do
      let (owner,k) ← acc
      let j ← SetTable.layClean.free m owner (SetTable.turns m) (SetTable.bits h % (m + 1)) (SetTable.bits h)
      pure (owner.setIfInBounds j (some k),k + 1)) (some (Array.replicate (m + 1) none,0))) = some (o',hs.size) from this]
    rfl
  refine ⟨((taken m o').map (·.1)).toArray,((taken m o').map (·.2)).toArray,?_,?_,?_,?_⟩
  · unfold SetTable.laid
    rw [e];rfl
  · rw [List.size_toArray,List.length_map,h2]
  · rw [List.size_toArray,List.length_map,h2]
  · intro i hi
    obtain ⟨q,hq,rfl⟩:=List.mem_map.mp hi
    exact h3 q hq
end Tr
namespace Tr
open PySem PySem.Spec PyProof.Rows L2
noncomputable def inR (k:Nat × Nat):Prop:=k.1 < 9 ∧ k.2 < 8
theorem good_of {k:Nat × Nat} (h:inR k):goodP k.1 k.2 = true :=
  List.all_eq_true.mp (List.all_eq_true.mp good_all k.1 (List.mem_range.mpr h.1)) k.2 (List.mem_range.mpr h.2)
theorem mem72 {k:Nat × Nat} (h:inR k):k ∈ pairs72 :=
  List.mem_flatMap.mpr ⟨k.1,List.mem_range.mpr h.1,List.mem_map.mpr ⟨k.2,List.mem_range.mpr h.2,rfl⟩⟩
theorem nodupH_inj {α:Type} {f:α → Int}:∀ {l:List α} {x y:α},nodupH (l.map f) = true → x ∈ l → y ∈ l → f x = f y → x = y
  | a :: r,x,y,h,hx,hy,e=>by
    rw [List.map_cons,nodupH,Bool.and_eq_true,Bool.not_eq_true'] at h
    have hn:∀ z ∈ r,f a ≠ f z:=fun z hz q=>by
      have:(r.map f).contains (f a) = true:=List.contains_iff_mem.mpr (q ▸ List.mem_map.mpr ⟨z,hz,rfl⟩)
      rw [h.1] at this;cases this
    rcases List.mem_cons.mp hx with e1 | hx1
    · rcases List.mem_cons.mp hy with e2 | hy1
      · rw [e1,e2]
      · rw [e1] at e;exact absurd e (hn _ hy1)
    · rcases List.mem_cons.mp hy with e2 | hy1
      · rw [e2] at e;exact absurd e.symm (hn _ hx1)
      · exact nodupH_inj h.2 hx1 hy1 e
theorem pair_inj {x y:Nat × Nat} (hx:inR x) (hy:inR y) (e:pairHash x.1 x.2 = pairHash y.1 y.2):x = y :=
  nodupH_inj (f:=fun p:Nat × Nat=>pairHash p.1 p.2) hash72 (mem72 hx) (mem72 hy) e
noncomputable def PSet (h:Heap) (S:Addr) (ks:List (Nat × Nat)):Prop :=
  ∃ o es ep t,h.get? S = some o ∧ o.ExactSet ∧ o.data = .set es ep t ∧ t.dummies = #[] ∧ t.place.size = es.size ∧ es.size = ks.length ∧ (∀ e ∈ es.toList,e.1 ∈ ks.map fun k=>pairHash k.1 k.2) ∧ (t.mask = 7 ∧ es.size < 5 ∨ t.mask = 31 ∧ es.size < 19 ∨ t.mask = 127)
section
variable {prog:Program} {w:World} {A:Around} {E:Value → Shared → Prop} {s:Shared}
theorem hbv_int {n:Nat} {k:Int} {v:Value} (h:(intKind prog w).is k v = true):hashByValue n v = pure true:=by
  cases v <;> first | (cases n <;> rfl) | (cases h)
theorem wpAny_hbv {ks:List Int} {a:Addr} {Q:Bool → Shared → Prop} (hk:IsTupleKey (intKind prog w) s.heap ks a) (h:Q true s):wpAny (model prog w) A (hashByValue 8 (.ref a)) Q E s:=by
  have hT:=hk.typeIs
  obtain ⟨o,items,n,ho,_,hd,hi⟩:=hk
  unfold hashByValue
  refine wpAny_bind (wpAny_specialOf hT F.slot_tuple_hash.lookup ?_)
  show wpAny _ _ (seqItems? (.ref a) >>= _) _ _ s
  refine wpAny_bind (wpAny_seqItems ho hd ?_)
  refine wpAny_bind ?_
  show wpAny _ _ (forIn items _ _) _ _ s
  rw [← Array.forIn_toList]
  refine wpAny_forIn_list _ (fun rest r s'=>r.1 = none ∧ s' = s ∧ ∃ ks',ItemsAre (intKind prog w) ks' rest) _ ?_ ?_ _ _ ⟨rfl,rfl,ks,hi⟩
  · rintro v rest r s' ⟨hr,rfl,ks',hall⟩
    cases hall with
    | cons h1 h2 =>
      rw [hbv_int h1]
      refine wpAny_bind (wpAny_pure ?_)
      simp only [Bool.not_true,Bool.false_eq_true,if_false]
      exact wpAny_pure ⟨rfl,rfl,_,h2⟩
  · rintro ⟨r1,r2⟩ s' ⟨hr,rfl,_⟩
    simp only at hr
    subst hr
    exact wpAny_pure h
theorem wpAny_search {a x:Addr} {o:Obj} {es:Array (Int × Value)} {ep:Nat} {t:SetTable} {h:Int} {Q:SetFound → Shared → Prop}
    (ho:s.heap.get? a = some o) (hd:o.data = .set es ep t) (hf:t.fits es.size = true) (hdm:t.dummies = #[]) (hp:t.place.size = es.size) (hm:t.place.size ≤ t.mask) (hodd:t.mask % 2 = 1) (hne:∀ e ∈ es.toList,e.1 ≠ h) (hg:goodH t.mask h = true)
    (q:∀ j,Q (.free j false) s):wpAny (model prog w) A (setSearch a (.ref x) h (adding:=true)) Q E s:=by
  unfold setSearch setSearchFrom
  refine wpAny_bind (wpAny_setState_of ho hd hf ?_)
  have hgw:t.gaveWay = false:=by unfold SetTable.gaveWay;rw [hodd];rfl
  obtain ⟨j,hj⟩:=probe_free (hashAt:=fun i=>(es[i]?.map (·.1)).getD 0) hdm (fun i hi=>by
    rw [hp] at hi
    rw [Array.getElem?_eq_getElem hi]
    exact hne _ (Array.mem_toList_iff.mpr (Array.getElem_mem hi))) hg hm
  have key:∀ f:Nat → Int,f = (fun i=>(es[i]?.map (·.1)).getD 0) → t.probe f h (t.probeStart h) = some (.empty j none):=fun f e=>by rw [e];exact hj
  dsimp only [Option.getD]
  rw [hgw,key]
  · exact wpAny_pure (q j)
  · rfl
end
end Tr
namespace Tr
open PySem PySem.Spec PyProof.Rows L2
section
variable {prog:Program} {w:World} {A:Around} {E:Value → Shared → Prop} {s:Shared}
theorem filterMap_all {α β:Type} {f:α → Option β}:∀ {l:List α},(∀ x ∈ l,(f x).isSome = true) → (l.filterMap f).length = l.length
  | [],_=>rfl
  | a :: r,h=>by
    cases e:f a with
    | none=>have:=h a List.mem_cons_self;rw [e] at this;cases this
    | some b=>rw [List.filterMap_cons_some e,List.length_cons,List.length_cons,filterMap_all fun x hx=>h x (List.mem_cons_of_mem _ hx)]
theorem wpAny_relay {a:Addr} {o:Obj} {es:Array (Int × Value)} {ep:Nat} {t:SetTable} {wanted m:Nat} {Q:Unit → Shared → Prop}
    (ho:s.heap.get? a = some o) (hex:o.ExactSet) (hd:o.data = .set es ep t) (hf:t.fits es.size = true) (hw:SetTable.sizeAbove wanted = m + 1) (hmz:m + 1 ≤ sizeLine) (hr:es.size ≤ m) (hg:∀ e ∈ es.toList,goodL m e.1 = true)
    (q:∀ (es':Array (Int × Value)) (t':SetTable),es'.size = es.size → (∀ e ∈ es'.toList,e ∈ es.toList) → t'.dummies = #[] → t'.place.size = es'.size → t'.mask = m → Q () { s with heap:=s.heap.update a (Obj.putSet es' t') }) :
    wpAny (model prog w) A (setRelay a wanted) Q E s:=by
  unfold setRelay
  refine wpAny_bind (wpAny_setState_of ho hd hf ?_)
  dsimp only
  have hn:¬ SetTable.sizeAbove wanted > sizeLine:=by rw [hw];(first | lia | omega)
  rw [if_neg hn]
  obtain ⟨pls,ord,h1,h2,h3,h4⟩:=laid_some (m:=m) (f:=t.finger) (mv:=t.movedTo m) (led:=t.led) (pl:=t.plain) (hs:=es.map (·.1)) (fun h hh=>by
    rw [Array.toList_map] at hh
    obtain ⟨e,he,rfl⟩:=List.mem_map.mp hh
    exact hg e he) (by rw [Array.size_map];exact hr)
  rw [Array.size_map] at h2 h3 h4
  have hl:t.relaid (es.map (·.1)) wanted = some ({ mask:=m,place:=pls,dummies:=#[],finger:=t.finger,led:=t.led,moves:=t.movedTo m,plain:=t.plain },ord):=by
    unfold SetTable.relaid
    rw [hw,Nat.add_sub_cancel];exact h1
  rw [hl]
  have hsz:(ord.filterMap (es[·]?)).size = es.size:=by
    rw [← Array.length_toList,Array.toList_filterMap,filterMap_all,Array.length_toList,h3]
    intro i hi
    rw [Array.getElem?_eq_getElem (h4 i hi)];rfl
  refine wpAny_bind ?_
  show wpAny _ _ (if ((ord.filterMap (es[·]?)).size != es.size) = true then _ else _) _ _ s
  rw [if_neg (by rw [hsz];simp)]
  refine wpAny_pure ?_
  refine wpAny_storeSet_of ho hd (q _ _ hsz (fun e he=>?_) rfl (by rw [hsz];exact h2) rfl) (by rw [hsz];(first | lia | omega))
  rw [Array.toList_filterMap] at he
  obtain ⟨i,_,hi⟩:=List.mem_filterMap.mp he
  exact Array.mem_toList_iff.mpr (Array.mem_of_getElem? hi)
theorem wpAny_addPair {S x:Addr} {ks:List (Nat × Nat)} {k:Nat × Nat} {Q:Bool → Shared → Prop} (hk:IsTupleKey (intKind prog w) s.heap [(k.1:Int),(k.2:Int)] x) (hS:PSet s.heap S ks)
    (hin:∀ y ∈ ks,inR y) (hkr:inR k) (hnk:k ∉ ks) (hlen:ks.length < 72)
    (q:∀ h',Heap.SameBut S s.heap h' → PSet h' S (ks ++ [k]) → Q true { s with heap:=h' }) :
    wpAny (model prog w) A (setAddHashed S (.ref x) (pairHash k.1 k.2)) Q E s:=by
  obtain ⟨o,es,ep,t,ho,hex,hd,hdm,hp,hn,hel,hm⟩:=hS
  have hgood:=good_of hkr
  unfold goodP at hgood
  simp only [Bool.and_eq_true] at hgood
  obtain ⟨⟨⟨⟨g7,g31⟩,g127⟩,l31⟩,l127⟩:=hgood
  have hg:goodH t.mask (pairHash k.1 k.2) = true:=by
    rcases hm with ⟨e,_⟩ | ⟨e,_⟩ | e <;> rw [e] <;> assumption
  have hfl:t.fill = es.size:=by unfold SetTable.fill;rw [hdm,hp];rfl
  have hmk:es.size ≤ t.mask:=by rcases hm with ⟨e,z⟩ | ⟨e,z⟩ | e <;> rw [e] <;> (first | lia | omega)
  have hf:t.fits es.size = true:=by unfold SetTable.fits;rw [hfl,hp];simp [hmk]
  have hodd:t.mask % 2 = 1:=by rcases hm with ⟨e,z⟩ | ⟨e,z⟩ | e <;> rw [e]
  have hne:∀ e ∈ es.toList,e.1 ≠ pairHash k.1 k.2:=fun e he z=>by
    obtain ⟨y,hy,e2⟩:=List.mem_map.mp (hel e he)
    have:y = k:=pair_inj (hin y hy) hkr (by rw [e2,z])
    exact hnk (this ▸ hy)
  have hall:∀ (m:Nat),(∀ y,inR y → goodL m (pairHash y.1 y.2) = true) → ∀ (p:Nat),∀ e ∈ (SetTable.insertAt es p (pairHash k.1 k.2,Value.ref x)).toList,goodL m e.1 = true ∧ e.1 ∈ (ks ++ [k]).map fun k=>pairHash k.1 k.2:=by
    intro m hm p e he
    have he:=(SetTable.insertAt_perm es p _).mem_iff.mp he
    rw [Array.toList_push] at he
    rcases List.mem_append.mp he with he | he
    · obtain ⟨y,hy,e2⟩:=List.mem_map.mp (hel e he)
      exact ⟨by rw [← e2];exact hm y (hin y hy),by rw [List.map_append];exact List.mem_append_left _ (hel e he)⟩
    · rw [List.mem_singleton] at he;subst he
      exact ⟨hm k hkr,by rw [List.map_append];exact List.mem_append_right _ (List.mem_singleton.mpr rfl)⟩
  have hz:∀ p,(SetTable.insertAt es p (pairHash k.1 k.2,Value.ref x)).size = es.size + 1:=fun p=>by
    rw [← Array.length_toList,(SetTable.insertAt_perm es p _).length_eq,Array.length_toList,Array.size_push]
  have hzp:∀ p j,(SetTable.insertAt t.place p j).size = es.size + 1:=fun p j=>by
    rw [← Array.length_toList,(SetTable.insertAt_perm t.place p _).length_eq,Array.length_toList,Array.size_push,hp]
  have gl31:∀ y,inR y → goodL 31 (pairHash y.1 y.2) = true:=fun y hy=>by
    have:=good_of hy;unfold goodP at this;simp only [Bool.and_eq_true] at this;exact this.1.2
  have gl127:∀ y,inR y → goodL 127 (pairHash y.1 y.2) = true:=fun y hy=>by
    have:=good_of hy;unfold goodP at this;simp only [Bool.and_eq_true] at this;exact this.2
  unfold setAddHashed setAddHashedIn
  refine wpAny_holding (wpAny_bind (wpAny_setState_of ho hd hf ?_))
  dsimp only
  rw [show byScan (.ref x) es = false from rfl]
  simp only [Bool.false_eq_true,if_false]
  refine wpAny_bind (wpAny_search ho hd hf hdm hp (by rw [hp];exact hmk) hodd hne hg fun j=>?_)
  dsimp only
  refine wpAny_bind (wpAny_setState_of ho hd hf ?_)
  dsimp only
  have fin:∀ (t1:SetTable) (p:Nat),t1.dummies = #[] → t1.place.size = es.size + 1 → t1.mask = t.mask →
      wpAny (model prog w) A (do
        storeSet S (SetTable.insertAt es p (pairHash k.1 k.2,.ref x)) t1
        if (!false && t1.tooFull) = true then do
            setRelay S (SetTable.grown (es.size + 1))
            pure true
          else pure true) Q E s:=by
    intro t1 p hd1 hp1 hm1
    refine wpAny_bind (wpAny_storeSet_of ho hd ?_ (by rw [hz,sizeLine_eq];(first | lia | omega)))
    have hfl1:t1.fill = es.size + 1:=by unfold SetTable.fill;rw [hd1,hp1];rfl
    have hsb1:=Heap.SameBut.update s.heap S (Obj.putSet (SetTable.insertAt es p (pairHash k.1 k.2,Value.ref x)) t1)
    have ho1:(s.heap.update S (Obj.putSet (SetTable.insertAt es p (pairHash k.1 k.2,Value.ref x)) t1)).get? S = some { o with data:=.set (SetTable.insertAt es p (pairHash k.1 k.2,Value.ref x)) (ep + 1) t1 }:=by
      have:=Heap.get?_update_self (Obj.putSet (SetTable.insertAt es p (pairHash k.1 k.2,Value.ref x)) t1) ho (by rw [putSet_of _ t1 hd];rfl)
      rw [putSet_of _ t1 hd] at this;exact this
    have hmk1:es.size + 1 ≤ t1.mask:=by rw [hm1];rcases hm with ⟨e,z⟩ | ⟨e,z⟩ | e <;> rw [e] <;> (first | lia | omega)
    have hf1:t1.fits (SetTable.insertAt es p (pairHash k.1 k.2,Value.ref x)).size = true:=by unfold SetTable.fits;rw [hz,hfl1,hp1];simp [hmk1]
    have relay:∀ m,(∀ y,inR y → goodL m (pairHash y.1 y.2) = true) → SetTable.sizeAbove (SetTable.grown (es.size + 1)) = m + 1 → m ≤ 127 → es.size + 1 ≤ m → (m = 31 ∧ es.size + 1 < 19 ∨ m = 127) →
        wpAny (model prog w) A (do
            setRelay S (SetTable.grown (es.size + 1))
            pure true) Q E { s with heap:=s.heap.update S (Obj.putSet (SetTable.insertAt es p (pairHash k.1 k.2,Value.ref x)) t1) }:=by
      intro m gm hw hm127 hle hmm
      refine wpAny_bind (wpAny_relay (o:={ o with data:=.set (SetTable.insertAt es p (pairHash k.1 k.2,Value.ref x)) (ep + 1) t1 }) ho1 hex rfl hf1 hw (by rw [sizeLine_eq];(first | lia | omega)) (by rw [hz];exact hle) (fun e he=>(hall m gm p e he).1) fun es' t' hes hmem hdm' hpl' hmask=>?_)
      have ho2:=Heap.get?_update_self (Obj.putSet es' t') ho1 (by rw [putSet_of es' t' rfl];rfl)
      rw [putSet_of es' t' rfl] at ho2
      refine wpAny_pure (q _ (hsb1.trans (Heap.SameBut.update _ S _)) ⟨_,es',_,t',ho2,hex,rfl,hdm',hpl',by rw [hes,hz,List.length_append,hn];rfl,fun e he=>(hall m gm p e (hmem e he)).2,?_⟩)
      rw [hmask,hes,hz]
      rcases hmm with ⟨e,z⟩ | e
      · exact .inr (.inl ⟨e,z⟩)
      · exact .inr (.inr e)
    have stay:(t1.mask = 7 ∧ es.size + 1 < 5 ∨ t1.mask = 31 ∧ es.size + 1 < 19 ∨ t1.mask = 127) → wpAny (model prog w) A (pure true) Q E { s with heap:=s.heap.update S (Obj.putSet (SetTable.insertAt es p (pairHash k.1 k.2,Value.ref x)) t1) }:=by
      intro hmm
      refine wpAny_pure (q _ hsb1 ⟨_,_,_,t1,ho1,hex,rfl,hd1,by rw [hz];exact hp1,by rw [hz,List.length_append,hn];rfl,fun e he=>(hall 31 gl31 p e he).2,by rw [hz];exact hmm⟩)
    have htf:t1.tooFull = decide ((es.size + 1) * 5 ≥ t.mask * 3):=by unfold SetTable.tooFull;rw [hfl1,hm1]
    rw [htf]
    rcases hm with ⟨e,z⟩ | ⟨e,z⟩ | e
    · by_cases c:es.size + 1 < 5
      · rw [if_neg (by rw [e];simp;(first | lia | omega))];exact stay (.inl ⟨by rw [hm1];exact e,c⟩)
      · have e4:es.size = 4:=by (first | lia | omega)
        rw [if_pos (by rw [e];simp;(first | lia | omega))]
        exact relay 31 gl31 (by rw [e4];decide) (by (first | lia | omega)) (by (first | lia | omega)) (.inl ⟨rfl,by (first | lia | omega)⟩)
    · by_cases c:es.size + 1 < 19
      · rw [if_neg (by rw [e];simp;(first | lia | omega))];exact stay (.inr (.inl ⟨by rw [hm1];exact e,c⟩))
      · have e4:es.size = 18:=by (first | lia | omega)
        rw [if_pos (by rw [e];simp;(first | lia | omega))]
        exact relay 127 gl127 (by rw [e4];decide) (by (first | lia | omega)) (by (first | lia | omega)) (.inr rfl)
    · rw [if_neg (by rw [e];simp;(first | lia | omega))];exact stay (.inr (.inr (by rw [hm1];exact e)))
  have hdp:∀ (p:Nat),(SetTable.put t p).1.dummies = #[]:=fun p=>by
    unfold SetTable.put;dsimp only;rw [hdm];rfl
  have hmp:∀ (p:Nat),(SetTable.put t p).1.mask = t.mask:=fun p=>rfl
  have hpp:∀ (p:Nat),(SetTable.put t p).1.place.size = es.size + 1:=fun p=>hzp _ _
  split
  · refine wpAny_bind (wpAny_hbv hk ?_)
    exact fin _ _ (hdp j) (hpp j) (hmp j)
  · refine wpAny_bind (wpAny_pure ?_)
    exact fin _ _ (hdp j) (hpp j) (hmp j)
end
end Tr
namespace Tr
open PySem PySem.Spec PyProof.Rows L2
section
variable {prog:Program} {w:World} {A:Around} {R:Result → Shared → Prop} {I:Addr} {fp wr:List Addr} {G:Array GenState → Array GenState → Prop} {n:Nat} {P:Nat → Value → Prop} {St:Nat → Shared → Prop}
theorem range_succ_map {α:Type} (f:Nat → α) (i:Nat):(List.range (i + 1)).map f = (List.range i).map f ++ [f i]:=by
  rw [List.range_succ,List.map_append];rfl
theorem set_loopP (W:WalksS prog w A.in1 I fp wr G n P St) (S:Addr) (hSf:S ∉ fp) (val:Nat → Nat × Nat) (hu:A.in1.units < cLine) (hin:∀ i,i < n → inR (val i)) (hnd:∀ i,i < n → val i ∉ (List.range i).map val) (hb:n ≤ 72) :
    ∀ (k i:Nat) (s:Shared),n - i = k → i ≤ n → St i s →
      (∀ i v,i < n → P i v → ∃ x,v = .ref x ∧ x ≠ S ∧ x ∉ wr ∧ IsTupleKey (intKind prog w) s.heap [((val i).1:Int),((val i).2:Int)] x) →
      PSet s.heap S ((List.range i).map val) →
      (∀ s',Moved (S :: wr) G s s' → PSet s'.heap S ((List.range n).map val) → R (.ok (.ret .none)) s') →
      codeAny (model prog w) A (.builtin "set.update.loop" ⟨[.ref S,.ref I],[]⟩) R s:=by
  have hSw:S ∉ wr:=fun h=>hSf (W.sub _ h)
  have hsub:∀ b ∈ wr,b ∈ S :: wr:=fun b hb=>List.mem_cons_of_mem _ hb
  intro k
  induction k with
  | zero =>
    intro i s hk hi hst hT hS hR
    have hin:i = n:=by (first | lia | omega)
    subst hin
    refine codeAny_builtin PyProof.Rows.F.entry_set_update_loop ?_
    rw [Around.under_plainId PyProof.Rows.F.plain_set_update_loop _]
    show wpAny _ A.in1 (pyNext (.ref I) >>= _) _ _ s
    refine wpAny_bind (W.done s _ _ hst fun s' hm=>?_)
    show wpAny _ A.in1 (ret Value.none) _ _ s'
    exact wpAny_pure (hR s' (hm.mono hsub) (by
      obtain ⟨o,es,ep,t,ho,rest⟩:=hS
      exact ⟨o,es,ep,t,hm.heap S _ hSw ho,rest⟩))
  | succ k ih =>
    intro i s hk hi hst hT hS hR
    have hlt:i < n:=by (first | lia | omega)
    refine codeAny_builtin PyProof.Rows.F.entry_set_update_loop ?_
    rw [Around.under_plainId PyProof.Rows.F.plain_set_update_loop _]
    show wpAny _ A.in1 (pyNext (.ref I) >>= _) _ _ s
    refine wpAny_bind (W.item i s _ _ hlt hst fun v s' hP hst' hm=>?_)
    have hT':∀ i v,i < n → P i v → ∃ x,v = .ref x ∧ x ≠ S ∧ x ∉ wr ∧ IsTupleKey (intKind prog w) s'.heap [((val i).1:Int),((val i).2:Int)] x:=fun i v hi hv=>by
      obtain ⟨x,e1,e2,e3,o,its,m,ho,rest⟩:=hT i v hi hv
      exact ⟨x,e1,e2,e3,o,its,m,hm.heap x o e3 ho,rest⟩
    obtain ⟨x,rfl,hxS,hxw,hkx⟩:=hT' i v hlt hP
    have hS':PSet s'.heap S ((List.range i).map val):=by
      obtain ⟨o,es,ep,tb,ho,rest⟩:=hS
      exact ⟨o,es,ep,tb,hm.heap S _ hSw ho,rest⟩
    show wpAny _ A.in1 (holding [.ref x] (setAdd S (.ref x)) >>= _) _ _ s'
    refine wpAny_bind (wpAny_holding ?_)
    unfold setAdd
    refine wpAny_holding ?_
    refine wpAny_bind (wpAny_pyHash_tuple hu hkx ?_)
    refine wpAny_addPair (k:=val i) (s:={ s' with toks:=s'.toks + ([((val i).1:Int),((val i).2:Int)].length + 1) }) hkx hS' (fun y hy=>?_) (hin i hlt) (hnd i hlt) (by rw [List.length_map,List.length_range];(first | lia | omega)) fun h' hsb hS2=>?_
    · obtain ⟨j,hj,rfl⟩:=List.mem_map.mp hy
      exact hin j (by have:=List.mem_range.mp hj;(first | lia | omega))
    have hSi:PSet h' S ((List.range (i + 1)).map val):=by rw [range_succ_map];exact hS2
    refine wpAny_pure ⟨plainId_quiet PyProof.Rows.F.plain_set_update_loop _,ih (i + 1) _ (by (first | lia | omega)) hlt (W.frame _ s' _ _ hst' (Nat.le_add_right _ _) fun b hb o e=>?_) (fun i v hi hv=>?_) hSi fun s'' hm'' hS''=>?_⟩
    · rw [hsb.2 b (fun h:b = S=>hSf (by rw [← h];exact hb))];exact e
    · obtain ⟨x,e1,e2,e3,o,its,m,ho,rest⟩:=hT' i v hi hv
      exact ⟨x,e1,e2,e3,o,its,m,(hsb.2 x e2).trans ho,rest⟩
    · refine hR s'' (Moved.trans W.gtrans ((hm.mono hsub).then_heap (Nat.le_add_right _ _) fun b o hb e=>?_) hm'') hS''
      rw [hsb.2 b (fun h:b = S=>hb (by rw [h];exact List.mem_cons_self))];exact e
end
section
variable {prog:Program} {w:World} {A:Around} {E:Value → Shared → Prop} {s:Shared}
set_option maxHeartbeats 3200000 in
theorem call_set_pairs {l:Addr} {items:Array Value} {val:Nat → Nat × Nat} {Q:Value → Shared → Prop} (hh:A.handled = none) (hu:A.units + 8 < cLine) (hl:s.heap.IsList l items) (hval:∀ i v,items[i]? = some v → ∃ x,v = .ref x ∧ IsTupleKey (intKind prog w) s.heap [((val i).1:Int),((val i).2:Int)] x) (hin:∀ i,i < items.size → inR (val i)) (hnd:∀ i,i < items.size → val i ∉ (List.range i).map val) (hb:items.size ≤ 72)
    (h:∀ (h':Heap) (tk:Nat),PSet h' s.heap.objs.size ((List.range items.size).map val) →
      (∀ b o,b < s.heap.objs.size → s.heap.get? b = some o → h'.get? b = some o) → Q (.ref s.heap.objs.size) { s with heap:=h',toks:=tk }) :
    wpAny (model prog w) A (call (.type "set") [.ref l]) Q E s:=by
  obtain ⟨c,tl,hmro⟩:=F.called_set.mro
  have hmade:=F.called_set.made
  have hsub:=F.called_set.sub
  refine wpAny_call (codeAny_of_tree ?_)
  show wpAny _ _ (callAny (.type "set") _) _ _ _
  refine wpAny_pure ⟨Code.quiet_builtin _ (by decide +kernel),codeAny_builtin F.entry_type_call ?_⟩
  rw [Around.under_plain (weight_type_call_type "set" [.ref l] []) rfl]
  have h1:=F.called_set.notType
  have h2:=F.called_set.canCreate
  have hct:=F.typeCall_set_1 (.ref l)
  repeat (any_goals (first | assumption | wp_step))
  refine codeAny_mono (code_set_new_1 (.ref l) (E:=E) (Q₁:=fun obj s₁=>∃ led:Bool,obj = .ref s.heap.objs.size ∧ s₁ = { s with heap:=s.heap.push { cls:=.type "set", dict:=none,data:=.set #[] 0 (.fresh 0 0 led) } }) fun led=>⟨led,rfl,rfl⟩) fun r s₁ hr=>?_
  cases r with
  | error e=>exact hr
  | ok fl =>
    cases fl with
    | ret obj =>
      obtain ⟨led,rfl,rfl⟩:=hr
      have hS:(s.heap.push { cls:=.type "set", dict:=none,data:=.set #[] 0 (.fresh 0 0 led) }).get? s.heap.objs.size = some { cls:=.type "set", dict:=none,data:=.set #[] 0 (.fresh 0 0 led) }:=Heap.get?_push_size _ rfl
      have hT:Shared.TypeIs { s with heap:=s.heap.push { cls:=.type "set", dict:=none,data:=.set #[] 0 (.fresh 0 0 led) } } (.ref s.heap.objs.size) "set" := ⟨_,hS,rfl⟩
      have hli:=F.called_set.init.lookup
      have hbi:=F.called_set.init.bind (.ref s.heap.objs.size)
      repeat (any_goals (first | assumption | wp_step))
      refine codeAny_mono (codeAny_call_builtin (R:=wants (fun r s₂=>r = .none ∧ ∃ h' tk,s₂ = { s with heap:=h',toks:=tk } ∧
          PSet h' s.heap.objs.size ((List.range items.size).map val) ∧
          (∀ b o,b < s.heap.objs.size → s.heap.get? b = some o → h'.get? b = some o)) E) F.called_set.init.plain F.entry_set_init (check_set_init_1 hT ?_)) fun r₂ s₂ hr₂=>?_
      · generalize hpu:s.heap.push { cls:=.type "set", dict:=none,data:=.set #[] 0 (.fresh 0 0 led) } = hp1 at *
        have hz:hp1.objs.size = s.heap.objs.size + 1:=by rw [← hpu];exact Heap.size_push ..
        have hold:∀ b o,s.heap.get? b = some o → hp1.get? b = some o:=fun b o e=>by rw [← hpu];exact Heap.get?_push_of_some _ e
        obtain ⟨ol,hol,hcl,nl,hdl⟩:=hl
        obtain ⟨ocls,odict,odata,oslots⟩:=ol
        simp only at hcl hdl
        subst hcl;subst hdl
        have hol':hp1.get? l = some { cls:=.type "list", dict:=odict,data:=.seq items nl,slots:=oslots }:=hold _ _ hol
        have hsls:=F.sub_list_set
        have hslf:=F.sub_list_frozenset
        have hne:(Value.type "list" == Value.type "dict") = false:=by decide
        have hl1:hp1.IsList l items:=⟨_,hol',rfl,nl,rfl⟩
        have hlS:l < s.heap.objs.size:=Heap.lt_size hol
        have hneI:l ≠ hp1.objs.size:=by rw [hz];exact Nat.ne_of_lt (Nat.lt_succ_of_lt hlS)
        unfold Builtin.«set.__init__» noKeywords Builtin.Frozenset.updateFrom
        generalize hPI:pyIter = PI
        wp_walk
        subst hPI
        refine wpAny_pyIter_list hl1 ?_
        refine wpAny_bind (wpAny_runValue ?_)
        have hh3:A.in1.in1.in1.handled = none:=by simp [hh]
        have hu3:A.in1.in1.in1.units < cLine:=by show A.units + 1 + 1 + 1 < cLine;(first | lia | omega)
        refine set_loopP ((Walks.list hh3 _ l hneI items).toS) s.heap.objs.size (by rw [hz];simp only [List.mem_cons,List.mem_singleton,List.not_mem_nil,or_false,not_or];exact ⟨Nat.ne_of_lt (Nat.lt_succ_self _),Nat.ne_of_gt hlS⟩) val hu3 hin hnd hb (items.size - 0) 0 _ (by (first | lia | omega)) (Nat.zero_le _) ⟨⟨_,Heap.get?_push_size _ rfl,rfl,rfl⟩,(hl1.push _)⟩ ?hT0 ?hS0 ?hR
        case hT0 =>
          intro i v _ hv
          obtain ⟨x,rfl,ox,itx,nx,hox,hcx,hdx,hix⟩:=hval i v hv
          have hlx:x < s.heap.objs.size:=Heap.lt_size hox
          refine ⟨x,rfl,Nat.ne_of_lt hlx,?_,ox,itx,nx,Heap.get?_push_of_some _ (hold _ _ hox),hcx,hdx,hix⟩
          rw [hz];simp only [List.mem_cons,List.mem_singleton,List.not_mem_nil,or_false,not_or]
          exact Nat.ne_of_lt (Nat.lt_succ_of_lt hlx)
        case hS0 =>
          have hget:(hp1.push { cls:=.type "list_iterator", data:=.fields #[.ref l,.int 0 0] }).get? s.heap.objs.size
              = some { cls:=.type "set", dict:=none,data:=.set #[] 0 (.fresh 0 0 led) }:=Heap.get?_push_of_some _ hS
          exact ⟨_,#[],0,_,hget,⟨rfl,rfl,rfl⟩,rfl,rfl,rfl,rfl,(fun e he=>by cases he),.inl ⟨rfl,by decide⟩⟩
        case hR =>
          intro s' hm hS'
          obtain ⟨h',g',d',tk',os'⟩:=s'
          have eg:g' = s.gens:=hm.gens
          have ed:d' = s.drawn:=hm.drawn
          have eo:os' = s.os:=hm.os
          subst eg;subst ed;subst eo
          show wpAny _ _ _ _ _ _
          refine wpAny_pure ?_
          show wpAny _ _ (ret Value.none) _ _ _
          refine wpAny_pure ⟨rfl,h',tk',rfl,hS',fun b o hb e=>?_⟩
          have hb1:b ≠ s.heap.objs.size:=Nat.ne_of_lt hb
          have hb2:b ≠ hp1.objs.size:=by rw [hz];exact Nat.ne_of_lt (Nat.lt_succ_of_lt hb)
          exact hm.heap b o (by simp only [List.mem_cons,List.mem_singleton,List.not_mem_nil,or_false,not_or];exact ⟨hb1,hb2⟩) (Heap.get?_push_of_some _ (hold _ _ e))
      · cases r₂ with
        | error e=>exact hr₂
        | ok fl₂ =>
          cases fl₂ with
          | ret r =>
            obtain ⟨rfl,h',tk,rfl,hS',hk'⟩:=hr₂
            repeat (any_goals (first | assumption | wp_step))
            exact h _ _ hS' hk'
          | _=>exact hr₂.elim
    | _=>exact hr.elim
end
end Tr
namespace Tr
open PySem PySem.Spec PyProof.Rows L2
section
variable {prog:Program} {w:World} {A:Around} {E:Value → Shared → Prop} {s:Shared}
set_option maxHeartbeats 3200000 in
theorem call_set_tup {l:Addr} {items:Array Value} {val:Nat → Key} {Q:Value → Shared → Prop} (hh:A.handled = none) (hl:s.heap.IsTuple l items) (hval:∀ i v,items[i]? = some v → (mixKind prog w).is (val i) v = true ∧ v.scannable = true) (hb:items.size + 1 < scanBound)
    (h:∀ (h':Heap) (tk:Nat),h'.SetOf (mixKind prog w) s.heap.objs.size (fun k'=>(met val items.size).any (fun x=>decide (x = k'))) (met val items.size).length →
      (∀ b o,b < s.heap.objs.size → s.heap.get? b = some o → h'.get? b = some o) → Q (.ref s.heap.objs.size) { s with heap:=h',toks:=tk }) :
    wpAny (model prog w) A (call (.type "set") [.ref l]) Q E s:=by
  obtain ⟨c,tl,hmro⟩:=F.called_set.mro
  have hmade:=F.called_set.made
  have hsub:=F.called_set.sub
  refine wpAny_call (codeAny_of_tree ?_)
  show wpAny _ _ (callAny (.type "set") _) _ _ _
  refine wpAny_pure ⟨Code.quiet_builtin _ (by decide +kernel),codeAny_builtin F.entry_type_call ?_⟩
  rw [Around.under_plain (weight_type_call_type "set" [.ref l] []) rfl]
  have h1:=F.called_set.notType
  have h2:=F.called_set.canCreate
  have hct:=F.typeCall_set_1 (.ref l)
  repeat (any_goals (first | assumption | wp_step))
  refine codeAny_mono (code_set_new_1 (.ref l) (E:=E) (Q₁:=fun obj s₁=>∃ led:Bool,obj = .ref s.heap.objs.size ∧ s₁ = { s with heap:=s.heap.push { cls:=.type "set", dict:=none,data:=.set #[] 0 (.fresh 0 0 led) } }) fun led=>⟨led,rfl,rfl⟩) fun r s₁ hr=>?_
  cases r with
  | error e=>exact hr
  | ok fl =>
    cases fl with
    | ret obj =>
      obtain ⟨led,rfl,rfl⟩:=hr
      have hS:(s.heap.push { cls:=.type "set", dict:=none,data:=.set #[] 0 (.fresh 0 0 led) }).get? s.heap.objs.size = some { cls:=.type "set", dict:=none,data:=.set #[] 0 (.fresh 0 0 led) }:=Heap.get?_push_size _ rfl
      have hT:Shared.TypeIs { s with heap:=s.heap.push { cls:=.type "set", dict:=none,data:=.set #[] 0 (.fresh 0 0 led) } } (.ref s.heap.objs.size) "set" := ⟨_,hS,rfl⟩
      have hli:=F.called_set.init.lookup
      have hbi:=F.called_set.init.bind (.ref s.heap.objs.size)
      repeat (any_goals (first | assumption | wp_step))
      refine codeAny_mono (codeAny_call_builtin (R:=wants (fun r s₂=>r = .none ∧ ∃ h' tk,s₂ = { s with heap:=h',toks:=tk } ∧
          h'.SetOf (mixKind prog w) s.heap.objs.size (fun k'=>(met val items.size).any (fun x=>decide (x = k'))) (met val items.size).length ∧
          (∀ b o,b < s.heap.objs.size → s.heap.get? b = some o → h'.get? b = some o)) E) F.called_set.init.plain F.entry_set_init (check_set_init_1 hT ?_)) fun r₂ s₂ hr₂=>?_
      · generalize hpu:s.heap.push { cls:=.type "set", dict:=none,data:=.set #[] 0 (.fresh 0 0 led) } = hp1 at *
        have hz:hp1.objs.size = s.heap.objs.size + 1:=by rw [← hpu];exact Heap.size_push ..
        have hold:∀ b o,s.heap.get? b = some o → hp1.get? b = some o:=fun b o e=>by rw [← hpu];exact Heap.get?_push_of_some _ e
        obtain ⟨ol,hol,hcl,nl,hdl⟩:=hl
        obtain ⟨ocls,odict,odata,oslots⟩:=ol
        simp only at hcl hdl
        subst hcl;subst hdl
        have hol':hp1.get? l = some { cls:=.type "tuple", dict:=odict,data:=.seq items nl,slots:=oslots }:=hold _ _ hol
        have hsls:=PySem.F.sub_tuple_set
        have hslf:=PySem.F.sub_tuple_frozenset
        have hne:(Value.type "tuple" == Value.type "dict") = false:=by decide
        have hl1:hp1.IsTuple l items:=⟨_,hol',rfl,nl,rfl⟩
        have hlS:l < s.heap.objs.size:=Heap.lt_size hol
        have hneI:l ≠ hp1.objs.size:=by rw [hz];exact Nat.ne_of_lt (Nat.lt_succ_of_lt hlS)
        unfold Builtin.«set.__init__» noKeywords Builtin.Frozenset.updateFrom
        generalize hPI:pyIter = PI
        wp_walk
        subst hPI
        refine wpAny_pyIter_tuple hl1 ?_
        refine wpAny_bind (wpAny_runValue ?_)
        have hh3:A.in1.in1.in1.handled = none:=by simp [hh]
        refine set_loop ((Walks.tuple hh3 _ l hneI items).toS) s.heap.objs.size (by rw [hz];simp only [List.mem_cons,List.mem_singleton,List.not_mem_nil,or_false,not_or];exact ⟨Nat.ne_of_lt (Nat.lt_succ_self _),Nat.ne_of_gt hlS⟩) val hval hb (items.size - 0) 0 _ (by (first | lia | omega)) (Nat.zero_le _) ⟨⟨_,Heap.get?_push_size _ rfl,rfl,rfl⟩,(hl1.push _)⟩ ?hS0 ?hR
        case hS0 =>
          have hget:(hp1.push { cls:=.type "tuple_iterator", data:=.fields #[.ref l,.int 0 0] }).get? s.heap.objs.size
              = some { cls:=.type "set", dict:=none,data:=.set #[] 0 (.fresh 0 0 led) }:=Heap.get?_push_of_some _ hS
          letI:BEq Key:=instBEqOfDecidableEq
          haveI:LawfulBEq Key:=inferInstance
          exact (PyProof.Rows.setObjOf_fresh (knd:=mixKind prog w) led).setOf hget (by unfold scanBound;(first | lia | omega))
        case hR =>
          intro s' hm hS'
          obtain ⟨h',g',d',tk',os'⟩:=s'
          have eg:g' = s.gens:=hm.gens
          have ed:d' = s.drawn:=hm.drawn
          have eo:os' = s.os:=hm.os
          subst eg;subst ed;subst eo
          show wpAny _ _ _ _ _ _
          refine wpAny_pure ?_
          show wpAny _ _ (ret Value.none) _ _ _
          refine wpAny_pure ⟨rfl,h',tk',rfl,hS',fun b o hb e=>?_⟩
          have hb1:b ≠ s.heap.objs.size:=Nat.ne_of_lt hb
          have hb2:b ≠ hp1.objs.size:=by rw [hz];exact Nat.ne_of_lt (Nat.lt_succ_of_lt hb)
          exact hm.heap b o (by simp only [List.mem_cons,List.mem_singleton,List.not_mem_nil,or_false,not_or];exact ⟨hb1,hb2⟩) (Heap.get?_push_of_some _ (hold _ _ e))
      · cases r₂ with
        | error e=>exact hr₂
        | ok fl₂ =>
          cases fl₂ with
          | ret r =>
            obtain ⟨rfl,h',tk,rfl,hS',hk'⟩:=hr₂
            repeat (any_goals (first | assumption | wp_step))
            exact h _ _ hS' hk'
          | _=>exact hr₂.elim
    | _=>exact hr.elim
end
end Tr
namespace Tr
open PySem PySem.Spec PyProof.Rows L2
noncomputable def SetY (P:Program) (w:World) (p:Addr) (n:Nat):HO:=.ext fun h=>(∃ S,h.SetOf (mixKind P w) p S n) ∨ ∃ ks,PSet h p ks ∧ ks.length = n ∧ n ≤ 72
noncomputable def PairsAt (K:PySem.W.Frag) (H:Hp):List Addr → List (Nat × Nat) → Prop
  | [],ps=>ps = []
  | a :: r,ps=>∃ p q,ps = p :: q ∧ SqT K H a [.int (p.1:Nat),.int (p.2:Nat)] ∧ PairsAt K H r q
theorem PairsAt.get {K:PySem.W.Frag} {H:Hp}:∀ {as:List Addr} {ps:List (Nat × Nat)} {i:Nat} {a:Addr},PairsAt K H as ps → as[i]? = some a → SqT K H a [.int ((ps.getD i (0,0)).1:Nat),.int ((ps.getD i (0,0)).2:Nat)]
  | [],_,i,a,_,e=>by simp at e
  | b :: r,ps,i,a,h,e=>by
    obtain ⟨p,q,rfl,h1,h2⟩:=h
    cases i with
    | zero=>simp at e;subst e;exact h1
    | succ i=>exact h2.get (by simpa using e)
theorem PairsAt.length {K:PySem.W.Frag} {H:Hp}:∀ {as:List Addr} {ps:List (Nat × Nat)},PairsAt K H as ps → as.length = ps.length
  | [],_,h=>by cases h;rfl
  | b :: r,ps,h=>by
    obtain ⟨p,q,rfl,h1,h2⟩:=h
    rw [List.length_cons,List.length_cons,h2.length]
theorem nodupP_at:∀ {ps:List (Nat × Nat)},nodupP ps = true → ps.Nodup
  | [],_=>.nil
  | p :: r,h=>by
    rw [nodupP,Bool.and_eq_true,Bool.not_eq_true'] at h
    refine List.nodup_cons.mpr ⟨fun hm=>?_,nodupP_at h.2⟩
    have:r.contains p = true:=List.contains_iff_mem.mpr hm
    rw [h.1] at this;cases this
theorem nodup_at {ps:List (Nat × Nat)} (h:ps.Nodup) {i:Nat} (hi:i < ps.length):ps.getD i (0,0) ∉ (List.range i).map fun j=>ps.getD j (0,0):=by
  intro hm
  obtain ⟨j,hj,e⟩:=List.mem_map.mp hm
  have hj:=List.mem_range.mp hj
  rw [List.getD_eq_getElem?_getD,List.getD_eq_getElem?_getD,List.getElem?_eq_getElem hi,List.getElem?_eq_getElem (by (first | lia | omega):j < ps.length)] at e
  have e:ps[j]'(by (first | lia | omega)) = ps[i]:=e
  exact List.pairwise_iff_getElem.mp h j i (by (first | lia | omega)) hi hj e
theorem range_getD {ps:List (Nat × Nat)}:(List.range ps.length).map (fun j=>ps.getD j (0,0)) = ps:=by
  apply List.ext_getElem
  · simp
  · intro i h1 h2
    simp [h2]
theorem tupKey {P:Program} {w:World} {h:Heap} {a:Addr} {its:List Value} {x y:Int} (r:Vals [.int x,.int y] its) (p:IsTup h a its.toArray):IsTupleKey (intKind P w) h [x,y] a:=by
  obtain ⟨o,e,hc,n,d⟩:=p
  refine ⟨o,its.toArray,n,e,hc,d,?_⟩
  cases r with
  | cons r1 r =>
    cases r with
    | cons r2 r =>
      cases r
      obtain ⟨t1,rfl⟩:=(show ∃ t,_ = Value.int x t from r1)
      obtain ⟨t2,rfl⟩:=(show ∃ t,_ = Value.int y t from r2)
      exact .cons (intKind_is _ _ _ _) (.cons (intKind_is _ _ _ _) .nil)
noncomputable def SetsOf (K:PySem.W.Frag) (H:Hp) (v:V) (n:Nat):Prop :=
  (∃ ks,KeysV K H v ks ∧ ks.length + 1 < scanBound ∧ n = (metD ks).length) ∨ (∃ a ks,v = .ref a ∧ SqT K H a (ks.map kV) ∧ ks.length + 1 < scanBound ∧ n = (metD ks).length) ∨ ∃ a as ps,v = .ref a ∧ SqL K H a (as.map V.ref) ∧ PairsAt K H as ps ∧ ps.Nodup ∧ ps.length ≤ 72 ∧ n = ps.length ∧ ∀ p ∈ ps,inR p
theorem vals_refs:∀ {as:List Addr} {its:List Value},Vals (as.map V.ref) its → its = as.map Value.ref
  | [],its,r=>by cases r;rfl
  | a :: as,its,r=>by
    cases r with
    | cons r1 r=>rw [vals_refs r,show _ = Value.ref a from r1];rfl
theorem call_setY {X:Cx} (hc:X.calm = true) (hr:X.A.units + 64 < cLine):CallR X (.type "set") (fun vs H Q=>∃ v n,vs = [v] ∧ SetsOf X.K H v n ∧ ∀ p,H p = none → Q (.ref p) (upd H p (SetY X.prog X.w p n))):=by
  intro pins s σ H vs us Q I rv h
  obtain ⟨v,n,rfl,hk,q⟩:=h
  obtain ⟨u,rfl,ru⟩:=rv.one
  have fin:∀ (h':Heap) (tk:Nat),((∃ S,h'.SetOf (mixKind X.prog X.w) s.heap.objs.size S n) ∨ ∃ ks,PSet h' s.heap.objs.size ks ∧ ks.length = n ∧ n ≤ 72) → (∀ b o,b < s.heap.objs.size → s.heap.get? b = some o → h'.get? b = some o) → EP X pins σ Q (.ref s.heap.objs.size) { s with heap:=h',toks:=tk }:=by
    intro h' tk hS hkeep
    have fr:H s.heap.objs.size = none:=I.hok.fresh (Nat.le_refl _)
    refine ⟨.ref s.heap.objs.size,_,I.laid (t':=tk) (fun b o e=>hkeep b o (Heap.lt_size e) e) (Nat.le_refl _) ?_,rfl,q _ fr⟩
    refine ⟨hS,?_,fun h1 h2 p1 k=>?_⟩
    · rcases hS with ⟨S,o,_,_,_,e,_⟩ | ⟨ks,⟨o,_,_,_,e,_⟩,_⟩
      · exact ⟨o,e⟩
      · exact ⟨o,e⟩
    · rcases p1 with ⟨S,o,es,ep,t,e,r⟩ | ⟨ks,⟨o,es,ep,t,e,r⟩,r2⟩
      · exact .inl ⟨S,o,es,ep,t,k o e,r⟩
      · exact .inr ⟨ks,⟨o,es,ep,t,k o e,r⟩,r2⟩
  rcases hk with ⟨ks,⟨a,rfl,hS⟩ | ⟨x,rfl,rfl⟩,hb,rfl⟩ | ⟨a,ks,rfl,hS,hb,rfl⟩ | ⟨a,as,ps,rfl,hS,hP,hnd,hle,rfl,hin⟩
  · cases ru
    obtain ⟨its,r,pl,hz⟩:=I.list hS
    have hl:its.toArray.size = ks.length:=by rw [List.size_toArray,← r.length,List.length_map]
    refine call_set_lst (val:=fun i=>ks.getD i (.inl 0)) (I.ok.hd hc) pl.isList (fun i v hv=>?_) (by rw [hl];exact hb) fun h' tk hS' hkeep=>?_
    · have hi:i < ks.length:=by
        rw [← hl]
        rcases Nat.lt_or_ge i its.toArray.size with z | z
        · exact z
        · rw [Array.getElem?_eq_none z] at hv;cases hv
      have h1:(ks.map kV)[i]? = some (kV ks[i]):=by rw [List.getElem?_map,List.getElem?_eq_getElem hi];rfl
      obtain ⟨u,h2,h3⟩:=r.get h1
      have h4:u = v:=by
        have:its[i]? = some v:=by simpa using hv
        rw [h2] at this;cases this;rfl
      subst h4
      show (mixKind X.prog X.w).is (ks.getD i (.inl 0)) u = true ∧ _
      rw [List.getD_eq_getElem?_getD,List.getElem?_eq_getElem hi]
      exact keyIs_of h3
    · rw [hl,met_all] at hS'
      exact fin h' tk (.inl ⟨_,hS'⟩) hkeep
  · obtain ⟨t,rfl⟩:=ru
    have hl:x.cps.size = (x.cps.toList.map fun c=>(Sum.inr ⟨#[c]⟩ : Key)).length:=by rw [List.length_map,Array.length_toList]
    refine call_set_str (val:=fun i=>(x.cps.toList.map fun c=>(Sum.inr ⟨#[c]⟩ : Key)).getD i (.inl 0)) (I.ok.hd hc) (fun i v hv=>?_) (by rw [hl];exact hb) fun h' tk hS' hkeep=>?_
    · obtain ⟨c,u,h1,rfl⟩:=hv
      have h2:x.cps.toList[i]? = some c:=by rw [Array.getElem?_toList];exact h1
      show (mixKind X.prog X.w).is ((x.cps.toList.map fun c=>(Sum.inr ⟨#[c]⟩ : Key)).getD i (.inl 0)) _ = true ∧ _
      rw [List.getD_eq_getElem?_getD,List.getElem?_map,h2]
      exact ⟨mixKind_str _ _ _ _,rfl⟩
    · rw [hl,met_all] at hS'
      exact fin h' tk (.inl ⟨_,hS'⟩) hkeep
  · cases ru
    obtain ⟨its,r,pl,hz⟩:=I.tuple hS
    have hl:its.toArray.size = ks.length:=by rw [List.size_toArray,← r.length,List.length_map]
    refine call_set_tup (val:=fun i=>ks.getD i (.inl 0)) (I.ok.hd hc) pl (fun i v hv=>?_) (by rw [hl];exact hb) fun h' tk hS' hkeep=>?_
    · have hi:i < ks.length:=by
        rw [← hl]
        rcases Nat.lt_or_ge i its.toArray.size with z | z
        · exact z
        · rw [Array.getElem?_eq_none z] at hv;cases hv
      have h1:(ks.map kV)[i]? = some (kV ks[i]):=by rw [List.getElem?_map,List.getElem?_eq_getElem hi];rfl
      obtain ⟨u,h2,h3⟩:=r.get h1
      have h4:u = v:=by
        have:its[i]? = some v:=by simpa using hv
        rw [h2] at this;cases this;rfl
      subst h4
      show (mixKind X.prog X.w).is (ks.getD i (.inl 0)) u = true ∧ _
      rw [List.getD_eq_getElem?_getD,List.getElem?_eq_getElem hi]
      exact keyIs_of h3
    · rw [hl,met_all] at hS'
      exact fin h' tk (.inl ⟨_,hS'⟩) hkeep
  · cases ru
    obtain ⟨its,r,pl,hz⟩:=I.list hS
    have hits:=vals_refs r
    subst hits
    have hl:(as.map Value.ref).toArray.size = ps.length:=by rw [List.size_toArray,List.length_map];exact hP.length
    refine call_set_pairs (val:=fun i=>ps.getD i (0,0)) (I.ok.hd hc) (by (first | lia | omega)) pl.isList (fun i v hv=>?_) (fun i hi=>?_) (fun i hi=>nodup_at hnd (by rw [← hl];exact hi)) (by rw [hl];exact hle) fun h' tk hS' hkeep=>?_
    · have hv':(as.map Value.ref)[i]? = some v:=by simpa using hv
      rw [List.getElem?_map] at hv'
      cases e:as[i]? with
      | none=>rw [e] at hv';cases hv'
      | some x =>
        rw [e] at hv'
        cases hv'
        obtain ⟨tits,tr,tp,_⟩:=I.tuple (hP.get e)
        exact ⟨x,rfl,tupKey tr tp⟩
    · rw [hl] at hi
      show inR (ps.getD i (0,0))
      rw [List.getD_eq_getElem?_getD,List.getElem?_eq_getElem hi]
      exact hin _ (List.getElem_mem hi)
    · rw [hl,range_getD] at hS'
      exact fin h' tk (.inr ⟨ps,hS',rfl,hle⟩) hkeep
theorem call_lenY {X:Cx}:CallR X (.builtin "len") (fun vs H Q=>∃ p n,vs = [.ref p] ∧ H p = some (SetY X.prog X.w p n) ∧ Q (.int (n:Nat)) H):=by
  intro pins s σ H vs us Q I rv h
  obtain ⟨p,n,rfl,hH,q⟩:=h
  obtain ⟨u,rfl,ru⟩:=rv.one
  cases ru
  obtain ⟨hz,_⟩:=I.hok p _ hH
  rcases hz with ⟨S,o,es,ep,t,e,hex,hd,_,_,hb,hf,hn⟩ | ⟨ks,⟨o,es,ep,t,e,hex,hd,hdm,hp,hn,_,hm⟩,hl,hle⟩
  · refine call_len_set e hex hd hf (by unfold scanBound at hb;(first | lia | omega)) ?_
    exact ⟨.int (n:Nat),H,I.kept (t':=s.toks + 1 + 1) (fun b o e=>e),⟨_,by rw [hn]⟩,q⟩
  · have hfl:t.fill = es.size:=by unfold SetTable.fill;rw [hdm,hp];rfl
    have hmk:es.size ≤ t.mask:=by rcases hm with ⟨e,z⟩ | ⟨e,z⟩ | e <;> rw [e] <;> (first | lia | omega)
    have hf:t.fits es.size = true:=by unfold SetTable.fits;rw [hfl,hp];simp [hmk]
    refine call_len_set e hex hd hf (by (first | lia | omega)) ?_
    exact ⟨.int (n:Nat),H,I.kept (t':=s.toks + 1 + 1) (fun b o e=>e),⟨_,by rw [hn,hl]⟩,q⟩
end Tr
namespace Tr
open PySem PySem.Spec PyProof.Rows L2 PySem.SeqAt
end Tr
namespace Tr
open PySem PySem.Spec PyProof.Rows L2 PySem.W
section
variable {P:Program} {w:World} {H H':Hp} {h h':Heap} {a:Addr} {o:HO}
theorem objOk_obj (x:ObjOk P w H h a o):∃ u,h.get? a = some u:=by
  cases o with
  | lst xs=>obtain ⟨_,_,_,_,e⟩:=x;exact ⟨_,e⟩
  | tup xs=>obtain ⟨_,_,_,u,e,_⟩:=x;exact ⟨_,e⟩
  | dK kvs=>obtain ⟨_,_,_,_,o,_,_,e,_⟩:=x;exact ⟨_,e⟩
  | dT kvs=>obtain ⟨_,_,_,_,o,_,_,e,_⟩:=x;exact ⟨_,e⟩
  | set S n=>obtain ⟨o,_,_,_,e,_⟩:=x;exact ⟨_,e⟩
  | ins C dx fs=>obtain ⟨_,_,_,e,_⟩:=x;exact ⟨_,e⟩
  | own y=>obtain ⟨_,e⟩:=x;exact ⟨_,e⟩
  | xd fs=>obtain ⟨_,⟨_,_,_,e,_⟩,_⟩:=x;exact ⟨_,e⟩
  | rng lo hi=>obtain ⟨_,_,_,e⟩:=x;exact ⟨_,e⟩
  | frz ob u=>obtain ⟨e,_⟩:=x;exact ⟨_,e⟩
  | tbl ps=>exact ⟨_,(show h.get? a = some _ from x)⟩
  | met f y=>exact ⟨_,(show h.get? a = some _ from x)⟩
  | ext φ=>obtain ⟨_,⟨_,e⟩,_⟩:=x;exact ⟨_,e⟩
theorem hok_at (x:HOk P w H h) (k:∀ b u o,H b = some o → h.get? b = some u → h'.get? b = some u):HOk P w H h':=fun a o e =>
  (x a o e).stay (fun b u hb q=>by
    rcases hb with rfl | hb
    · exact k _ u _ e q
    · exact k b u _ hb q) (fun _ q=>q) fun _ _ q=>q
end
noncomputable def CXE (P:Program) (w:World):CXT:=fun outer H s E ev s'=>∃ (ea:Addr) (cls a0:Value) (H':Hp) (B:Heap),ev = .ref ea ∧ s'.os = s.os ∧ AllBare s'.gens ∧ Un (frs outer) [] H H' s.heap s'.heap ∧ HOk P w H' s'.heap ∧
  s.heap.get? ea = none ∧ H' ea = none ∧ Heap.FlyingW B outer ea cls a0 s'.heap ∧ (∀ b o,s.heap.get? b = some o → b ∉ frs outer → ∃ u,B.get? b = some u) ∧ (∀ b o,H' b = some o → ∃ u,B.get? b = some u) ∧ E cls none H'
theorem passE0 {P:Program} {w:World} {X:Cx}:Passes (CXE P w) X E0:=fun _ _ _ _ _ _ _ ⟨_,_,_,_,_,_,_,_,_,_,_,_,_,_,_,z⟩=>z.elim
section
variable {P:Program} {w:World} {K:PySem.W.Frag} {mg:Str → Option Value} {base:Heap} {N:List Str} {qual:Str} {scope:Scope} {f:Addr} {cd:Value} {A:Around} {outer:List Env} {s₀:Shared} {H₀:Hp} {E:XK}
theorem not_frame {X:Cx} {pins:List (Addr × Obj)} {σ:L2.St} {H:Hp} {s:Shared} (I:Inv X pins σ H s) {b:Addr} {o:Obj} (e:X.s₀.heap.get? b = some o) (hb:b ∉ X.fs):b ∉ frs X.stack:=fun z=>by
  rcases List.mem_cons.mp (I.stkSub b z) with q | q
  · have:=Nat.lt_of_lt_of_le (Heap.lt_size e) I.ok.above
    rw [q] at this
    exact absurd this (Nat.lt_irrefl _)
  · exact hb q
theorem raise_xe {pins:List (Addr × Obj)} {σ:L2.St} {H:Hp} {s:Shared} {h':Heap} {e:Addr} {cls:Value} {args:List Value}
    (I:Inv (cxOf (CXE P w) P w K mg base N qual scope f cd A outer s₀ H₀ E) pins σ H s) (hx:Heap.MadeExcOf s.heap h' e cls args) (hE:E cls none H) :
    (cxOf (CXE P w) P w K mg base N qual scope f cd A outer s₀ H₀ E).xe (.ref e) { s with heap:=h' }:=by
  have hfs:(cxOf (CXE P w) P w K mg base N qual scope f cd A outer s₀ H₀ E).fs = frs outer:=rfl
  have hst:=I.stack
  have hin:∀ env ∈ (cxOf (CXE P w) P w K mg base N qual scope f cd A outer s₀ H₀ E).stack,∀ a,env.frame = some a → a ∈ frs (cxOf (CXE P w) P w K mg base N qual scope f cd A outer s₀ H₀ E).stack:=fun env he a ha=>List.mem_filterMap.mpr ⟨env,he,ha⟩
  have there:∀ b o,s₀.heap.get? b = some o → ∃ o',s.heap.get? b = some o':=fun b o q=>I.base.there b o q (fun z=>by cases z)
  refine wpAny_leaves_madeW (base:=hideAll s.heap (frs (cxOf (CXE P w) P w K mg base N qual scope f cd A outer s₀ H₀ E).stack)) (s:={ s with heap:=h' }) I.ok.frames rfl (fun b o q=>of_hideAll _ q) (funFrames_hide hst hin) hx fun h'' t x1 x2 x3 x4=>?_
  have keep:∀ b u,s.heap.get? b = some u → b ∉ frs (cxOf (CXE P w) P w K mg base N qual scope f cd A outer s₀ H₀ E).stack → h''.get? b = some u:=fun b u q hb=>x1.1 b u (hideAll_get _ q hb)
  have trk:∀ b o,H b = some o → b ∉ frs (cxOf (CXE P w) P w K mg base N qual scope f cd A outer s₀ H₀ E).stack:=fun b o q z=>by rw [I.stkFree b z] at q;cases q
  refine ⟨e,cls,.ref t,H,_,rfl,I.os,I.bare,⟨?_,?_,?_,?_,?_,?_,?_⟩,?_,?_,?_,x1,?_,?_,hE⟩
  · intro b o q n hb _
    exact keep b o (I.base.keep b o q n hb (fun z=>by cases z)) (not_frame I q hb)
  · intro b o q n hb _
    obtain ⟨sl,q2⟩:=I.base.slot b o q n hb (fun z=>by cases z)
    obtain ⟨_,o',ho',hd⟩:=I.funs.mem hb
    rw [q2] at ho';cases ho'
    obtain ⟨sl',q3⟩:=x4 b _ (hx.keeps b _ q2) hd
    exact ⟨sl',q3⟩
  · intro b o q n _
    exact I.base.free b o q n (fun z=>by cases z)
  · intro b o q _
    obtain ⟨o',q2⟩:=there b o q
    by_cases hb:b ∈ frs (cxOf (CXE P w) P w K mg base N qual scope f cd A outer s₀ H₀ E).stack
    · obtain ⟨_,o2,ho2,hd⟩:=hst.mem hb
      rw [q2] at ho2;cases ho2
      obtain ⟨sl',q3⟩:=x4 b _ (hx.keeps b _ q2) hd
      exact ⟨_,q3⟩
    · exact ⟨o',keep b o' q2 hb⟩
  · exact I.base.tups
  · exact I.base.frzs
  · exact I.base.tbls
  · exact hok_at I.hok fun b u o q1 q2=>keep b u q2 (trk b o q1)
  · cases q:s₀.heap.get? e with
    | none=>rfl
    | some o=>obtain ⟨o',q2⟩:=there e o q;rw [hx.new] at q2;cases q2
  · cases q:H e with
    | none=>rfl
    | some o=>obtain ⟨u,q2⟩:=objOk_obj (I.hok e o q);rw [hx.new] at q2;cases q2
  · intro b o q hb
    obtain ⟨o',q2⟩:=there b o q
    exact ⟨o',hideAll_get _ q2 (not_frame I q hb)⟩
  · intro b o q
    obtain ⟨u,q2⟩:=objOk_obj (I.hok b o q)
    exact ⟨u,hideAll_get _ q2 (trk b o q)⟩
theorem pass_xe:Passes (CXE P w) (cxOf (CXE P w) P w K mg base N qual scope f cd A outer s₀ H₀ E) E:=by
  rintro pins σ H s ev s' I ⟨ea,cls,a0,H',B,rfl,os,bare,un,hok,new,free,fl,hB,hT,hE⟩
  have there:∀ b o,s₀.heap.get? b = some o → ∃ o',s.heap.get? b = some o':=fun b o q=>I.base.there b o q (fun z=>by cases z)
  refine wpAny_leaves_onW I.ok.frames rfl fl fun h'' x1 x4=>?_
  have keepB:∀ b u,s'.heap.get? b = some u → (∃ v,B.get? b = some v) → h''.get? b = some u:=fun b u q ⟨v,hv⟩=>by
    have:=fl.1 b v hv
    rw [q] at this;cases this
    exact x1.1 b u hv
  have slots:∀ b u,s'.heap.get? b = some u → b ∈ frs (cxOf (CXE P w) P w K mg base N qual scope f cd A outer s₀ H₀ E).stack → ∃ sl,h''.get? b = some { u with slots:=sl }:=fun b u q hb=>by
    obtain ⟨_,o',ho',hd⟩:=fl.2.2.1.mem hb
    rw [q] at ho';cases ho'
    exact x4 b u q hd
  have sub:∀ b,b ∈ frs outer → b ∈ frs (cxOf (CXE P w) P w K mg base N qual scope f cd A outer s₀ H₀ E).stack:=fun b hb=>by
    obtain ⟨env,he,hf⟩:=List.mem_filterMap.mp hb
    exact List.mem_filterMap.mpr ⟨env,List.mem_cons_of_mem _ he,hf⟩
  refine ⟨ea,cls,a0,H',B,rfl,os.trans I.os,bare,⟨?_,?_,?_,?_,?_,?_,?_⟩,?_,?_,free,x1,?_,hT,hE⟩
  · intro b o q n hb _
    have q1:=I.base.keep b o q n hb (fun z=>by cases z)
    have n1:=I.base.free b o q n (fun z=>by cases z)
    have hb2:=not_frame I q hb
    exact keepB b o (un.keep b o q1 n1 hb2 (fun z=>by cases z)) (hB b o q1 hb2)
  · intro b o q n hb _
    obtain ⟨sl,q1⟩:=I.base.slot b o q n hb (fun z=>by cases z)
    have n1:=I.base.free b o q n (fun z=>by cases z)
    obtain ⟨sl2,q2⟩:=un.slot b _ q1 n1 (sub b hb) (fun z=>by cases z)
    obtain ⟨sl3,q3⟩:=slots b _ q2 (sub b hb)
    exact ⟨sl3,q3⟩
  · intro b o q n _
    obtain ⟨o',q1⟩:=there b o q
    exact un.free b o' q1 (I.base.free b o q n (fun z=>by cases z)) (fun z=>by cases z)
  · intro b o q _
    obtain ⟨o',q1⟩:=there b o q
    obtain ⟨o2,q2⟩:=un.there b o' q1 (fun z=>by cases z)
    by_cases hb:b ∈ frs (cxOf (CXE P w) P w K mg base N qual scope f cd A outer s₀ H₀ E).stack
    · obtain ⟨sl,q3⟩:=slots b o2 q2 hb
      exact ⟨_,q3⟩
    · exact ⟨o2,keepB b o2 q2 (hB b o' q1 hb)⟩
  · exact fun b xs q=>un.tups b xs (I.base.tups b xs q)
  · exact fun b o u q=>un.frzs b o u (I.base.frzs b o u q)
  · intro b ps q
    obtain ⟨m1,e1⟩:=I.base.tbls b ps q
    obtain ⟨m2,e2⟩:=un.tbls b _ e1
    exact ⟨m1 ++ m2,by rw [e2,Array.append_assoc]⟩
  · exact hok_at hok fun b u o q1 q2=>keepB b u q2 (hT b o q1)
  · cases q:s₀.heap.get? ea with
    | none=>rfl
    | some o=>obtain ⟨o',q2⟩:=there ea o q;rw [new] at q2;cases q2
  · intro b o q hb
    obtain ⟨o',q2⟩:=there b o q
    exact hB b o' q2 (not_frame I q hb)
end
end Tr
namespace Tr
open PySem PySem.Spec PyProof.Rows L2 PySem.W
noncomputable abbrev bmV:List Value:=[.type "ValueError", .type "Exception", .type "BaseException", .type "object"]
noncomputable abbrev OwnV (x:Str) (C:Addr) (mg:Str → Option Value) (h:Heap):Prop:=OwnCls x C bmV "ValueError.__new__" mg h
theorem ps_raise {X:Cx} {x:Str} {C:Addr} {np cpos pos:Pos} {e:Expr} {es:List Expr} {t:TA} {ER:Hp → Prop} (OC:OwnV x C X.mg X.base) (hg:Gl X x) (hc:X.calm = true) (ha:PA X (e :: es) t)
    (hxe:∀ (pins:List (Addr × Obj)) (σ:L2.St) (H:Hp) (s:Shared) (h':Heap) (a:Addr) (args:List Value),Inv X pins σ H s → Heap.MadeExcOf s.heap h' a (.ref C) args → ER H → X.xe (.ref a) { s with heap:=h' })
    (hdb:(x == ("__debug__" : Str)) = false) (he:starEach (e :: es) X.env = (false,eval e X.env) :: starEach es X.env) (hpl:(backTo cpos (starEach es X.env)).any (·.1) = false) :
    PS X (.Raise (some (.Call (.Name x np) (e :: es) [] cpos)) none pos) (fun _ σ H=>t σ H fun vs H1=>vs.length ≤ sizeLine ∧ ER H1):=by
  intro pins s σ H D I h
  obtain ⟨bm,N,nm,q,bs,hdct,sn,sub,ab,col,dd,k0,k1,k2,k3,k5,mN,hC,hN,hni,TL⟩:=OC.obj
  refine wpAny_Raise_call_subT (C:=C) (N:=N) (nm:=nm) (q:=q) (bs:=bs) (bm:=bm) (hdct:=hdct) (sn:=sn) (sub:=sub) (ab:=ab) (col:=col) (dd:=dd) (k0:=k0) (k1:=k1) (k2:=k2) (k3:=k3) (k5:=k5) (mN:=mN) PySem.F.excBase_ValueError (TL.hasType (by decide)) (I.ok.hd hc) ?_ hni ?_
  · rw [he]
    show (false || (backTo cpos (starEach es X.env)).any (·.1)) = false
    rw [hpl];rfl
  · refine ld_glob I hg OC.bound ⟨rfl,?_⟩ hdb
    have hA:=ha cpos pins s σ H _ I h
    rw [he] at hA ⊢
    refine Calls.evalArgs_plain (thn hA fun us s1 ⟨vs,H1,I1,r,hl,hE⟩=>?_)
    refine ⟨rfl,by rw [← r.length];exact hl,I1.bk _ _ hC,hN.keeps I1.bk,TL.keeps I1.bk,fun h' a hm=>?_⟩
    exact hxe pins σ H1 s1 h' a _ I1 hm hE
end Tr
namespace Tr
open PySem PySem.Spec PyProof.Rows L2 PySem.W
section
variable {M:Model} {A:Around} {E:Value → Shared → Prop} {h:Heap} {g:Array GenState} {d:Drawn} {t:Nat} {os:OsState}
variable {nm q:Str} {C N:Addr} {bs bm:List Value} {hdct:Bool} {sn:List Str} {sub:List Value} {ab:Bool} {col:Option Bool} {dd:Option Addr} {k0 k1 k2 k3 k5:Option Value} {newId:String}
variable {nm' q':Str} {C' N':Addr} {bs' bm':List Value} {hdct':Bool} {sn':List Str} {sub':List Value} {ab':Bool} {col':Option Bool} {dd':Option Addr} {k0' k1' k2' k3' k5':Option Value} {newId':String}
end
end Tr
namespace Tr
open PySem PySem.Spec PyProof.Rows L2 PySem.W
section
variable {X:Cx} {pins:List (Addr × Obj)} {σ:L2.St} {H:Hp} {s:Shared}
end
end Tr
namespace Tr
open PySem PySem.Spec PyProof.Rows L2 PySem.W
section
variable {X:Cx} {pins:List (Addr × Obj)} {σ:L2.St} {H:Hp} {s s':Shared}
end
end Tr
namespace Tr
open PySem PySem.Spec PyProof.Rows L2 PySem.W
noncomputable abbrev newV:String := "ValueError.__new__"
noncomputable def cvK (K:PySem.W.Frag) (c:Str):Value:=match nsIn K mainGlobals c with
  | some (some v)=>v
  | _=>.none
theorem ownObj {K:PySem.W.Frag} {h:Heap} {C:Addr} (Y:K.In h) (e:excIn K C bmV newV = true) :
    ∃ bm N nm q bs hdct sn sub ab col dd k0 k1 k2 k3 k5 mN,h.get? C = some (excClassObj nm q C N bs bm hdct sn sub ab col dd k0 k1 k2 k3 k5 newV) ∧ h.Ns N mN ∧ mN "__init__" = none ∧ OwnTail h bmV bm:=by
  unfold excIn at e
  split at e
  · rename_i dd cd sl ho
    split at e
    · rename_i C' bm k0 k1 k2 k3 n k5 hm hs
      rw [Bool.and_eq_true,Bool.and_eq_true,Bool.and_eq_true,Bool.and_eq_true,Bool.and_eq_true,beq_iff_eq,beq_iff_eq,beq_iff_eq,Bool.not_eq_true'] at e
      obtain ⟨⟨⟨⟨⟨e1,e2⟩,e3⟩,e4⟩,e5⟩,e6⟩:=e
      subst e1
      subst e2
      obtain ⟨nm,bs,mro,ns,qn,hd,sn,sub,ab,col,del⟩:=cd
      have z1:mro = .ref C' :: bm:=hm
      have z2:del = false:=e3
      subst z1
      subst z2
      have z3:sl = #[k0,k1,k2,k3,some (.builtin newV),k5]:=by
        cases sl
        exact congrArg Array.mk hs
      subst z3
      exact ⟨bm,ns,nm,qn,bs,hd,sn,sub,ab,col,dd,k0,k1,k2,k3,k5,_,Y _ _ ho,.of_isNs (isNs_of_in Y e5),nsMap_none_of_in Y e5 e6,tail_of_in Y e4⟩
    · cases e
  · cases e
structure ClsIs (K:PySem.W.Frag) (mg:Str → Option Value) (c:Str) (C:Addr):Prop where
  bound:mg c = some (.ref C)
  cv:cvK K c = .ref C
  exc:excIn K C bmV newV = true
theorem ClsIs.own {K:PySem.W.Frag} {mg:Str → Option Value} {c:Str} {C:Addr} {h:Heap} (x:ClsIs K mg c C) (Y:K.In h):OwnV c C mg h:=⟨x.bound,ownObj Y x.exc⟩
noncomputable def mroIn (K:PySem.W.Frag) (C CT:Addr):Bool:=match K.lookup C with
  | some ⟨_,_,.cls cd,_⟩=>cd.mro.contains (.ref CT)
  | _=>false
end Tr
namespace Tr
open PySem PySem.Spec PyProof.Rows L2 PySem.W Builtin Builtin.ObjectAttr Builtin.Getset_descriptor
section
variable {prog:Program} {w:World} {A:Around} {E:Value → Shared → Prop} {K:PySem.W.Frag} {a C:Addr} {o:Obj}
structure ExcCls (K:PySem.W.Frag) (C:Addr):Prop where
  ga:findIn K (.ref C) "__getattribute__" = some (some (.builtin "BaseException.__getattribute__"))
  hook:findIn K (.ref C) "__getattr__" = some none
  cl:findIn K (.ref C) "__class__" = some (some (.builtin "object.__class__"))
  gt:specialIn K (.builtin "object.__class__") "__get__" = some (some (.builtin "getset_descriptor.__get__"))
  tk:takesIn K (.builtin "object.__class__") = some true
  ob:PySem.W.mroIn K C (.type "object") = some true
  be:PySem.W.mroIn K C (.type "BaseException") = some true
end
end Tr
namespace Tr
open PySem PySem.Spec PyProof.Rows L2 PySem.W
section
variable {X:Cx} {pins:List (Addr × Obj)} {σ:L2.St} {H:Hp} {s:Shared}
end
section
variable {X:Cx} {body:List Stmt} {pos:Pos} {h₀:ExceptHandler} {hs:List ExceptHandler}
end
end Tr
namespace Tr
open PySem PySem.Spec PyProof.Rows L2
noncomputable def ModL (K:PySem.W.Frag) (a:Addr) (xs:List V):Prop :=
  ∃ (o:Obj) (its:Array Value) (n:Nat),K.lookup a = some o ∧ o.cls = .type "list" ∧ o.dict = none ∧ o.data = .seq its n ∧ its.size ≤ sizeLine ∧ Vals xs its.toList
noncomputable def DicO:HO → Prop
  | .dK _=>True
  | .dT _=>True
  | _=>False
mutual
noncomputable def RD (K:PySem.W.Frag) (H:Hp) (O:Addr → Prop):D → V → Prop
  | .non,v=>v = .non
  | .bl b,v=>v = .bl b
  | .int i,v=>v = .int i
  | .str x,v=>v = .str x
  | .tup ds,v=>∃ a xs,v = .ref a ∧ SqT K H a xs ∧ RDs K H O ds xs
  | .lst ds,v=>∃ a xs,v = .ref a ∧ ((¬ O a ∧ Rd H a (.lst xs)) ∨ ModL K a xs) ∧ RDs K H O ds xs
  | .dct kvs,v=>∃ a ps,v = .ref a ∧ (¬ O a ∧ H a = some (.dK ps)) ∧ RDk K H O kvs ps
  | .tdc kvs,v=>∃ a ps,v = .ref a ∧ (¬ O a ∧ H a = some (.dT ps)) ∧ RDt K H O kvs ps
noncomputable def RDs (K:PySem.W.Frag) (H:Hp) (O:Addr → Prop):List D → List V → Prop
  | [],xs=>xs = []
  | d :: ds,xs=>∃ v r,xs = v :: r ∧ RD K H O d v ∧ RDs K H O ds r
noncomputable def RDk (K:PySem.W.Frag) (H:Hp) (O:Addr → Prop):List (Sum Int Str × D) → List (Key × V) → Prop
  | [],xs=>xs = []
  | (k,d) :: ds,xs=>∃ v r,xs = (k,v) :: r ∧ RD K H O d v ∧ RDk K H O ds r
noncomputable def RDt (K:PySem.W.Frag) (H:Hp) (O:Addr → Prop):List (List (Sum Int Str) × D) → List (List Key × V) → Prop
  | [],xs=>xs = []
  | (k,d) :: ds,xs=>∃ v r,xs = (k,v) :: r ∧ RD K H O d v ∧ RDt K H O ds r
end
noncomputable def OwnAt (K:PySem.W.Frag) (H:Hp) (O:Addr → Prop) (a:Addr):D → Prop
  | .lst ds=>∃ xs,H a = some (.lst xs) ∧ RDs K H O ds xs
  | .dct kvs=>∃ ps,H a = some (.dK ps) ∧ RDk K H O kvs ps
  | .tdc kvs=>∃ ps,H a = some (.dT ps) ∧ RDt K H O kvs ps
  | _=>False
noncomputable def RR (K:PySem.W.Frag) (H:Hp) (O:Addr → Prop) (d:D) (v:V):Prop :=
  RD K H O d v ∨ ∃ a,v = .ref a ∧ OwnAt K H O a d
noncomputable def RRs (K:PySem.W.Frag) (H:Hp) (O:Addr → Prop):List D → List V → Prop
  | [],xs=>xs = []
  | d :: ds,xs=>∃ v r,xs = v :: r ∧ RR K H O d v ∧ RRs K H O ds r
section
variable {K:PySem.W.Frag} {H H':Hp} {O O':Addr → Prop}
mutual
theorem RD.map (ht:∀ a xs,SqT K H a xs → SqT K H' a xs) (hl:∀ a xs,¬ O a → Rd H a (.lst xs) → ¬ O' a ∧ Rd H' a (.lst xs)) (hd:∀ a o,DicO o → ¬ O a → H a = some o → ¬ O' a ∧ H' a = some o):∀ {d:D} {v:V},RD K H O d v → RD K H' O' d v
  | .non,_,h=>h
  | .bl _,_,h=>h
  | .int _,_,h=>h
  | .str _,_,h=>h
  | .tup ds,v,h=>by
    obtain ⟨a,xs,e,s,r⟩:=h
    exact ⟨a,xs,e,ht a xs s,RDs.map ht hl hd r⟩
  | .lst ds,v,h=>by
    obtain ⟨a,xs,e,s,r⟩:=h
    refine ⟨a,xs,e,?_,RDs.map ht hl hd r⟩
    rcases s with ⟨s1,s2⟩ | s
    · exact .inl (hl a xs s1 s2)
    · exact .inr s
  | .dct kvs,v,h=>by
    obtain ⟨a,ps,e,s,r⟩:=h
    exact ⟨a,ps,e,hd a _ trivial s.1 s.2,RDk.map ht hl hd r⟩
  | .tdc kvs,v,h=>by
    obtain ⟨a,ps,e,s,r⟩:=h
    exact ⟨a,ps,e,hd a _ trivial s.1 s.2,RDt.map ht hl hd r⟩
theorem RDs.map (ht:∀ a xs,SqT K H a xs → SqT K H' a xs) (hl:∀ a xs,¬ O a → Rd H a (.lst xs) → ¬ O' a ∧ Rd H' a (.lst xs)) (hd:∀ a o,DicO o → ¬ O a → H a = some o → ¬ O' a ∧ H' a = some o):∀ {ds:List D} {vs:List V},RDs K H O ds vs → RDs K H' O' ds vs
  | [],_,h=>h
  | d :: ds,vs,h=>by
    obtain ⟨v,r,e,h1,h2⟩:=h
    exact ⟨v,r,e,RD.map ht hl hd h1,RDs.map ht hl hd h2⟩
theorem RDk.map (ht:∀ a xs,SqT K H a xs → SqT K H' a xs) (hl:∀ a xs,¬ O a → Rd H a (.lst xs) → ¬ O' a ∧ Rd H' a (.lst xs)) (hd:∀ a o,DicO o → ¬ O a → H a = some o → ¬ O' a ∧ H' a = some o):∀ {ds:List (Sum Int Str × D)} {vs:List (Key × V)},RDk K H O ds vs → RDk K H' O' ds vs
  | [],_,h=>h
  | (k,d) :: ds,vs,h=>by
    obtain ⟨v,r,e,h1,h2⟩:=h
    exact ⟨v,r,e,RD.map ht hl hd h1,RDk.map ht hl hd h2⟩
theorem RDt.map (ht:∀ a xs,SqT K H a xs → SqT K H' a xs) (hl:∀ a xs,¬ O a → Rd H a (.lst xs) → ¬ O' a ∧ Rd H' a (.lst xs)) (hd:∀ a o,DicO o → ¬ O a → H a = some o → ¬ O' a ∧ H' a = some o):∀ {ds:List (List (Sum Int Str) × D)} {vs:List (List Key × V)},RDt K H O ds vs → RDt K H' O' ds vs
  | [],_,h=>h
  | (k,d) :: ds,vs,h=>by
    obtain ⟨v,r,e,h1,h2⟩:=h
    exact ⟨v,r,e,RD.map ht hl hd h1,RDt.map ht hl hd h2⟩
end
theorem Rd.same (s:Same H H') {a:Addr} {u:HO} (h:Rd H a u):Rd H' a u:=by
  rcases h with h | ⟨o,h⟩
  · exact .inl (s _ _ h)
  · exact .inr ⟨o,s _ _ h⟩
theorem SqT.same (s:Same H H') {a:Addr} {xs:List V} (h:SqT K H a xs):SqT K H' a xs:=by
  rcases h with h | h
  · exact .inl (Rd.same s h)
  · exact .inr h
theorem RD.same (s:Same H H') {d:D} {v:V} (h:RD K H O d v):RD K H' O d v:=RD.map (fun _ _ q=>SqT.same s q) (fun _ _ n q=>⟨n,Rd.same s q⟩) (fun _ _ _ n q=>⟨n,s _ _ q⟩) h
theorem RDk.same (s:Same H H') {d:List (Sum Int Str × D)} {v:List (Key × V)} (h:RDk K H O d v):RDk K H' O d v:=RDk.map (fun _ _ q=>SqT.same s q) (fun _ _ n q=>⟨n,Rd.same s q⟩) (fun _ _ _ n q=>⟨n,s _ _ q⟩) h
theorem RDt.same (s:Same H H') {d:List (List (Sum Int Str) × D)} {v:List (List Key × V)} (h:RDt K H O d v):RDt K H' O d v:=RDt.map (fun _ _ q=>SqT.same s q) (fun _ _ n q=>⟨n,Rd.same s q⟩) (fun _ _ _ n q=>⟨n,s _ _ q⟩) h
theorem RDs.same (s:Same H H') {d:List D} {v:List V} (h:RDs K H O d v):RDs K H' O d v:=RDs.map (fun _ _ q=>SqT.same s q) (fun _ _ n q=>⟨n,Rd.same s q⟩) (fun _ _ _ n q=>⟨n,s _ _ q⟩) h
theorem RD.weak (s:∀ a,O' a → O a) {d:D} {v:V} (h:RD K H O d v):RD K H O' d v:=RD.map (fun _ _ q=>q) (fun a _ n q=>⟨fun z=>n (s a z),q⟩) (fun a _ _ n q=>⟨fun z=>n (s a z),q⟩) h
theorem RDk.weak (s:∀ a,O' a → O a) {d:List (Sum Int Str × D)} {v:List (Key × V)} (h:RDk K H O d v):RDk K H O' d v:=RDk.map (fun _ _ q=>q) (fun a _ n q=>⟨fun z=>n (s a z),q⟩) (fun a _ _ n q=>⟨fun z=>n (s a z),q⟩) h
theorem RDt.weak (s:∀ a,O' a → O a) {d:List (List (Sum Int Str) × D)} {v:List (List Key × V)} (h:RDt K H O d v):RDt K H O' d v:=RDt.map (fun _ _ q=>q) (fun a _ n q=>⟨fun z=>n (s a z),q⟩) (fun a _ _ n q=>⟨fun z=>n (s a z),q⟩) h
theorem RDs.weak (s:∀ a,O' a → O a) {d:List D} {v:List V} (h:RDs K H O d v):RDs K H O' d v:=RDs.map (fun _ _ q=>q) (fun a _ n q=>⟨fun z=>n (s a z),q⟩) (fun a _ _ n q=>⟨fun z=>n (s a z),q⟩) h
noncomputable def plus (O:Addr → Prop) (p:Addr):Addr → Prop:=fun a=>O a ∨ a = p
noncomputable def minus (O:Addr → Prop) (p:Addr):Addr → Prop:=fun a=>O a ∧ a ≠ p
theorem Rd.ne {p a:Addr} {u:HO} (hp:H p = none) (h:Rd H a u):a ≠ p:=by
  rcases h with h | ⟨o,h⟩ <;> exact ne_of_none h hp
theorem RD.new {p:Addr} (hp:H p = none) {d:D} {v:V} (h:RD K H O d v):RD K H (plus O p) d v :=
  RD.map (fun _ _ q=>q) (fun a _ n q=>⟨fun z=>z.elim n (Rd.ne hp q),q⟩) (fun a _ _ n q=>⟨fun z=>z.elim n (ne_of_none q hp),q⟩) h
theorem RDk.new {p:Addr} (hp:H p = none) {d:List (Sum Int Str × D)} {v:List (Key × V)} (h:RDk K H O d v):RDk K H (plus O p) d v :=
  RDk.map (fun _ _ q=>q) (fun a _ n q=>⟨fun z=>z.elim n (Rd.ne hp q),q⟩) (fun a _ _ n q=>⟨fun z=>z.elim n (ne_of_none q hp),q⟩) h
theorem RDt.new {p:Addr} (hp:H p = none) {d:List (List (Sum Int Str) × D)} {v:List (List Key × V)} (h:RDt K H O d v):RDt K H (plus O p) d v :=
  RDt.map (fun _ _ q=>q) (fun a _ n q=>⟨fun z=>z.elim n (Rd.ne hp q),q⟩) (fun a _ _ n q=>⟨fun z=>z.elim n (ne_of_none q hp),q⟩) h
theorem RDs.new {p:Addr} (hp:H p = none) {d:List D} {v:List V} (h:RDs K H O d v):RDs K H (plus O p) d v :=
  RDs.map (fun _ _ q=>q) (fun a _ n q=>⟨fun z=>z.elim n (Rd.ne hp q),q⟩) (fun a _ _ n q=>⟨fun z=>z.elim n (ne_of_none q hp),q⟩) h
noncomputable def MutO:HO → Prop
  | .lst _=>True
  | .dK _=>True
  | .dT _=>True
  | _=>False
theorem Rd.upd_mut {p a:Addr} {u o o':HO} (hp:H p = some o) (hm:MutO o) (hu:u ≠ o) (h:Rd H a u):Rd (upd H p o') a u:=by
  rcases h with h | ⟨o1,h⟩
  · exact .inl (by rw [upd_ne (ne_of h hp hu)];exact h)
  · exact .inr ⟨o1,by rw [upd_ne (ne_of h hp (by intro z;subst z;exact hm))];exact h⟩
theorem upd_map {p:Addr} {o o':HO} (hO:O p) (hp:H p = some o) (hm:MutO o):(∀ a xs,SqT K H a xs → SqT K (upd H p o') a xs) ∧ (∀ a xs,¬ O a → Rd H a (.lst xs) → ¬ O a ∧ Rd (upd H p o') a (.lst xs)) ∧ ∀ a o1,DicO o1 → ¬ O a → H a = some o1 → ¬ O a ∧ upd H p o' a = some o1:=by
  refine ⟨fun a xs h=>?_,fun a xs n h=>⟨n,?_⟩,fun a ps _ n h=>⟨n,?_⟩⟩
  · rcases h with h | h
    · exact .inl (Rd.upd_mut hp hm (by intro z;subst z;exact hm) h)
    · exact .inr h
  · have e:a ≠ p:=fun z=>n (z ▸ hO)
    rcases h with h | ⟨o,h⟩
    · exact .inl (by rw [upd_ne e];exact h)
    · exact .inr ⟨o,by rw [upd_ne e];exact h⟩
  · have e:a ≠ p:=fun z=>n (z ▸ hO)
    rw [upd_ne e];exact h
theorem RD.updM {p:Addr} {o o':HO} (hO:O p) (hp:H p = some o) (hm:MutO o) {d:D} {v:V} (h:RD K H O d v):RD K (L2.upd H p o') O d v:=RD.map (upd_map (K:=K) hO hp hm).1 (upd_map (K:=K) hO hp hm).2.1 (upd_map (K:=K) hO hp hm).2.2 h
theorem RDs.updM {p:Addr} {o o':HO} (hO:O p) (hp:H p = some o) (hm:MutO o) {d:List D} {v:List V} (h:RDs K H O d v):RDs K (L2.upd H p o') O d v:=RDs.map (upd_map (K:=K) hO hp hm).1 (upd_map (K:=K) hO hp hm).2.1 (upd_map (K:=K) hO hp hm).2.2 h
theorem RDk.updM {p:Addr} {o o':HO} (hO:O p) (hp:H p = some o) (hm:MutO o) {d:List (Sum Int Str × D)} {v:List (Key × V)} (h:RDk K H O d v):RDk K (L2.upd H p o') O d v:=RDk.map (upd_map (K:=K) hO hp hm).1 (upd_map (K:=K) hO hp hm).2.1 (upd_map (K:=K) hO hp hm).2.2 h
theorem RDt.updM {p:Addr} {o o':HO} (hO:O p) (hp:H p = some o) (hm:MutO o) {d:List (List (Sum Int Str) × D)} {v:List (List Key × V)} (h:RDt K H O d v):RDt K (L2.upd H p o') O d v:=RDt.map (upd_map (K:=K) hO hp hm).1 (upd_map (K:=K) hO hp hm).2.1 (upd_map (K:=K) hO hp hm).2.2 h
theorem RD.upd {p:Addr} {ys zs:List V} (hO:O p) (hp:H p = some (.lst ys)) {d:D} {v:V} (h:RD K H O d v):RD K (L2.upd H p (.lst zs)) O d v:=RD.updM hO hp trivial h
theorem RDs.upd {p:Addr} {ys zs:List V} (hO:O p) (hp:H p = some (.lst ys)) {d:List D} {v:List V} (h:RDs K H O d v):RDs K (L2.upd H p (.lst zs)) O d v:=RDs.updM hO hp trivial h
mutual
theorem RD.flat:∀ {d:D} {v:V},d.flat = true → RD K H O d v → RD K H O' d v
  | .non,_,_,h=>h
  | .bl _,_,_,h=>h
  | .int _,_,_,h=>h
  | .str _,_,_,h=>h
  | .tup ds,v,f,h=>by
    obtain ⟨a,xs,e,s,r⟩:=h
    rw [D.flat] at f
    exact ⟨a,xs,e,s,RDs.flat f r⟩
  | .lst ds,v,f,_=>by rw [D.flat] at f;cases f
  | .dct _,_,f,_=>by rw [D.flat] at f;cases f
  | .tdc _,_,f,_=>by rw [D.flat] at f;cases f
theorem RDs.flat:∀ {ds:List D} {vs:List V},D.flats ds = true → RDs K H O ds vs → RDs K H O' ds vs
  | [],_,_,h=>h
  | d :: ds,vs,f,h=>by
    obtain ⟨v,r,e,h1,h2⟩:=h
    rw [D.flats,Bool.and_eq_true] at f
    exact ⟨v,r,e,RD.flat f.1 h1,RDs.flat f.2 h2⟩
end
theorem RDs.length:∀ {ds:List D} {vs:List V},RDs K H O ds vs → vs.length = ds.length
  | [],_,h=>by rw [RDs] at h;rw [h];rfl
  | d :: ds,vs,h=>by
    obtain ⟨v,r,e,_,h2⟩:=h
    rw [e,List.length_cons,List.length_cons,RDs.length h2]
theorem RDs.get:∀ {ds:List D} {vs:List V} {i:Nat} {d:D},RDs K H O ds vs → ds[i]? = some d → ∃ v,vs[i]? = some v ∧ RD K H O d v
  | [],_,_,_,_,e=>by simp at e
  | d :: ds,vs,0,d',h,e=>by
    obtain ⟨v,r,rfl,h1,_⟩:=h
    simp at e;subst e
    exact ⟨v,rfl,h1⟩
  | d :: ds,vs,i + 1,d',h,e=>by
    obtain ⟨v,r,rfl,_,h2⟩:=h
    obtain ⟨w,h3,h4⟩:=RDs.get (i:=i) h2 (by simpa using e)
    exact ⟨w,by simpa using h3,h4⟩
theorem RDs.append:∀ {ds es:List D} {vs ws:List V},RDs K H O ds vs → RDs K H O es ws → RDs K H O (ds ++ es) (vs ++ ws)
  | [],_,_,_,h,g=>by rw [RDs] at h;subst h;exact g
  | d :: ds,es,vs,ws,h,g=>by
    obtain ⟨v,r,rfl,h1,h2⟩:=h
    exact ⟨v,r ++ ws,rfl,h1,RDs.append h2 g⟩
theorem RDs.drop:∀ {ds:List D} {vs:List V} (n:Nat),RDs K H O ds vs → RDs K H O (ds.drop n) (vs.drop n)
  | _,_,0,h=>h
  | [],_,n + 1,h=>by rw [RDs] at h;subst h;exact rfl
  | d :: ds,vs,n + 1,h=>by
    obtain ⟨v,r,rfl,_,h2⟩:=h
    exact RDs.drop n h2
theorem RDs.take:∀ {ds:List D} {vs:List V} (n:Nat),RDs K H O ds vs → RDs K H O (ds.take n) (vs.take n)
  | _,_,0,_=>by simp [RDs]
  | [],_,n + 1,h=>by rw [RDs] at h;subst h;simp [RDs]
  | d :: ds,vs,n + 1,h=>by
    obtain ⟨v,r,rfl,h1,h2⟩:=h
    exact ⟨v,r.take n,rfl,h1,RDs.take n h2⟩
theorem RDs.cut {ds:List D} {vs:List V} (lo hi:Option Int) (h:RDs K H O ds vs):RDs K H O (Tr.cut ds lo hi) (cutV vs lo hi):=by
  have e:=RDs.length h
  unfold Tr.cut cutV
  rw [e]
  exact RDs.take _ (RDs.drop _ h)
theorem RDs.cons {d:D} {v:V} {ds:List D} {vs:List V} (h:RD K H O d v) (r:RDs K H O ds vs):RDs K H O (d :: ds) (v :: vs):=⟨v,vs,rfl,h,r⟩
theorem RDs.nil:RDs K H O [] []:=rfl
theorem RDk.length:∀ {ds:List (Sum Int Str × D)} {vs:List (Key × V)},RDk K H O ds vs → vs.length = ds.length
  | [],_,h=>by rw [RDk] at h;rw [h];rfl
  | (k,d) :: ds,vs,h=>by
    obtain ⟨v,r,e,_,h2⟩:=h
    rw [e,List.length_cons,List.length_cons,RDk.length h2]
theorem RD.rr {d:D} {v:V} (h:RD K H O d v):RR K H O d v:=.inl h
theorem RDs.rr:∀ {ds:List D} {vs:List V},RDs K H O ds vs → RRs K H O ds vs
  | [],_,h=>h
  | d :: ds,vs,h=>by
    obtain ⟨v,r,e,h1,h2⟩:=h
    exact ⟨v,r,e,.inl h1,RDs.rr h2⟩
theorem OwnAt.map (hs:∀ {d v},RDs K H O d v → RDs K H' O' d v) (hk:∀ {d v},RDk K H O d v → RDk K H' O' d v) (hk2:∀ {d v},RDt K H O d v → RDt K H' O' d v) {a:Addr} (ho:∀ o,MutO o → H a = some o → H' a = some o):∀ {d:D},OwnAt K H O a d → OwnAt K H' O' a d
  | .lst ds,⟨xs,h1,h2⟩=>⟨xs,ho _ trivial h1,hs h2⟩
  | .dct ds,⟨xs,h1,h2⟩=>⟨xs,ho _ trivial h1,hk h2⟩
  | .tdc ds,⟨xs,h1,h2⟩=>⟨xs,ho _ trivial h1,hk2 h2⟩
  | .non,h | .bl _,h | .int _,h | .str _,h | .tup _,h=>h.elim
theorem OwnAt.same (s:Same H H') {a:Addr} {d:D} (h:OwnAt K H O a d):OwnAt K H' O a d:=OwnAt.map (fun q=>q.same s) (fun q=>q.same s) (fun q=>q.same s) (fun _ _ q=>s _ _ q) h
theorem OwnAt.new {p:Addr} (hp:H p = none) {a:Addr} {d:D} (h:OwnAt K H O a d):OwnAt K H (plus O p) a d:=OwnAt.map (fun q=>q.new hp) (fun q=>q.new hp) (fun q=>q.new hp) (fun _ _ q=>q) h
theorem OwnAt.weak (s:∀ a,O' a → O a) {a:Addr} {d:D} (h:OwnAt K H O a d):OwnAt K H O' a d:=OwnAt.map (fun q=>q.weak s) (fun q=>q.weak s) (fun q=>q.weak s) (fun _ _ q=>q) h
theorem OwnAt.updM {p:Addr} {o o':HO} (hO:O p) (hp:H p = some o) (hm:MutO o) {a:Addr} (hne:a ≠ p) {d:D} (h:OwnAt K H O a d):OwnAt K (L2.upd H p o') O a d:=OwnAt.map (fun q=>q.updM hO hp hm) (fun q=>q.updM hO hp hm) (fun q=>q.updM hO hp hm) (fun _ _ q=>by rw [upd_ne hne];exact q) h
theorem OwnAt.obj {a:Addr}:∀ {d:D},OwnAt K H O a d → ∃ o,H a = some o ∧ MutO o
  | .lst ds,⟨xs,h1,h2⟩=>⟨_,h1,trivial⟩
  | .dct ds,⟨xs,h1,h2⟩=>⟨_,h1,trivial⟩
  | .tdc ds,⟨xs,h1,h2⟩=>⟨_,h1,trivial⟩
  | .non,h | .bl _,h | .int _,h | .str _,h | .tup _,h=>h.elim
theorem OwnAt.rd {a:Addr} (hn:¬ O a):∀ {d:D},OwnAt K H O a d → RD K H O d (.ref a)
  | .lst ds,⟨xs,h1,h2⟩=>⟨a,xs,rfl,.inl ⟨hn,.inl h1⟩,h2⟩
  | .dct ds,⟨xs,h1,h2⟩=>⟨a,xs,rfl,⟨hn,h1⟩,h2⟩
  | .tdc ds,⟨xs,h1,h2⟩=>⟨a,xs,rfl,⟨hn,h1⟩,h2⟩
  | .non,h | .bl _,h | .int _,h | .str _,h | .tup _,h=>h.elim
theorem RR.same (s:Same H H') {d:D} {v:V} (h:RR K H O d v):RR K H' O d v:=by
  rcases h with h | ⟨a,e,h⟩
  · exact .inl (h.same s)
  · exact .inr ⟨a,e,h.same s⟩
theorem RR.bare {d:D} {v:V} (h:RR K H O d v):RD K H (fun _=>False) d v:=by
  rcases h with h | ⟨a,rfl,h⟩
  · exact h.weak fun _ z=>z.elim
  · exact OwnAt.rd (fun z=>z) (h.weak fun _ z=>z.elim)
theorem RR.lst {ds:List D} {v:V} (h:RR K H O (.lst ds) v):∃ a xs,v = .ref a ∧ SqL K H a xs ∧ RDs K H O ds xs:=by
  rcases h with ⟨a,xs,e,s,r⟩ | ⟨a,e,xs,h1,h2⟩
  · refine ⟨a,xs,e,?_,r⟩
    rcases s with ⟨_,s⟩ | s
    · exact .inl s
    · exact .inr s
  · exact ⟨a,xs,e,.of h1,h2⟩
theorem RR.dct {kvs:List (Sum Int Str × D)} {v:V} (h:RR K H O (.dct kvs) v):∃ a ps,v = .ref a ∧ H a = some (.dK ps) ∧ RDk K H O kvs ps:=by
  rcases h with ⟨a,ps,e,s,r⟩ | ⟨a,e,ps,h1,h2⟩
  · exact ⟨a,ps,e,s.2,r⟩
  · exact ⟨a,ps,e,h1,h2⟩
theorem RR.tup {ds:List D} {v:V} (h:RR K H O (.tup ds) v):∃ a xs,v = .ref a ∧ SqT K H a xs ∧ RDs K H O ds xs:=by
  rcases h with h | ⟨a,e,h⟩
  · exact h
  · exact h.elim
noncomputable def D.still:D → Bool
  | .lst _=>false
  | .dct _=>false
  | .tdc _=>false
  | _=>true
theorem RR.rd {d:D} {v:V} (h:RR K H O d v) (n:d.still = true):RD K H O d v:=by
  rcases h with h | ⟨a,e,h⟩
  · exact h
  · cases d with
    | lst _=>cases n
    | dct _=>cases n
    | tdc _=>cases n
    | non=>exact h.elim
    | bl _=>exact h.elim
    | int _=>exact h.elim
    | str _=>exact h.elim
    | tup _=>exact h.elim
end
noncomputable def RS (K:PySem.W.Frag) (H:Hp) (O:Addr → Prop) (own:Option Addr):Sl → Option V → Prop
  | .no,_=>True
  | .v d,ov=>∃ v,ov = some v ∧ RD K H O d v
  | .o d,ov=>∃ a,own = some a ∧ ov = some (.ref a) ∧ OwnAt K H O a d
  | .t ds,ov=>∃ t p ys vs a r,own = some p ∧ ov = some (.ref t) ∧ ds = .lst a :: r ∧ SqT K H t (.ref p :: vs) ∧ H p = some (.lst ys) ∧ RDs K H O a ys ∧ RDs K H O r vs
noncomputable def stAt (σ:L2.St) (i:Nat):Option V:=(σ[i]?).join
set_option genInjectivity false in
structure Fm (K:PySem.W.Frag) (H₀:Hp) (O₀:Addr → Prop) (H:Hp) (O:Addr → Prop) (own:Nat → Option Addr) (e:Nv) (σ:L2.St):Prop where
  len:e.length = σ.length
  sl:∀ i,RS K H O (own i) (e.at i) (stAt σ i)
  inj:∀ i j a,own i = some a → own j = some a → i = j
  same:Same H₀ H
  sub:∀ a,O₀ a → O a
  trk0:∀ a,O₀ a → ∃ o,H₀ a = some o
  trk:∀ a,O a → ∃ o,H a = some o
  new:∀ i a,own i = some a → O a ∧ H₀ a = none
section
variable {K:PySem.W.Frag} {H₀ H H':Hp} {O₀ O O':Addr → Prop} {own:Nat → Option Addr} {e:Nv} {σ:L2.St}
theorem RS.same (s:Same H H') {o:Option Addr} {x:Sl} {ov:Option V} (h:RS K H O o x ov):RS K H' O o x ov:=by
  cases x with
  | no=>trivial
  | v d=>obtain ⟨v,e,r⟩:=h;exact ⟨v,e,r.same s⟩
  | o d=>obtain ⟨a,e1,e2,h⟩:=h;exact ⟨a,e1,e2,h.same s⟩
  | t ds=>obtain ⟨t,p,ys,vs,a,r,e1,e2,e3,h1,h2,h3,h4⟩:=h;exact ⟨t,p,ys,vs,a,r,e1,e2,e3,SqT.same s h1,s _ _ h2,h3.same s,h4.same s⟩
theorem Fm.grow (F:Fm K H₀ O₀ H O own e σ) (s:Same H H'):Fm K H₀ O₀ H' O own e σ :=
  ⟨F.len,fun i=>(F.sl i).same s,F.inj,F.same.trans s,F.sub,F.trk0,fun a h=>let ⟨xs,q⟩:=F.trk a h;⟨xs,s _ _ q⟩,F.new⟩
end
end Tr
namespace Tr
open PySem PySem.Spec PyProof.Rows L2
section
variable {K:PySem.W.Frag} {H₀ H H':Hp} {O₀ O O':Addr → Prop} {own:Nat → Option Addr} {e:Nv} {σ:L2.St}
theorem at_set_same {e:Nv} {i:Nat} {x:Sl} (h:i < e.length):Nv.at (e.set i x) i = x:=by
  unfold Nv.at;rw [List.getElem?_set_self h];rfl
theorem at_set_ne {e:Nv} {i j:Nat} {x:Sl} (h:i ≠ j):Nv.at (e.set i x) j = Nv.at e j:=by
  unfold Nv.at;rw [List.getElem?_set_ne h]
theorem at_out {e:Nv} {i:Nat} (h:¬ i < e.length):Nv.at e i = .no:=by
  unfold Nv.at;rw [List.getElem?_eq_none (by (first | lia | omega))];rfl
theorem st_set_same {σ:L2.St} {i:Nat} {v:V} (h:i < σ.length):stAt (σ.set i (some v)) i = some v:=by
  unfold stAt;rw [List.getElem?_set_self h];rfl
theorem st_set_ne {σ:L2.St} {i j:Nat} {v:Option V} (h:i ≠ j):stAt (σ.set i v) j = stAt σ j:=by
  unfold stAt;rw [List.getElem?_set_ne h]
theorem st_get {σ:L2.St} {i:Nat} {v:V} (h:stAt σ i = some v):σ[i]? = some (some v):=by
  unfold stAt at h
  cases q:σ[i]? with
  | none=>rw [q] at h;cases h
  | some o=>rw [q] at h;cases o with
    | none=>cases h
    | some w=>cases h;rfl
theorem RS.map (ht:∀ {d v},RD K H O d v → RD K H' O' d v) (hs:∀ {d v},RDs K H O d v → RDs K H' O' d v) (hk:∀ {d v},RDk K H O d v → RDk K H' O' d v) (hk2:∀ {d v},RDt K H O d v → RDt K H' O' d v) {o:Option Addr} (ho:∀ a u,o = some a → MutO u → H a = some u → H' a = some u) {x:Sl} {ov:Option V} (h:RS K H O o x ov) (hq:∀ a xs,SqT K H a xs → SqT K H' a xs:=by first | exact fun _ _ q => q | exact fun _ _ q => SqT.same (by assumption) q):RS K H' O' o x ov:=by
  cases x with
  | no=>trivial
  | v d=>obtain ⟨v,e,r⟩:=h;exact ⟨v,e,ht r⟩
  | o d=>obtain ⟨a,e1,e2,h⟩:=h;exact ⟨a,e1,e2,h.map hs hk hk2 fun u hm q=>ho a u e1 hm q⟩
  | t ds=>obtain ⟨t,p,ys,vs,a,r,e1,e2,e3,h1,h2,h3,h4⟩:=h;exact ⟨t,p,ys,vs,a,r,e1,e2,e3,hq _ _ h1,ho p _ e1 trivial h2,hs h3,hs h4⟩
theorem Fm.setV (F:Fm K H₀ O₀ H O own e σ) (i:Nat) {d:D} {v:V} (r:RD K H O d v):Fm K H₀ O₀ H O (fun j=>if j = i then none else own j) (e.set i (.v d)) (σ.set i (some v)) where
  len:=by rw [List.length_set,List.length_set];exact F.len
  sl:=fun j=>by
    by_cases h:i = j
    · subst h
      by_cases hi:i < e.length
      · rw [at_set_same hi,st_set_same (by rw [← F.len];exact hi)];exact ⟨v,rfl,r⟩
      · rw [at_out (by rw [List.length_set];exact hi)];trivial
    · rw [at_set_ne h,st_set_ne h,if_neg (Ne.symm h)];exact F.sl j
  inj:=fun j k a h1 h2=>by
    by_cases h:j = i
    · rw [if_pos h] at h1;cases h1
    · by_cases h':k = i
      · rw [if_pos h'] at h2;cases h2
      · rw [if_neg h] at h1;rw [if_neg h'] at h2;exact F.inj j k a h1 h2
  same:=F.same
  sub:=F.sub
  trk0:=F.trk0
  trk:=F.trk
  new:=fun j a h1=>by
    by_cases h:j = i
    · rw [if_pos h] at h1;cases h1
    · rw [if_neg h] at h1;exact F.new j a h1
theorem Fm.setO (F:Fm K H₀ O₀ H O own e σ) (s:Same H H') (i:Nat) {d:D} {p:Addr} (hp:H p = none) (r:OwnAt K H' (plus O p) p d) :
    Fm K H₀ O₀ H' (plus O p) (fun j=>if j = i then some p else own j) (e.set i (.o d)) (σ.set i (some (.ref p))) where
  len:=by rw [List.length_set,List.length_set];exact F.len
  sl:=fun j=>by
    by_cases h:i = j
    · subst h
      rw [if_pos rfl]
      by_cases hi:i < e.length
      · rw [at_set_same hi,st_set_same (by rw [← F.len];exact hi)];exact ⟨p,rfl,rfl,r⟩
      · rw [at_out (by rw [List.length_set];exact hi)];trivial
    · rw [at_set_ne h,st_set_ne h,if_neg (Ne.symm h)]
      exact RS.map (fun q=>(q.new hp).same s) (fun q=>(q.new hp).same s) (fun q=>(q.new hp).same s) (fun q=>(q.new hp).same s) (fun a u _ _ q=>s _ _ q) (F.sl j)
  inj:=fun j k a h1 h2=>by
    have no:∀ j,own j ≠ some p:=fun j q=>by
      obtain ⟨xs,w⟩:=F.trk p (F.new j p q).1
      rw [hp] at w;cases w
    by_cases h:j = i
    · rw [if_pos h] at h1
      cases h1
      by_cases h':k = i
      · rw [h,h']
      · rw [if_neg h'] at h2;exact absurd h2 (no k)
    · rw [if_neg h] at h1
      by_cases h':k = i
      · rw [if_pos h'] at h2;cases h2;exact absurd h1 (no j)
      · rw [if_neg h'] at h2;exact F.inj j k a h1 h2
  same:=F.same.trans s
  sub:=fun a h=>.inl (F.sub a h)
  trk0:=F.trk0
  trk:=fun a h=>by
    rcases h with h | h
    · obtain ⟨ys,q⟩:=F.trk a h
      exact ⟨ys,s _ _ q⟩
    · subst h
      obtain ⟨o,h1,_⟩:=r.obj
      exact ⟨o,h1⟩
  new:=fun j a h1=>by
    by_cases h:j = i
    · rw [if_pos h] at h1;cases h1;exact ⟨.inr rfl,F.same.free hp⟩
    · rw [if_neg h] at h1;exact ⟨.inl (F.new j a h1).1,(F.new j a h1).2⟩
theorem Fm.mutA (F:Fm K H₀ O₀ H O own e σ) (i:Nat) {d:D} (hi:e.at i = .o d):∃ p,stAt σ i = some (.ref p) ∧ OwnAt K H O p d ∧ O p ∧
    ∀ d' o',(∀ o,H p = some o → OwnAt K (upd H p o') O p d') → Fm K H₀ O₀ (upd H p o') O own (e.set i (.o d')) σ:=by
  have q:=F.sl i
  rw [hi] at q
  obtain ⟨p,e1,e2,h1⟩:=q
  obtain ⟨o,ho,hm⟩:=h1.obj
  have hn:=F.new i p e1
  refine ⟨p,e2,h1,hn.1,fun d' o' r=>?_⟩
  have hlen:i < e.length:=by
    by_cases h:i < e.length
    · exact h
    · rw [at_out h] at hi;cases hi
  refine ⟨by rw [List.length_set];exact F.len,fun j=>?_,F.inj,fun b u hb=>?_,F.sub,F.trk0,fun a ha=>?_,F.new⟩
  · by_cases h:i = j
    · subst h
      rw [at_set_same hlen,e2]
      exact ⟨p,e1,rfl,r o ho⟩
    · rw [at_set_ne h]
      refine RS.map (fun q=>q.updM hn.1 ho hm) (fun q=>q.updM hn.1 ho hm) (fun q=>q.updM hn.1 ho hm) (fun q=>q.updM hn.1 ho hm) (fun a u ea _ q=>?_) (F.sl j) (upd_map (K:=K) hn.1 ho hm).1
      have:a ≠ p:=fun z=>h (F.inj i j p e1 (z ▸ ea))
      rw [upd_ne this];exact q
  · rw [upd_ne (fun z=>by rw [z,hn.2] at hb;cases hb)];exact F.same b u hb
  · by_cases h:a = p
    · subst h;exact ⟨_,upd_same⟩
    · obtain ⟨ys,q⟩:=F.trk a ha
      exact ⟨ys,by rw [upd_ne h];exact q⟩
theorem Fm.mut (F:Fm K H₀ O₀ H O own e σ) (i:Nat) {ds:List D} (hi:e.at i = .o (.lst ds)):∃ p xs,stAt σ i = some (.ref p) ∧ H p = some (.lst xs) ∧ RDs K H O ds xs ∧ O p ∧
    ∀ ds' xs',RDs K H O ds' xs' → Fm K H₀ O₀ (upd H p (.lst xs')) O own (e.set i (.o (.lst ds'))) σ:=by
  obtain ⟨p,e2,⟨xs,h1,h2⟩,hO,k⟩:=F.mutA i hi
  exact ⟨p,xs,e2,h1,h2,hO,fun ds' xs' r=>k (.lst ds') (.lst xs') fun _ _=>⟨xs',upd_same,r.upd hO h1⟩⟩
theorem Fm.seal (F:Fm K H₀ O₀ H O own e σ) (i:Nat) {d:D} (hi:e.at i = .o d):∃ O' own',Fm K H₀ O₀ H O' own' (e.set i (.v d)) σ ∧ ∀ a,O' a → O a:=by
  have q:=F.sl i
  rw [hi] at q
  obtain ⟨p,e1,e2,h1⟩:=q
  have hn:=F.new i p e1
  have hlen:i < e.length:=by
    by_cases h:i < e.length
    · exact h
    · rw [at_out h] at hi;cases hi
  refine ⟨minus O p,fun j=>if j = i then none else own j,⟨by rw [List.length_set];exact F.len,fun j=>?_,fun j k a q1 q2=>?_,F.same,fun a ha=>⟨F.sub a ha,fun z=>?_⟩,F.trk0,fun a ha=>F.trk a ha.1,fun j a q1=>?_⟩,fun a ha=>ha.1⟩
  · by_cases h:i = j
    · subst h
      rw [at_set_same hlen,e2]
      exact ⟨.ref p,rfl,OwnAt.rd (fun z=>z.2 rfl) (h1.weak fun _ z=>z.1)⟩
    · rw [at_set_ne h,if_neg (Ne.symm h)]
      exact RS.map (fun q=>q.weak fun _ z=>z.1) (fun q=>q.weak fun _ z=>z.1) (fun q=>q.weak fun _ z=>z.1) (fun q=>q.weak fun _ z=>z.1) (fun a ys _ _ q=>q) (F.sl j)
  · by_cases h:j = i
    · rw [if_pos h] at q1;cases q1
    · by_cases h':k = i
      · rw [if_pos h'] at q2;cases q2
      · rw [if_neg h] at q1;rw [if_neg h'] at q2;exact F.inj j k a q1 q2
  · obtain ⟨o,w⟩:=F.trk0 a ha
    rw [z,hn.2] at w;cases w
  · by_cases h:j = i
    · rw [if_pos h] at q1;cases q1
    · rw [if_neg h] at q1
      exact ⟨⟨(F.new j a q1).1,fun z=>h (F.inj j i p (z ▸ q1) e1)⟩,(F.new j a q1).2⟩
theorem Fm.val (F:Fm K H₀ O₀ H O own e σ) {i:Nat} {d:D} (h:(e.at i).val = .ok d):∃ v,σ[i]? = some (some v) ∧ RD K H O d v:=by
  have q:=F.sl i
  cases z:e.at i with
  | no=>rw [z] at h;cases h
  | o d=>rw [z] at h;cases h
  | t d=>rw [z] at h;cases h
  | v d' =>
    rw [z] at h q
    cases h
    obtain ⟨v,e1,r⟩:=q
    exact ⟨v,st_get e1,r⟩
theorem Fm.any (F:Fm K H₀ O₀ H O own e σ) {i:Nat} {d:D} (h:(e.at i).any = .ok d):∃ v,σ[i]? = some (some v) ∧ RR K H O d v:=by
  have q:=F.sl i
  cases z:e.at i with
  | no=>rw [z] at h;cases h
  | t d=>rw [z] at h;cases h
  | o d' =>
    rw [z] at h q
    cases h
    obtain ⟨a,e1,e2,h1⟩:=q
    exact ⟨.ref a,st_get e2,.inr ⟨a,rfl,h1⟩⟩
  | v d' =>
    rw [z] at h q
    cases h
    obtain ⟨v,e1,r⟩:=q
    exact ⟨v,st_get e1,.inl r⟩
theorem Sl.own_ok {x:Sl} {a:List D} (h:x.own = .ok a):x = .o (.lst a):=by
  unfold Sl.own at h
  split at h
  · cases h;rfl
  · cases h
theorem Sl.ownP_ok {x:Sl} {a:List D} (h:x.ownP = .ok a):x = .t a:=by
  unfold Sl.ownP at h
  split at h
  · cases h;rfl
  · cases h
theorem Sl.ownA_ok {x:Sl} {a:D} (h:x.ownA = .ok a):x = .o a:=by
  unfold Sl.ownA at h
  split at h
  · cases h;rfl
  · cases h
end
noncomputable def NewL (K:PySem.W.Frag) (H H':Hp) (O:Addr → Prop) (d:D) (v:V):Prop:=d.still = false → ∃ a,v = .ref a ∧ H a = none ∧ OwnAt K H' (plus O a) a d
theorem NewL.back {K:PySem.W.Frag} {H1 H H':Hp} {O:Addr → Prop} {d:D} {v:V} (s:Same H1 H) (n:NewL K H H' O d v):NewL K H1 H' O d v:=fun z=>by
  obtain ⟨a,h1,h2,h3⟩:=n z
  exact ⟨a,h1,s.free h2,h3⟩
theorem NewL.weak {K:PySem.W.Frag} {H H':Hp} {O O':Addr → Prop} {d:D} {v:V} (s:∀ a,O' a → O a) (n:NewL K H H' O d v):NewL K H H' O' d v:=fun z=>by
  obtain ⟨a,h1,h2,h3⟩:=n z
  exact ⟨a,h1,h2,h3.weak fun b hb=>hb.imp (s b) id⟩
theorem NewL.still {K:PySem.W.Frag} {H H':Hp} {O:Addr → Prop} {d:D} {v:V} (h:d.still = true):NewL K H H' O d v:=fun z=>by rw [h] at z;cases z
noncomputable def NewR (K:PySem.W.Frag) (H H':Hp) (O:Addr → Prop) (d:D) (v:V):Prop:=NewL K H H' O d v ∧ ∀ a r,d = .tup (.lst a :: r) → ∃ t p ys vs,v = .ref t ∧ SqT K H' t (.ref p :: vs) ∧ H p = none ∧ H' p = some (.lst ys) ∧ RDs K H' (plus O p) a ys ∧ RDs K H' (plus O p) r vs
theorem NewR.of {K:PySem.W.Frag} {H H':Hp} {O:Addr → Prop} {d:D} {v:V} (n:NewL K H H' O d v) (h:tupL d = false):NewR K H H' O d v:=⟨n,fun a r z=>by subst z;cases h⟩
section
variable (T:Tab) (cf:Nat → List D → Res D) (K:PySem.W.Frag) (H₀:Hp) (O₀:Addr → Prop)
noncomputable def tE (x:E):TE:=fun σ H Q=>∃ O own e d,Fm K H₀ O₀ H O own e σ ∧ evE T cf x e = .ok d ∧ ∀ v H',Same H H' → RD K H' O d v → (freshE T x = true → NewL K H H' O d v) → Q v H'
noncomputable def tR (x:E):TE:=fun σ H Q=>∃ O own e d,Fm K H₀ O₀ H O own e σ ∧ evE T cf x e = .ok d ∧ ∀ v H',Same H H' → RR K H' O d v → Q v H'
noncomputable def tT (x:E):TT:=fun σ H Q=>∃ O own e d k,Fm K H₀ O₀ H O own e σ ∧ evE T cf x e = .ok d ∧ d.truth = .ok k ∧ ∀ H',Same H H' → Q k H'
noncomputable def tAv (x:E):TA:=fun σ H Q=>∃ O own e ds,Fm K H₀ O₀ H O own e σ ∧ evA T cf x e = .ok ds ∧ ∀ vs H',Same H H' → RDs K H' O ds vs → Q vs H'
noncomputable def tAr (x:E):TA:=fun σ H Q=>∃ O own e ds,Fm K H₀ O₀ H O own e σ ∧ evA T cf x e = .ok ds ∧ ∀ vs H',Same H H' → RRs K H' O ds vs → Q vs H'
end
section
variable (T:Tab) (cf:Nat → List D → Res D) (X:Cx)
noncomputable def SE (x:E) (p:Expr):Prop:=∀ H₀ O₀,PE X p (tE T cf X.K H₀ O₀ x)
noncomputable def SR (x:E) (p:Expr):Prop:=∀ H₀ O₀,PE X p (tR T cf X.K H₀ O₀ x)
noncomputable def ST (x:E) (p:Expr):Prop:=∀ H₀ O₀,PT X p (tT T cf X.K H₀ O₀ x)
noncomputable def SAv (x:E) (p:List Expr):Prop:=∀ H₀ O₀,PA X p (tAv T cf X.K H₀ O₀ x)
noncomputable def SAr (x:E) (p:List Expr):Prop:=∀ H₀ O₀,PA X p (tAr T cf X.K H₀ O₀ x)
end
section
variable {T:Tab} {cf:Nat → List D → Res D} {X:Cx} {x y z:E} {p q r:Expr} {pos:Pos}
theorem PE.imp {t t':TE} (h:∀ σ H Q,t' σ H Q → t σ H Q) (hp:PE X p t):PE X p t':=fun pins s σ H Q I q=>hp pins s σ H Q I (h σ H Q q)
theorem PT.imp {t t':TT} (h:∀ σ H Q,t' σ H Q → t σ H Q) (hp:PT X p t):PT X p t':=fun pins s σ H Q I q=>hp pins s σ H Q I (h σ H Q q)
theorem SE.sr (h:SE T cf X x p):SR T cf X x p:=fun H₀ O₀=>PE.imp (fun σ H Q ⟨O,own,e,d,F,ev,q⟩=>⟨O,own,e,d,F,ev,fun v H' s r _=>q v H' s r.rr⟩) (h H₀ O₀)
theorem SAv.sr {ps:List Expr} (h:SAv T cf X x ps):SAr T cf X x ps:=fun H₀ O₀ pos pins s σ H Q I ⟨O,own,e,ds,F,ev,q⟩=>h H₀ O₀ pos pins s σ H Q I ⟨O,own,e,ds,F,ev,fun vs H' s r=>q vs H' s r.rr⟩
theorem se_var {i:Nat} {n:Str} (hN:X.N[i]? = some n) (hv:Vis X.env.scope n) (hd:(n == ("__debug__" : Str)) = false) (hc:(n == ("__classdict__" : Str)) = false):SE T cf X (.var i) (.Name n pos):=fun H₀ O₀ =>
  PE.imp (fun σ H Q ⟨O,own,e,d,F,ev,q⟩=>by
    obtain ⟨v,h1,h2⟩:=F.val (i:=i) (by (first | rw [xE_var] at ev | rw [xE_rd] at ev | rw [xE_con] at ev | rw [xE_glob] at ev | rw [xE_bin] at ev | rw [xE_cmp] at ev | rw [xE_chain] at ev | rw [xE_and] at ev | rw [xE_or] at ev | rw [xE_not] at ev | rw [xE_neg] at ev | rw [xE_ife] at ev | rw [xE_ix] at ev | rw [xE_sl] at ev | rw [xE_omit] at ev | rw [xE_tup] at ev | rw [xE_lst] at ev | rw [xE_call] at ev | rw [xE_callB] at ev | rw [xE_bt] at ev | rw [xE_isi] at ev | rw [xE_dnew] at ev | rw [xE_mth] at ev | rw [xE_callT] at ev | rw [xE_gidx] at ev | rw [xE_lset] at ev | rw [xE_maxd] at ev | rw [xE_lrng] at ev | rw [xE_sset] at ev | rw [xE_dnewT] at ev | rw [xE_getT] at ev | rw [xE_comp] at ev | rw [xE_look] at ev);exact ev)
    exact ⟨v,h1,q v H (Same.refl H) h2 (fun z=>by cases z)⟩) (pe_var hN hv hd hc)
theorem sr_rd {i:Nat} {n:Str} (hN:X.N[i]? = some n) (hv:Vis X.env.scope n) (hd:(n == ("__debug__" : Str)) = false) (hc:(n == ("__classdict__" : Str)) = false):SR T cf X (.rd i) (.Name n pos):=fun H₀ O₀ =>
  PE.imp (fun σ H Q ⟨O,own,e,d,F,ev,q⟩=>by
    obtain ⟨v,h1,h2⟩:=F.any (i:=i) (by (first | rw [xE_var] at ev | rw [xE_rd] at ev | rw [xE_con] at ev | rw [xE_glob] at ev | rw [xE_bin] at ev | rw [xE_cmp] at ev | rw [xE_chain] at ev | rw [xE_and] at ev | rw [xE_or] at ev | rw [xE_not] at ev | rw [xE_neg] at ev | rw [xE_ife] at ev | rw [xE_ix] at ev | rw [xE_sl] at ev | rw [xE_omit] at ev | rw [xE_tup] at ev | rw [xE_lst] at ev | rw [xE_call] at ev | rw [xE_callB] at ev | rw [xE_bt] at ev | rw [xE_isi] at ev | rw [xE_dnew] at ev | rw [xE_mth] at ev | rw [xE_callT] at ev | rw [xE_gidx] at ev | rw [xE_lset] at ev | rw [xE_maxd] at ev | rw [xE_lrng] at ev | rw [xE_sset] at ev | rw [xE_dnewT] at ev | rw [xE_getT] at ev | rw [xE_comp] at ev | rw [xE_look] at ev);exact ev)
    exact ⟨v,h1,q v H (Same.refl H) h2⟩) (pe_var hN hv hd hc)
noncomputable def cstIs:D → Const → Bool
  | .non,.none=>true
  | .bl a,.bool b=>a == b
  | .int i,.int j=>i == j
  | .str a,.str b=>a == b
  | _,_=>false
theorem se_con {d:D} {c:Const} {k:Nat} (h:cstIs d c = true):SE T cf X (.con d) (.Constant c k pos):=fun H₀ O₀=>by
  have fin:∀ {v:V} {σ:L2.St} {H:Hp} {Q:VK},(∀ H O,RD X.K H O d v) → tE T cf X.K H₀ O₀ (.con d) σ H Q → Q v H:=fun hv ⟨O,own,e,d',F,ev,q⟩=>by
    (first | rw [xE_var] at ev | rw [xE_rd] at ev | rw [xE_con] at ev | rw [xE_glob] at ev | rw [xE_bin] at ev | rw [xE_cmp] at ev | rw [xE_chain] at ev | rw [xE_and] at ev | rw [xE_or] at ev | rw [xE_not] at ev | rw [xE_neg] at ev | rw [xE_ife] at ev | rw [xE_ix] at ev | rw [xE_sl] at ev | rw [xE_omit] at ev | rw [xE_tup] at ev | rw [xE_lst] at ev | rw [xE_call] at ev | rw [xE_callB] at ev | rw [xE_bt] at ev | rw [xE_isi] at ev | rw [xE_dnew] at ev | rw [xE_mth] at ev | rw [xE_callT] at ev | rw [xE_gidx] at ev | rw [xE_lset] at ev | rw [xE_maxd] at ev | rw [xE_lrng] at ev | rw [xE_sset] at ev | rw [xE_dnewT] at ev | rw [xE_getT] at ev | rw [xE_comp] at ev | rw [xE_look] at ev);cases ev
    exact q _ _ (Same.refl _) (hv _ _) (fun z=>by cases z)
  cases d <;> cases c <;> first
    | (exact absurd (show false = true from h) Bool.false_ne_true)
    | (exact PE.imp (fun σ H Q w=>fin (v:=.non) (fun _ _=>rfl) w) pe_non)
    | (have e:=eq_of_beq (show _ == _ from h);subst e;first
        | exact PE.imp (fun σ H Q w=>fin (fun _ _=>rfl) w) pe_bl
        | exact PE.imp (fun σ H Q w=>fin (fun _ _=>rfl) w) pe_int
        | exact PE.imp (fun σ H Q w=>fin (fun _ _=>rfl) w) pe_str)
noncomputable def GlobIs (X:Cx) (n:Str) (d:D):Prop:=∃ v u,X.mg n = some u ∧ RelV v u ∧ ∀ H O,RD X.K H O d v
theorem se_glob {g:Nat} {n:Str} (hg:Gl X n) (h:GlobIs X n (T.glob g)) (hd:(n == ("__debug__" : Str)) = false):SE T cf X (.glob g) (.Name n pos):=fun H₀ O₀=>by
  obtain ⟨v,u,hm,r,hv⟩:=h
  refine PE.imp (fun σ H Q hq=>?_) (pe_glob (v:=v) hg hm r hd)
  obtain ⟨O,own,e,d,F,ev,q⟩:=hq
  (first | rw [xE_var] at ev | rw [xE_rd] at ev | rw [xE_con] at ev | rw [xE_glob] at ev | rw [xE_bin] at ev | rw [xE_cmp] at ev | rw [xE_chain] at ev | rw [xE_and] at ev | rw [xE_or] at ev | rw [xE_not] at ev | rw [xE_neg] at ev | rw [xE_ife] at ev | rw [xE_ix] at ev | rw [xE_sl] at ev | rw [xE_omit] at ev | rw [xE_tup] at ev | rw [xE_lst] at ev | rw [xE_call] at ev | rw [xE_callB] at ev | rw [xE_bt] at ev | rw [xE_isi] at ev | rw [xE_dnew] at ev | rw [xE_mth] at ev | rw [xE_callT] at ev | rw [xE_gidx] at ev | rw [xE_lset] at ev | rw [xE_maxd] at ev | rw [xE_lrng] at ev | rw [xE_sset] at ev | rw [xE_dnewT] at ev | rw [xE_getT] at ev | rw [xE_comp] at ev | rw [xE_look] at ev);cases ev
  exact q v H (Same.refl H) (hv H O) (fun z=>by cases z)
noncomputable def rD2 (K:PySem.W.Frag) (f:D → D → Res D) (fr:Bool):R2:=fun x y H Q=>∃ O d1 d2 d,RR K H O d1 x ∧ RR K H O d2 y ∧ f d1 d2 = .ok d ∧ (∀ a,O a → ∃ o,H a = some o) ∧ ∀ v H',Same H H' → RD K H' O d v → (fr = true → NewL K H H' O d v) → Q v H'
theorem se_op2 {w:E} {pe:Expr} {f:D → D → Res D} (hw:∀ e,evE T cf w e = (do let a ← evE T cf x e;let b ← evE T cf y e;f a b))
    (hop:∀ {ta tb:TE},PE X p ta → PE X q tb → PE X pe (tOp (rD2 X.K f (freshE T w)) ta tb)) (ha:SR T cf X x p) (hb:SR T cf X y q):SE T cf X w pe:=fun H₀ O₀=>by
  refine PE.imp (fun σ H Q hq=>?_) (hop (ha H₀ O₀) (hb H₀ O₀))
  obtain ⟨O,own,e,d,F,ev,k⟩:=hq
  rw [hw] at ev
  obtain ⟨d1,e1,ev⟩:=Res.bind_ok ev
  obtain ⟨d2,e2,ev⟩:=Res.bind_ok ev
  refine ⟨O,own,e,d1,F,e1,fun v1 H1 s1 r1=>?_⟩
  refine ⟨O,own,e,d2,F.grow s1,e2,fun v2 H2 s2 r2=>?_⟩
  refine ⟨O,d1,d2,d,r1.same s2,r2,ev,fun a ha=>?_,fun v H' s3 r3 n3=>?_⟩
  · exact (F.grow (s1.trans s2)).trk a ha
  · exact k v H' ((s1.trans s2).trans s3) r3 fun fr=>(n3 fr).back (s1.trans s2)
end
end Tr
namespace Tr
open PySem PySem.Spec PyProof.Rows L2
noncomputable abbrev no:Addr → Prop:=fun _=>False
section
variable {X:Cx} {pins:List (Addr × Obj)} {σ:L2.St} {H:Hp} {s:Shared}
theorem sq_apart (I:Inv X pins σ H s) {a:Addr} {xs ys:List V} (h1:SqL X.K H a xs) (h2:SqT X.K H a ys):False:=by
  obtain ⟨its,_,pl,_⟩:=I.list h1
  obtain ⟨its',_,pt,_⟩:=I.tuple h2
  exact SeqAt.ne_of_list_tuple pl.isList pt rfl
theorem RD.sql {K:PySem.W.Frag} {O:Addr → Prop} {ds:List D} {v:V} (h:RD K H O (.lst ds) v):∃ a xs,v = .ref a ∧ SqL K H a xs ∧ RDs K H O ds xs:=RR.lst (.inl h)
theorem dk_class (I:Inv X pins σ H s) {a:Addr} {ps:List (Key × V)} (h:H a = some (.dK ps)):∃ o,s.heap.get? a = some o ∧ o.cls = .type "dict" := by
  obtain ⟨_,_,vs,_,o,es,ep,e,c,_⟩:=(show ObjOk X.prog X.w H s.heap a (.dK ps) from I.hok a _ h)
  exact ⟨o,e,c.1⟩
theorem dk_lst (I:Inv X pins σ H s) {a:Addr} {ps:List (Key × V)} {xs:List V} (h:H a = some (.dK ps)) (h2:SqL X.K H a xs):False:=by
  obtain ⟨its,_,pl,_⟩:=I.list h2
  obtain ⟨o,e,c⟩:=dk_class I h
  obtain ⟨o',e',c',_⟩:=pl.isList
  rw [e] at e';cases e'
  rw [c] at c'
  injection c' with z
  exact absurd z (by decide)
theorem dk_tup (I:Inv X pins σ H s) {a:Addr} {ps:List (Key × V)} {xs:List V} (h:H a = some (.dK ps)) (h2:SqT X.K H a xs):False:=by
  obtain ⟨its,_,pl,_⟩:=I.tuple h2
  obtain ⟨o,e,c⟩:=dk_class I h
  obtain ⟨o',e',c',_⟩:=pl
  rw [e] at e';cases e'
  rw [c] at c'
  injection c' with z
  exact absurd z (by decide)
theorem dt_class (I:Inv X pins σ H s) {a:Addr} {ps:List (List Key × V)} (h:H a = some (.dT ps)):∃ o,s.heap.get? a = some o ∧ o.cls = .type "dict" := by
  obtain ⟨_,_,vs,_,o,es,ep,e,c,_⟩:=(show ObjOk X.prog X.w H s.heap a (.dT ps) from I.hok a _ h)
  exact ⟨o,e,c.1⟩
theorem dt_lst (I:Inv X pins σ H s) {a:Addr} {ps:List (List Key × V)} {xs:List V} (h:H a = some (.dT ps)) (h2:SqL X.K H a xs):False:=by
  obtain ⟨its,_,pl,_⟩:=I.list h2
  obtain ⟨o,e,c⟩:=dt_class I h
  obtain ⟨o',e',c',_⟩:=pl.isList
  rw [e] at e';cases e'
  rw [c] at c'
  injection c' with z
  exact absurd z (by decide)
theorem dt_tup (I:Inv X pins σ H s) {a:Addr} {ps:List (List Key × V)} {xs:List V} (h:H a = some (.dT ps)) (h2:SqT X.K H a xs):False:=by
  obtain ⟨its,_,pl,_⟩:=I.tuple h2
  obtain ⟨o,e,c⟩:=dt_class I h
  obtain ⟨o',e',c',_⟩:=pl
  rw [e] at e';cases e'
  rw [c] at c'
  injection c' with z
  exact absurd z (by decide)
mutual
theorem RD.inj (I:Inv X pins σ H s):∀ {d d':D} {v:V},RD X.K H no d v → RD X.K H no d' v → d = d'
  | .non,d',v,h,h'=>by cases (show v = .non from h);cases d' <;> first | (obtain ⟨a,xs,e,_⟩:=h';cases e;done) | rfl | (cases h';done)
  | .bl b,d',v,h,h'=>by cases (show v = .bl b from h);cases d' <;> first | (obtain ⟨a,xs,e,_⟩:=h';cases e;done) | rfl | (cases h';rfl) | (cases h';done)
  | .int b,d',v,h,h'=>by cases (show v = .int b from h);cases d' <;> first | (obtain ⟨a,xs,e,_⟩:=h';cases e;done) | rfl | (cases h';rfl) | (cases h';done)
  | .str b,d',v,h,h'=>by cases (show v = .str b from h);cases d' <;> first | (obtain ⟨a,xs,e,_⟩:=h';cases e;done) | rfl | (cases h';rfl) | (cases h';done)
  | .tup ds,d',v,h,h'=>by
    obtain ⟨a,xs,e,q,r⟩:=h
    subst e
    cases d' with
    | tup ds' =>
      obtain ⟨a',xs',e,q',r'⟩:=h'
      cases e
      have:=I.tuple_inj q q'
      subst this
      rw [RDs.inj I r r']
    | lst ds' =>
      obtain ⟨a',xs',e,q',r'⟩:=RD.sql h'
      cases e
      exact (sq_apart I q' q).elim
    | non=>cases h'
    | bl _=>cases h'
    | int _=>cases h'
    | str _=>cases h'
    | dct _ =>
      obtain ⟨a',xs',e,q',r'⟩:=h'
      cases e
      exact (dk_tup I q'.2 q).elim
    | tdc _ =>
      obtain ⟨a',xs',e,q',r'⟩:=h'
      cases e
      exact (dt_tup I q'.2 q).elim
  | .lst ds,d',v,h,h'=>by
    obtain ⟨a,xs,e,q,r⟩:=RD.sql h
    subst e
    cases d' with
    | lst ds' =>
      obtain ⟨a',xs',e,q',r'⟩:=RD.sql h'
      cases e
      have:=I.list_inj q q'
      subst this
      rw [RDs.inj I r r']
    | tup ds' =>
      obtain ⟨a',xs',e,q',r'⟩:=h'
      cases e
      exact (sq_apart I q q').elim
    | non=>cases h'
    | bl _=>cases h'
    | int _=>cases h'
    | str _=>cases h'
    | dct _ =>
      obtain ⟨a',xs',e,q',r'⟩:=h'
      cases e
      exact (dk_lst I q'.2 q).elim
    | tdc _ =>
      obtain ⟨a',xs',e,q',r'⟩:=h'
      cases e
      exact (dt_lst I q'.2 q).elim
  | .dct kvs,d',v,h,h'=>by
    obtain ⟨a,xs,e,q,r⟩:=h
    subst e
    cases d' with
    | dct kvs' =>
      obtain ⟨a',xs',e,q',r'⟩:=h'
      cases e
      have:=q.2.symm.trans q'.2
      cases this
      rw [RDk.inj I r r']
    | tup ds' =>
      obtain ⟨a',xs',e,q',r'⟩:=h'
      cases e
      exact (dk_tup I q.2 q').elim
    | lst ds' =>
      obtain ⟨a',xs',e,q',r'⟩:=RD.sql h'
      cases e
      exact (dk_lst I q.2 q').elim
    | non=>cases h'
    | bl _=>cases h'
    | int _=>cases h'
    | str _=>cases h'
    | tdc _ =>
      obtain ⟨a',xs',e,q',r'⟩:=h'
      cases e
      have:=q.2.symm.trans q'.2
      cases this
  | .tdc kvs,d',v,h,h'=>by
    obtain ⟨a,xs,e,q,r⟩:=h
    subst e
    cases d' with
    | tdc kvs' =>
      obtain ⟨a',xs',e,q',r'⟩:=h'
      cases e
      have:=q.2.symm.trans q'.2
      cases this
      rw [RDt.inj I r r']
    | tup ds' =>
      obtain ⟨a',xs',e,q',r'⟩:=h'
      cases e
      exact (dt_tup I q.2 q').elim
    | lst ds' =>
      obtain ⟨a',xs',e,q',r'⟩:=RD.sql h'
      cases e
      exact (dt_lst I q.2 q').elim
    | non=>cases h'
    | bl _=>cases h'
    | int _=>cases h'
    | str _=>cases h'
    | dct _ =>
      obtain ⟨a',xs',e,q',r'⟩:=h'
      cases e
      have:=q.2.symm.trans q'.2
      cases this
theorem RDs.inj (I:Inv X pins σ H s):∀ {ds ds':List D} {vs:List V},RDs X.K H no ds vs → RDs X.K H no ds' vs → ds = ds'
  | [],[],_,_,_=>rfl
  | [],_ :: _,_,h,h'=>by
    rw [RDs] at h;subst h
    obtain ⟨_,_,e,_⟩:=h';cases e
  | _ :: _,[],_,h,h'=>by
    rw [RDs] at h';subst h'
    obtain ⟨_,_,e,_⟩:=h;cases e
  | d :: ds,d' :: ds',vs,h,h'=>by
    obtain ⟨v,r,rfl,h1,h2⟩:=h
    obtain ⟨v',r',e,h1',h2'⟩:=h'
    cases e
    rw [RD.inj I h1 h1',RDs.inj I h2 h2']
theorem RDk.inj (I:Inv X pins σ H s):∀ {ds ds':List (Sum Int Str × D)} {vs:List (Key × V)},RDk X.K H no ds vs → RDk X.K H no ds' vs → ds = ds'
  | [],[],_,_,_=>rfl
  | [],_ :: _,_,h,h'=>by
    rw [RDk] at h;subst h
    obtain ⟨_,_,e,_⟩:=h';cases e
  | _ :: _,[],_,h,h'=>by
    rw [RDk] at h';subst h'
    obtain ⟨_,_,e,_⟩:=h;cases e
  | (k,d) :: ds,(k',d') :: ds',vs,h,h'=>by
    obtain ⟨v,r,rfl,h1,h2⟩:=h
    obtain ⟨v',r',e,h1',h2'⟩:=h'
    cases e
    rw [RD.inj I h1 h1',RDk.inj I h2 h2']
theorem RDt.inj (I:Inv X pins σ H s):∀ {ds ds':List (List (Sum Int Str) × D)} {vs:List (List Key × V)},RDt X.K H no ds vs → RDt X.K H no ds' vs → ds = ds'
  | [],[],_,_,_=>rfl
  | [],_ :: _,_,h,h'=>by
    rw [RDt] at h;subst h
    obtain ⟨_,_,e,_⟩:=h';cases e
  | _ :: _,[],_,h,h'=>by
    rw [RDt] at h';subst h'
    obtain ⟨_,_,e,_⟩:=h;cases e
  | (k,d) :: ds,(k',d') :: ds',vs,h,h'=>by
    obtain ⟨v,r,rfl,h1,h2⟩:=h
    obtain ⟨v',r',e,h1',h2'⟩:=h'
    cases e
    rw [RD.inj I h1 h1',RDt.inj I h2 h2']
end
noncomputable def pairEq (xs ys:List D) (j:Nat):Bool:=match xs[j]?,ys[j]? with
  | some x,some y=>D.eqb x y
  | _,_=>false
theorem pairEq_succ (x y:D) (xs ys:List D) (j:Nat):pairEq (x :: xs) (y :: ys) (j + 1) = pairEq xs ys j:=by simp [pairEq]
theorem eqs_all:∀ xs ys:List D,xs.length = ys.length → (List.range xs.length).all (pairEq xs ys) = D.eqs xs ys
  | [],[],_=>by simp [D.eqs]
  | [],_ :: _,h=>by simp at h
  | _ :: _,[],h=>by simp at h
  | x :: xs,y :: ys,h=>by
    rw [List.length_cons,List.range_succ_eq_map,List.all_cons,List.all_map,D.eqs,← eqs_all xs ys (by simpa using h)]
    congr 1
theorem eqs_len:∀ xs ys:List D,xs.length ≠ ys.length → D.eqs xs ys = false
  | [],[],h=>by simp at h
  | [],_ :: _,_=>by simp [D.eqs]
  | _ :: _,[],_=>by simp [D.eqs]
  | x :: xs,y :: ys,h=>by rw [D.eqs,eqs_len xs ys (by simpa using h),Bool.and_false]
theorem min_len {xs ys:List D}:((List.range (min xs.length ys.length)).all (pairEq xs ys) && xs.length == ys.length) = D.eqs xs ys:=by
  by_cases h:xs.length = ys.length
  · rw [← eqs_all xs ys h,h,Nat.min_self];simp
  · rw [eqs_len xs ys h];simp [h]
inductive Sees (X:Cx) (H:Hp) (s:Shared):D → Value → Prop
  | non:Sees X H s .non .none
  | bl (b):Sees X H s (.bl b) (.bool b)
  | int (i t):Sees X H s (.int i) (.int i t)
  | str (x t):Sees X H s (.str x) (.str x t)
  | tup (ds:List D) (a:Addr) (xs:List V) (its:List Value):SqT X.K H a xs → RDs X.K H no ds xs → Vals xs its → IsTup s.heap a its.toArray → Sees X H s (.tup ds) (.ref a)
  | lst (ds:List D) (a:Addr) (xs:List V) (its:List Value):SqL X.K H a xs → RDs X.K H no ds xs → Vals xs its → PlainL s.heap a its.toArray → Sees X H s (.lst ds) (.ref a)
  | dct (ds:List (Sum Int Str × D)) (a:Addr) (ps:List (Key × V)):H a = some (.dK ps) → RDk X.K H no ds ps → Sees X H s (.dct ds) (.ref a)
  | tdc (ds:List (List (Sum Int Str) × D)) (a:Addr) (ps:List (List Key × V)):H a = some (.dT ps) → RDt X.K H no ds ps → Sees X H s (.tdc ds) (.ref a)
theorem sees (I:Inv X pins σ H s) {d:D} {v:V} {u:Value} (h:RD X.K H no d v) (r:RelV v u):Sees X H s d u:=by
  cases d with
  | non=>cases (show v = .non from h);cases r;exact .non
  | bl b=>cases (show v = .bl b from h);cases r;exact .bl b
  | int i=>cases (show v = .int i from h);obtain ⟨t,rfl⟩:=r;exact .int i t
  | str x=>cases (show v = .str x from h);obtain ⟨t,rfl⟩:=r;exact .str x t
  | tup ds =>
    obtain ⟨a,xs,rfl,q,w⟩:=h
    cases r
    obtain ⟨its,r1,p1,_⟩:=I.tuple q
    exact .tup ds a xs its q w r1 p1
  | lst ds =>
    obtain ⟨a,xs,rfl,q,w⟩:=RD.sql h
    cases r
    obtain ⟨its,r1,p1,_⟩:=I.list q
    exact .lst ds a xs its q w r1 p1
  | dct ds =>
    obtain ⟨a,ps,rfl,q,w⟩:=h
    cases r
    exact .dct ds a ps q.2 w
  | tdc ds =>
    obtain ⟨a,ps,rfl,q,w⟩:=h
    cases r
    exact .tdc ds a ps q.2 w
theorem rds_at {ds:List D} {xs:List V} {its:List Value} (w:RDs X.K H no ds xs) (r:Vals xs its):its.length = ds.length:=by rw [← r.length,w.length]
noncomputable def EqItems (X:Cx) (H:Hp) (s:Shared) (n:Nat):Prop:=∀ (ds1 ds2:List D) (A:Around) (us1 us2:List Value) (xs1 xs2:List V),RDs X.K H no ds1 xs1 → Vals xs1 us1 → RDs X.K H no ds2 xs2 → Vals xs2 us2 → D.pls n ds1 = true → D.pls n ds2 = true → A.units + n < cLine →
    ∀ j (h1:j < us1.length) (h2:j < us2.length),SeqAt.EqAt A.in1 s us1[j] us2[j] (pairEq ds1 ds2 j)
noncomputable def EqData (X:Cx) (H:Hp) (s:Shared) (n:Nat):Prop:=∀ (d1 d2:D) (A:Around) (u1 u2:Value),Sees X H s d1 u1 → Sees X H s d2 u2 → D.pl n d1 = true → D.pl n d2 = true → A.units + n < cLine → SeqAt.EqAt A s u1 u2 (D.eqb d1 d2)
theorem eqData_of (I:Inv X pins σ H s) {n:Nat} (it:EqItems X H s n):EqData X H s n:=by
  intro d1 d2 A u1 u2 h1 h2 f1 f2 hu
  have hu':A.units < cLine:=by (first | lia | omega)
  have nd2:∀ ds,d2 ≠ .dct ds:=fun ds z=>by rw [z,D.pl] at f2;cases f2
  have nt2:∀ ds,d2 ≠ .tdc ds:=fun ds z=>by rw [z,D.pl] at f2;cases f2
  cases h1 with
  | dct ds a ps q w=>rw [D.pl] at f1;cases f1
  | tdc ds a ps q w=>rw [D.pl] at f1;cases f1
  | non=>cases h2 with
    | non=>exact SeqAt.EqAt.same _
    | bl b=>exact SeqAt.EqAt.none_bool b
    | int b t=>exact SeqAt.EqAt.none_int b t
    | str b t=>exact SeqAt.EqAt.none_str b t
    | tup ds a xs its q w r p=>exact SeqAt.EqAt.none_tuple p hu'
    | lst ds a xs its q w r p=>exact SeqAt.EqAt.none_list p.isList hu'
    | dct ds a ps q w=>exact absurd rfl (nd2 ds)
    | tdc ds a ps q w=>exact absurd rfl (nt2 ds)
  | bl x=>cases h2 with
    | non=>exact SeqAt.EqAt.bool_none x
    | bl b=>exact SeqAt.EqAt.bool_bool x b
    | int b t=>exact SeqAt.EqAt.bool_int x b t
    | str b t=>exact SeqAt.EqAt.bool_str x b t
    | tup ds a xs its q w r p=>exact SeqAt.EqAt.bool_tuple x p hu'
    | lst ds a xs its q w r p=>exact SeqAt.EqAt.bool_list x p.isList hu'
    | dct ds a ps q w=>exact absurd rfl (nd2 ds)
    | tdc ds a ps q w=>exact absurd rfl (nt2 ds)
  | int x t'=>cases h2 with
    | non=>exact SeqAt.EqAt.int_none x t'
    | bl b=>exact SeqAt.EqAt.int_bool x t' b
    | int b t=>exact SeqAt.EqAt.int_int x t' b t
    | str b t=>exact SeqAt.EqAt.int_str x t' b t
    | tup ds a xs its q w r p=>exact SeqAt.EqAt.int_tuple x t' p hu'
    | lst ds a xs its q w r p=>exact SeqAt.EqAt.int_list x t' p.isList hu'
    | dct ds a ps q w=>exact absurd rfl (nd2 ds)
    | tdc ds a ps q w=>exact absurd rfl (nt2 ds)
  | str x t'=>cases h2 with
    | non=>exact SeqAt.EqAt.str_none x t'
    | bl b=>exact SeqAt.EqAt.str_bool x t' b
    | int b t=>exact SeqAt.EqAt.str_int x t' b t
    | str b t=>exact SeqAt.EqAt.str_str x t' b t
    | tup ds a xs its q w r p=>exact SeqAt.EqAt.str_tuple x t' p hu'
    | lst ds a xs its q w r p=>exact SeqAt.EqAt.str_list x t' p.isList hu'
    | dct ds a ps q w=>exact absurd rfl (nd2 ds)
    | tdc ds a ps q w=>exact absurd rfl (nt2 ds)
  | tup ds1 a1 xs1 its1 q1 w1 r1 p1=>cases h2 with
    | non=>exact SeqAt.EqAt.tuple_none p1 hu'
    | bl b=>exact SeqAt.EqAt.tuple_bool b p1 hu'
    | int b t=>exact SeqAt.EqAt.tuple_int b t p1 hu'
    | str b t=>exact SeqAt.EqAt.tuple_str b t p1 hu'
    | lst ds a xs its q w r p=>exact SeqAt.EqAt.tuple_list p1 p.isList hu'
    | dct ds a ps q w=>exact absurd rfl (nd2 ds)
    | tdc ds a ps q w=>exact absurd rfl (nt2 ds)
    | tup ds2 a2 xs2 its2 q2 w2 r2 p2 =>
      by_cases ha:a1 = a2
      · subst ha
        have:=I.tuple_inj q1 q2
        subst this
        have:=RDs.inj I w1 w2
        subst this
        rw [D.eqb_refl n _ f1]
        exact SeqAt.EqAt.same _
      · rw [D.eqb,← min_len,← rds_at w1 r1,← rds_at w2 r2]
        have z:=SeqAt.EqAt.of_refs ha (SeqAt.RcAt.tuples (A:=A) (e:=pairEq ds1 ds2) p1 p2 hu' fun j j1 j2=>by
          have:=it ds1 ds2 A its1 its2 xs1 xs2 w1 r1 w2 r2 (by rw [D.pl] at f1;exact f1) (by rw [D.pl] at f2;exact f2) hu j (by simpa using j1) (by simpa using j2)
          simpa using this)
        simpa using z
  | lst ds1 a1 xs1 its1 q1 w1 r1 p1=>cases h2 with
    | non=>exact SeqAt.EqAt.list_none p1.isList hu'
    | bl b=>exact SeqAt.EqAt.list_bool b p1.isList hu'
    | int b t=>exact SeqAt.EqAt.list_int b t p1.isList hu'
    | str b t=>exact SeqAt.EqAt.list_str b t p1.isList hu'
    | tup ds a xs its q w r p=>exact SeqAt.EqAt.list_tuple p1.isList p hu'
    | dct ds a ps q w=>exact absurd rfl (nd2 ds)
    | tdc ds a ps q w=>exact absurd rfl (nt2 ds)
    | lst ds2 a2 xs2 its2 q2 w2 r2 p2 =>
      by_cases ha:a1 = a2
      · subst ha
        have:=I.list_inj q1 q2
        subst this
        have:=RDs.inj I w1 w2
        subst this
        rw [D.eqb_refl n _ f1]
        exact SeqAt.EqAt.same _
      · have l1:=rds_at w1 r1
        have l2:=rds_at w2 r2
        rw [D.eqb]
        by_cases hl:ds1.length = ds2.length
        · rw [← eqs_all ds1 ds2 hl,← l1]
          have z:=SeqAt.EqAt.of_refs ha (SeqAt.RcAt.lists (A:=A) (e:=pairEq ds1 ds2) p1.isList p2.isList (by simp only [List.size_toArray];(first | lia | omega)) hu' fun j j1 j2=>by
            have:=it ds1 ds2 A its1 its2 xs1 xs2 w1 r1 w2 r2 (by rw [D.pl] at f1;exact f1) (by rw [D.pl] at f2;exact f2) hu j (by simpa using j1) (by simpa using j2)
            simpa using this)
          simpa using z
        · rw [eqs_len ds1 ds2 hl]
          exact SeqAt.EqAt.of_refs ha (SeqAt.RcAt.lists_lengths p1.isList p2.isList (by simp only [List.size_toArray,bne_iff_ne,ne_eq];(first | lia | omega)) hu')
theorem eqItems_zero:EqItems X H s 0:=by
  intro ds1 ds2 A us1 us2 xs1 xs2 w1 r1 w2 r2 f1 f2 hu j h1 h2
  cases ds1 with
  | nil =>
    rw [RDs] at w1;subst w1
    cases r1
    exact absurd h1 (Nat.not_lt_zero _)
  | cons d ds=>rw [D.pls] at f1;cases f1
theorem eqItems_succ (I:Inv X pins σ H s) {n:Nat} (ih:EqData X H s n):EqItems X H s (n + 1):=by
  intro ds1
  induction ds1 with
  | nil =>
    intro ds2 A us1 us2 xs1 xs2 w1 r1 w2 r2 f1 f2 hu j h1 h2
    rw [RDs] at w1;subst w1
    cases r1
    exact absurd h1 (Nat.not_lt_zero _)
  | cons d1 ds1 ih2 =>
    intro ds2 A us1 us2 xs1 xs2 w1 r1 w2 r2 f1 f2 hu j h1 h2
    cases ds2 with
    | nil =>
      rw [RDs] at w2;subst w2
      cases r2
      exact absurd h2 (Nat.not_lt_zero _)
    | cons d2 ds2 =>
      obtain ⟨v1,y1,rfl,e1,w1⟩:=w1
      obtain ⟨v2,y2,rfl,e2,w2⟩:=w2
      cases r1 with
      | cons a1 r1 =>
        cases r2 with
        | cons a2 r2 =>
          rw [D.pls,Bool.and_eq_true] at f1 f2
          cases j with
          | zero=>exact ih d1 d2 A.in1 _ _ (sees I e1 a1) (sees I e2 a2) f1.1 f2.1 (by show A.units + 1 + n < cLine;(first | lia | omega))
          | succ j =>
            rw [pairEq_succ]
            exact ih2 ds2 A _ _ _ _ w1 r1 w2 r2 f1.2 f2.2 hu j (Nat.lt_of_succ_lt_succ h1) (Nat.lt_of_succ_lt_succ h2)
theorem eqItems (I:Inv X pins σ H s):∀ n,EqItems X H s n
  | 0=>eqItems_zero
  | n + 1=>eqItems_succ I (eqData_of I (eqItems I n))
theorem eqAt_D (I:Inv X pins σ H s) (n:Nat):EqData X H s n:=eqData_of I (eqItems I n)
theorem eqAt_Ds (I:Inv X pins σ H s) (n:Nat):EqItems X H s n:=eqItems I n
end
end Tr
namespace Tr
open PySem PySem.Spec PyProof.Rows L2
theorem same_upd {H:Hp} {p:Addr} (h:H p = none) (o:HO):Same H (upd H p o):=fun b u q=>by rw [upd_ne (ne_of_none q h)];exact q
section
variable {K:PySem.W.Frag} {H:Hp} {O:Addr → Prop} {p:Addr} {ds:List D} {xs:List V}
theorem new_lst (w:RDs K H O ds xs) (hp:H p = none) (tr:∀ a,O a → ∃ o,H a = some o):RD K (upd H p (.lst xs)) O (.lst ds) (.ref p) ∧ NewL K H (upd H p (.lst xs)) O (.lst ds) (.ref p):=by
  have nO:¬ O p:=fun z=>by
    obtain ⟨o,q⟩:=tr p z
    rw [hp] at q;cases q
  exact ⟨⟨p,xs,rfl,.inl ⟨nO,.inl upd_same⟩,w.same (same_upd hp _)⟩,fun _=>⟨p,rfl,hp,xs,upd_same,(w.new hp).same (same_upd hp _)⟩⟩
theorem new_tup (w:RDs K H O ds xs) (hp:H p = none):RD K (upd H p (.tup xs)) O (.tup ds) (.ref p):=⟨p,xs,rfl,.of upd_same,w.same (same_upd hp _)⟩
end
section
variable {X:Cx} {pins:List (Addr × Obj)} {σ:L2.St} {H:Hp} {s:Shared}
theorem rcAt_D (I:Inv X pins σ H s) {n:Nat} {d1 d2:D} {A:Around} {u1 u2:Value} (h1:Sees X H s d1 u1) (h2:Sees X H s d2 u2) (f1:D.pl n d1 = true) (f2:D.pl n d2 = true) (hu:A.units + n < cLine):SeqAt.RcAt A s u1 u2 (D.eqb d1 d2):=by
  have hu':A.units < cLine:=by (first | lia | omega)
  have nd2:∀ ds,d2 ≠ .dct ds:=fun ds z=>by rw [z,D.pl] at f2;cases f2
  have nt2:∀ ds,d2 ≠ .tdc ds:=fun ds z=>by rw [z,D.pl] at f2;cases f2
  cases h1 with
  | dct ds a ps q w=>rw [D.pl] at f1;cases f1
  | tdc ds a ps q w=>rw [D.pl] at f1;cases f1
  | non=>cases h2 with
    | non=>exact SeqAt.RcAt.none_none
    | bl b=>exact SeqAt.RcAt.none_bool b
    | int b t=>exact SeqAt.RcAt.none_int b t
    | str b t=>exact SeqAt.RcAt.none_str b t
    | tup ds a xs its q w r p=>exact SeqAt.RcAt.none_tuple p hu'
    | lst ds a xs its q w r p=>exact SeqAt.RcAt.none_list p.isList hu'
    | dct ds a ps q w=>exact absurd rfl (nd2 ds)
    | tdc ds a ps q w=>exact absurd rfl (nt2 ds)
  | bl x=>cases h2 with
    | non=>exact SeqAt.RcAt.bool_none x
    | bl b=>exact SeqAt.RcAt.bool_bool x b
    | int b t=>exact SeqAt.RcAt.bool_int x b t
    | str b t=>exact SeqAt.RcAt.bool_str x b t
    | tup ds a xs its q w r p=>exact SeqAt.RcAt.bool_tuple x p hu'
    | lst ds a xs its q w r p=>exact SeqAt.RcAt.bool_list x p.isList hu'
    | dct ds a ps q w=>exact absurd rfl (nd2 ds)
    | tdc ds a ps q w=>exact absurd rfl (nt2 ds)
  | int x t'=>cases h2 with
    | non=>exact SeqAt.RcAt.int_none x t'
    | bl b=>exact SeqAt.RcAt.int_bool x t' b
    | int b t=>exact SeqAt.RcAt.int_int x t' b t
    | str b t=>exact SeqAt.RcAt.int_str x t' b t
    | tup ds a xs its q w r p=>exact SeqAt.RcAt.int_tuple x t' p hu'
    | lst ds a xs its q w r p=>exact SeqAt.RcAt.int_list x t' p.isList hu'
    | dct ds a ps q w=>exact absurd rfl (nd2 ds)
    | tdc ds a ps q w=>exact absurd rfl (nt2 ds)
  | str x t'=>cases h2 with
    | non=>exact SeqAt.RcAt.str_none x t'
    | bl b=>exact SeqAt.RcAt.str_bool x t' b
    | int b t=>exact SeqAt.RcAt.str_int x t' b t
    | str b t=>exact SeqAt.RcAt.str_str x t' b t
    | tup ds a xs its q w r p=>exact SeqAt.RcAt.str_tuple x t' p hu'
    | lst ds a xs its q w r p=>exact SeqAt.RcAt.str_list x t' p.isList hu'
    | dct ds a ps q w=>exact absurd rfl (nd2 ds)
    | tdc ds a ps q w=>exact absurd rfl (nt2 ds)
  | tup ds1 a1 xs1 its1 q1 w1 r1 p1=>cases h2 with
    | non=>exact SeqAt.RcAt.tuple_none p1 hu'
    | bl b=>exact SeqAt.RcAt.tuple_bool b p1 hu'
    | int b t=>exact SeqAt.RcAt.tuple_int b t p1 hu'
    | str b t=>exact SeqAt.RcAt.tuple_str b t p1 hu'
    | lst ds a xs its q w r p=>exact SeqAt.RcAt.tuple_list p1 p.isList hu'
    | dct ds a ps q w=>exact absurd rfl (nd2 ds)
    | tdc ds a ps q w=>exact absurd rfl (nt2 ds)
    | tup ds2 a2 xs2 its2 q2 w2 r2 p2 =>
      rw [D.eqb,← min_len,← rds_at w1 r1,← rds_at w2 r2]
      have z:=SeqAt.RcAt.tuples (A:=A) (e:=pairEq ds1 ds2) p1 p2 hu' fun j j1 j2=>by
        have:=eqAt_Ds I n ds1 ds2 A its1 its2 xs1 xs2 w1 r1 w2 r2 (by rw [D.pl] at f1;exact f1) (by rw [D.pl] at f2;exact f2) hu j (by simpa using j1) (by simpa using j2)
        simpa using this
      simpa using z
  | lst ds1 a1 xs1 its1 q1 w1 r1 p1=>cases h2 with
    | non=>exact SeqAt.RcAt.list_none p1.isList hu'
    | bl b=>exact SeqAt.RcAt.list_bool b p1.isList hu'
    | int b t=>exact SeqAt.RcAt.list_int b t p1.isList hu'
    | str b t=>exact SeqAt.RcAt.list_str b t p1.isList hu'
    | tup ds a xs its q w r p=>exact SeqAt.RcAt.list_tuple p1.isList p hu'
    | dct ds a ps q w=>exact absurd rfl (nd2 ds)
    | tdc ds a ps q w=>exact absurd rfl (nt2 ds)
    | lst ds2 a2 xs2 its2 q2 w2 r2 p2 =>
      have l1:=rds_at w1 r1
      have l2:=rds_at w2 r2
      rw [D.eqb]
      by_cases hl:ds1.length = ds2.length
      · rw [← eqs_all ds1 ds2 hl,← l1]
        have z:=SeqAt.RcAt.lists (A:=A) (e:=pairEq ds1 ds2) p1.isList p2.isList (by simp only [List.size_toArray];(first | lia | omega)) hu' fun j j1 j2=>by
          have:=eqAt_Ds I n ds1 ds2 A its1 its2 xs1 xs2 w1 r1 w2 r2 (by rw [D.pl] at f1;exact f1) (by rw [D.pl] at f2;exact f2) hu j (by simpa using j1) (by simpa using j2)
          simpa using this
        simpa using z
      · rw [eqs_len ds1 ds2 hl]
        exact SeqAt.RcAt.lists_lengths p1.isList p2.isList (by simp only [List.size_toArray,bne_iff_ne,ne_eq];(first | lia | omega)) hu'
theorem rcNeAt_D (I:Inv X pins σ H s) {n:Nat} {d1 d2:D} {A:Around} {u1 u2:Value} (h1:Sees X H s d1 u1) (h2:Sees X H s d2 u2) (f1:D.pl n d1 = true) (f2:D.pl n d2 = true) (hu:A.units + n < cLine):SeqAt.RcNeAt A s u1 u2 (!D.eqb d1 d2):=by
  have hu':A.units < cLine:=by (first | lia | omega)
  have nd2:∀ ds,d2 ≠ .dct ds:=fun ds z=>by rw [z,D.pl] at f2;cases f2
  have nt2:∀ ds,d2 ≠ .tdc ds:=fun ds z=>by rw [z,D.pl] at f2;cases f2
  cases h1 with
  | dct ds a ps q w=>rw [D.pl] at f1;cases f1
  | tdc ds a ps q w=>rw [D.pl] at f1;cases f1
  | non=>cases h2 with
    | non=>exact SeqAt.RcNeAt.none_none
    | bl b=>exact SeqAt.RcNeAt.none_bool b
    | int b t=>exact SeqAt.RcNeAt.none_int b t
    | str b t=>exact SeqAt.RcNeAt.none_str b t
    | tup ds a xs its q w r p=>exact SeqAt.RcNeAt.none_tuple p hu'
    | lst ds a xs its q w r p=>exact SeqAt.RcNeAt.none_list p.isList hu'
    | dct ds a ps q w=>exact absurd rfl (nd2 ds)
    | tdc ds a ps q w=>exact absurd rfl (nt2 ds)
  | bl x=>cases h2 with
    | non=>exact SeqAt.RcNeAt.bool_none x
    | bl b=>exact SeqAt.RcNeAt.bool_bool x b
    | int b t=>exact SeqAt.RcNeAt.bool_int x b t
    | str b t=>exact SeqAt.RcNeAt.bool_str x b t
    | tup ds a xs its q w r p=>exact SeqAt.RcNeAt.bool_tuple x p hu'
    | lst ds a xs its q w r p=>exact SeqAt.RcNeAt.bool_list x p.isList hu'
    | dct ds a ps q w=>exact absurd rfl (nd2 ds)
    | tdc ds a ps q w=>exact absurd rfl (nt2 ds)
  | int x t'=>cases h2 with
    | non=>exact SeqAt.RcNeAt.int_none x t'
    | bl b=>exact SeqAt.RcNeAt.int_bool x t' b
    | int b t=>exact SeqAt.RcNeAt.int_int x t' b t
    | str b t=>exact SeqAt.RcNeAt.int_str x t' b t
    | tup ds a xs its q w r p=>exact SeqAt.RcNeAt.int_tuple x t' p hu'
    | lst ds a xs its q w r p=>exact SeqAt.RcNeAt.int_list x t' p.isList hu'
    | dct ds a ps q w=>exact absurd rfl (nd2 ds)
    | tdc ds a ps q w=>exact absurd rfl (nt2 ds)
  | str x t'=>cases h2 with
    | non=>exact SeqAt.RcNeAt.str_none x t'
    | bl b=>exact SeqAt.RcNeAt.str_bool x t' b
    | int b t=>exact SeqAt.RcNeAt.str_int x t' b t
    | str b t=>exact SeqAt.RcNeAt.str_str x t' b t
    | tup ds a xs its q w r p=>exact SeqAt.RcNeAt.str_tuple x t' p hu'
    | lst ds a xs its q w r p=>exact SeqAt.RcNeAt.str_list x t' p.isList hu'
    | dct ds a ps q w=>exact absurd rfl (nd2 ds)
    | tdc ds a ps q w=>exact absurd rfl (nt2 ds)
  | tup ds1 a1 xs1 its1 q1 w1 r1 p1=>cases h2 with
    | non=>exact SeqAt.RcNeAt.tuple_none p1 hu'
    | bl b=>exact SeqAt.RcNeAt.tuple_bool b p1 hu'
    | int b t=>exact SeqAt.RcNeAt.tuple_int b t p1 hu'
    | str b t=>exact SeqAt.RcNeAt.tuple_str b t p1 hu'
    | lst ds a xs its q w r p=>exact SeqAt.RcNeAt.tuple_list p1 p.isList hu'
    | dct ds a ps q w=>exact absurd rfl (nd2 ds)
    | tdc ds a ps q w=>exact absurd rfl (nt2 ds)
    | tup ds2 a2 xs2 its2 q2 w2 r2 p2 =>
      rw [D.eqb,← min_len,← rds_at w1 r1,← rds_at w2 r2]
      have z:=SeqAt.RcNeAt.tuples (A:=A) (e:=pairEq ds1 ds2) p1 p2 hu' fun j j1 j2=>by
        have:=eqAt_Ds I n ds1 ds2 A its1 its2 xs1 xs2 w1 r1 w2 r2 (by rw [D.pl] at f1;exact f1) (by rw [D.pl] at f2;exact f2) hu j (by simpa using j1) (by simpa using j2)
        simpa using this
      simpa using z
  | lst ds1 a1 xs1 its1 q1 w1 r1 p1=>cases h2 with
    | non=>exact SeqAt.RcNeAt.list_none p1.isList hu'
    | bl b=>exact SeqAt.RcNeAt.list_bool b p1.isList hu'
    | int b t=>exact SeqAt.RcNeAt.list_int b t p1.isList hu'
    | str b t=>exact SeqAt.RcNeAt.list_str b t p1.isList hu'
    | tup ds a xs its q w r p=>exact SeqAt.RcNeAt.list_tuple p1.isList p hu'
    | dct ds a ps q w=>exact absurd rfl (nd2 ds)
    | tdc ds a ps q w=>exact absurd rfl (nt2 ds)
    | lst ds2 a2 xs2 its2 q2 w2 r2 p2 =>
      have l1:=rds_at w1 r1
      have l2:=rds_at w2 r2
      rw [D.eqb]
      by_cases hl:ds1.length = ds2.length
      · rw [← eqs_all ds1 ds2 hl,← l1]
        have z:=SeqAt.RcNeAt.lists (A:=A) (e:=pairEq ds1 ds2) p1.isList p2.isList (by simp only [List.size_toArray];(first | lia | omega)) hu' fun j j1 j2=>by
          have:=eqAt_Ds I n ds1 ds2 A its1 its2 xs1 xs2 w1 r1 w2 r2 (by rw [D.pl] at f1;exact f1) (by rw [D.pl] at f2;exact f2) hu j (by simpa using j1) (by simpa using j2)
          simpa using this
        simpa using z
      · rw [eqs_len ds1 ds2 hl]
        exact SeqAt.RcNeAt.lists_lengths p1.isList p2.isList (by simp only [List.size_toArray,bne_iff_ne,ne_eq];(first | lia | omega)) hu'
end
section
variable {X:Cx}
theorem big_line:big = sizeLine:=by rw [sizeLine_eq];rfl
theorem op_catS:OpR X (binaryOp .Add) (fun x y H Q=>∃ l b xs zs,x = .ref l ∧ y = .ref b ∧ SqL X.K H l xs ∧ SqL X.K H b zs ∧ xs.length + zs.length ≤ sizeLine ∧ ∀ p,H p = none → Q (.ref p) (upd H p (.lst (xs ++ zs)))):=by
  intro pins s σ H x y v u Q I rx ry h
  obtain ⟨l,b,xs,zs,rfl,rfl,hH,hB,hz,q⟩:=h
  cases rx
  cases ry
  obtain ⟨its,r,pl,z⟩:=I.list hH
  obtain ⟨its2,r2,pl2,z2⟩:=I.list hB
  have hl:=r.length
  have hl2:=r2.length
  obtain ⟨⟨cls,dd,data,sl⟩,ho,hc,n,hd⟩:=pl.isList
  obtain ⟨⟨cls2,dd2,data2,sl2⟩,ho2,hc2,n2,hd2⟩:=pl2.isList
  simp only at hc hd hc2 hd2
  subst hc hd hc2 hd2
  have ea:its.toArray ++ its2.toArray = (its ++ its2).toArray:=by simp
  refine concat_meets ⟨_,ho,rfl⟩ ⟨_,ho2,rfl⟩ noFill_list_add seq_list_add PySem.F.slot_list_add PySem.F.entry_list_add (PySem.F.args_list_add_2 _ _) (list_addW l b its.toArray its2.toArray n n2 dd dd2 sl sl2 (by simp only [List.size_toArray];(first | lia | omega))) ⟨ho,ho2,?_⟩
  rw [ea]
  exact ⟨.ref _,_,I.lnew (t':=s.toks) (r.append r2) (by rw [List.length_append];(first | lia | omega)),rfl,q _ I.fresh⟩
theorem op_catT0:OpR X (binaryOp .Add) (fun x y H Q=>∃ a b xs ys,x = .ref a ∧ y = .ref b ∧ SqT X.K H a xs ∧ SqT X.K H b ys ∧ xs.length + ys.length ≤ sizeLine ∧
    (xs = [] → Q (.ref b) H) ∧ (ys = [] → Q (.ref a) H) ∧ ∀ p,H p = none → Q (.ref p) (upd H p (.tup (xs ++ ys)))):=by
  intro pins s σ H x y v u Q I rx ry h
  obtain ⟨a,b,xs,ys,rfl,rfl,ha,hb,hz,q0,q1,q2⟩:=h
  by_cases hx:xs = []
  · cases rx
    cases ry
    obtain ⟨its,r1,p1,_⟩:=I.tuple ha
    obtain ⟨its2,r2,p2,_⟩:=I.tuple hb
    obtain ⟨⟨cls,dd,data,sl⟩,ho,hc,n,hd⟩:=id p1
    obtain ⟨⟨cls2,dd2,data2,sl2⟩,ho2,hc2,n2,hd2⟩:=id p2
    simp only at hc hd hc2 hd2
    subst hc hd hc2 hd2
    have hv:its = []:=r1.nil_iff.mpr hx
    exact concat_meets ⟨_,ho,rfl⟩ ⟨_,ho2,rfl⟩ noFill_tuple_add seq_tuple_add PySem.F.slot_tuple_add PySem.F.entry_tuple_add (PySem.F.args_tuple_add_2 _ _)
      (tuple_addW0 a b its.toArray its2.toArray n n2 dd dd2 sl sl2 (by simp [hv])) ⟨ho,ho2,⟨.ref b,H,I,rfl,q0 hx⟩⟩
  · exact op_catT pins s σ H _ _ v u Q I rx ry ⟨a,b,xs,ys,rfl,rfl,ha,hb,hx,hz,q1,fun _=>q2⟩
end
end Tr
namespace Tr
open PySem PySem.Spec PyProof.Rows L2
section
variable {X:Cx}
noncomputable def Roomy (X:Cx):Prop:=X.A.units + 64 < cLine
theorem RDs.rep {K:PySem.W.Frag} {H:Hp} {O:Addr → Prop} {ds:List D} {vs:List V} (h:RDs K H O ds vs):∀ n:Nat,RDs K H O (List.replicate n ds).flatten (List.replicate n vs).flatten
  | 0=>rfl
  | n + 1=>by
    rw [List.replicate_succ,List.replicate_succ,List.flatten_cons,List.flatten_cons]
    exact RDs.append h (RDs.rep h n)
theorem opr_bin (o:Operator) (fr:Bool) (hfr:fr = true → o = .Add):OpR X (binaryOp o) (rD2 X.K (D.bin o) fr):=by
  intro pins s σ H x y v u Q I rx ry h
  obtain ⟨O,d1,d2,d,r1,r2,ev,tr,k⟩:=h
  have kk:∀ w,d.still = true → RD X.K H O d w → Q w H:=fun w n r=>k w H (Same.refl H) r fun _=>NewL.still n
  unfold D.bin at ev
  split at ev
  · cases ev
    cases (show x = _ from r1.rd rfl)
    cases (show y = _ from r2.rd rfl)
    exact op_add pins s σ H _ _ v u Q I rx ry ⟨_,_,rfl,rfl,kk _ rfl rfl⟩
  · obtain ⟨c,ev⟩:=when_ok ev
    cases ev
    cases (show x = _ from r1.rd rfl)
    cases (show y = _ from r2.rd rfl)
    exact op_add_str pins s σ H _ _ v u Q I rx ry ⟨_,_,rfl,rfl,by rw [← big_line];exact of_decide_eq_true c,kk _ rfl rfl⟩
  · obtain ⟨c,ev⟩:=when_ok ev
    cases ev
    obtain ⟨a1,xs1,rfl,q1,w1⟩:=r1.lst
    obtain ⟨a2,xs2,rfl,q2,w2⟩:=r2.lst
    refine op_catS pins s σ H _ _ v u Q I rx ry ⟨a1,a2,xs1,xs2,rfl,rfl,q1,q2,by rw [← big_line,w1.length,w2.length];exact of_decide_eq_true c,fun p hp=>?_⟩
    have z:=new_lst (w1.append w2) hp tr
    exact k _ _ (same_upd hp _) z.1 fun _=>z.2
  · obtain ⟨c,ev⟩:=when_ok ev
    cases ev
    obtain ⟨a1,xs1,rfl,q1,w1⟩:=r1.tup
    obtain ⟨a2,xs2,rfl,q2,w2⟩:=r2.tup
    refine op_catT0 pins s σ H _ _ v u Q I rx ry ⟨a1,a2,xs1,xs2,rfl,rfl,q1,q2,by rw [← big_line,w1.length,w2.length];exact of_decide_eq_true c,fun z=>?_,fun z=>?_,fun p hp=>?_⟩
    · subst z
      have e:=w1.length
      have e':_ = []:=List.eq_nil_of_length_eq_zero e.symm
      subst e'
      exact kk _ rfl ⟨a2,xs2,rfl,q2,by simpa using w2⟩
    · subst z
      have e:=w2.length
      have e':_ = []:=List.eq_nil_of_length_eq_zero e.symm
      subst e'
      exact kk _ rfl ⟨a1,xs1,rfl,q1,by simpa using w1⟩
    · have z:=new_tup (w1.append w2) hp
      exact k _ _ (same_upd hp _) z fun _=>NewL.still rfl
  · cases ev
    cases (show x = _ from r1.rd rfl)
    cases (show y = _ from r2.rd rfl)
    exact op_sub pins s σ H _ _ v u Q I rx ry ⟨_,_,rfl,rfl,kk _ rfl rfl⟩
  · obtain ⟨c,ev⟩:=when_ok ev
    cases ev
    cases (show x = _ from r1.rd rfl)
    cases (show y = _ from r2.rd rfl)
    refine op_mul pins s σ H _ _ v u Q I rx ry ⟨_,_,rfl,rfl,?_,kk _ rfl rfl⟩
    simp only [small64,Bool.or_eq_true,Bool.and_eq_true,decide_eq_true_eq] at c
    exact c
  · rename_i aa jj
    obtain ⟨c,ev⟩:=when_ok ev
    cases ev
    simp only [Bool.and_eq_true,decide_eq_true_eq] at c
    obtain ⟨a1,xs1,rfl,q1,w1⟩:=r1.tup
    cases (show y = _ from r2.rd rfl)
    cases rx
    obtain ⟨t,rfl⟩:=ry
    obtain ⟨its,r,pl,hz⟩:=I.tuple q1
    have hl1:its.length = 1:=by rw [← r.length,w1.length];exact c.1.1
    refine mul_tuple pl hl1 ⟨c.1.2,c.2⟩ (fun z=>?_) (fun z=>?_)
    · subst z
      refine ⟨.ref a1,H,I,rfl,kk _ rfl ⟨a1,xs1,rfl,q1,?_⟩⟩
      simpa using w1
    · have hp:=I.hok.fresh (Nat.le_refl s.heap.objs.size)
      have hlen:(List.replicate jj.toNat xs1).flatten.length ≤ sizeLine:=by
        rw [len_rep,w1.length,c.1.1,sizeLine_eq]
        have:=c.2
        (first | lia | omega)
      refine ⟨.ref s.heap.objs.size,_,I.laid (o:=.tup (List.replicate jj.toNat xs1).flatten) (t':=s.toks) (fun b u e=>Heap.get?_push_of_some _ e) (Nat.le_refl _) ⟨hlen,_,r.rep _,⟨_,Heap.get?_push_size _ rfl,rfl,_,rfl⟩⟩,rfl,?_⟩
      exact k _ _ (same_upd hp _) (new_tup (w1.rep _) hp) fun _=>NewL.still rfl
  · obtain ⟨c,ev⟩:=when_ok ev
    cases ev
    cases (show x = _ from r1.rd rfl)
    cases (show y = _ from r2.rd rfl)
    refine op_fdiv pins s σ H _ _ v u Q I rx ry ⟨_,_,rfl,rfl,?_,kk _ rfl rfl⟩
    simp only [Bool.and_eq_true,decide_eq_true_eq] at c
    exact c
  · obtain ⟨c,ev⟩:=when_ok ev
    cases ev
    cases (show x = _ from r1.rd rfl)
    cases (show y = _ from r2.rd rfl)
    exact op_mod pins s σ H _ _ v u Q I rx ry ⟨_,_,rfl,rfl,of_decide_eq_true c,kk _ rfl rfl⟩
  · obtain ⟨c,ev⟩:=when_ok ev
    cases ev
    cases (show x = _ from r1.rd rfl)
    cases (show y = _ from r2.rd rfl)
    refine op_pow pins s σ H _ _ v u Q I rx ry ⟨_,_,rfl,rfl,?_,kk _ rfl rfl⟩
    simp only [Bool.and_eq_true,decide_eq_true_eq] at c
    exact ⟨c.1.1,c.1.2,c.2⟩
  · cases ev
theorem rdk_val {K:PySem.W.Frag} {H:Hp} {O:Addr → Prop} {k:Key}:∀ {ds:List (Sum Int Str × D)} {ps:List (Key × V)},RDk K H O ds ps → (∀ d,valK ds k = some d → ∃ v,valV ps k = some v ∧ RD K H O d v) ∧ (valK ds k).isSome = (valV ps k).isSome
  | [],ps,h=>by
    rw [RDk] at h;subst h
    exact ⟨fun d e=>(by cases e),rfl⟩
  | (k',d') :: ds,ps,h=>by
    obtain ⟨v,r,rfl,h1,h2⟩:=h
    have ih:=rdk_val (k:=k) h2
    by_cases e:k' = k
    · subst e
      have e1:valK ((k',d') :: ds) k' = some d':=by simp [valK,List.find?_cons]
      rw [e1,valV_pos (p:=(k',v)) rfl]
      exact ⟨fun d z=>(by cases z;exact ⟨v,rfl,h1⟩),rfl⟩
    · have e1:valK ((k',d') :: ds) k = valK ds k:=by simp [valK,List.find?_cons,e]
      rw [e1,valV_neg (p:=(k',v)) e]
      exact ih
theorem key_val {K:PySem.W.Frag} {H:Hp} {O:Addr → Prop} {d:D} {v:V} {k:Key} (h:keyOf d = some k) (r:RR K H O d v):v = kV k:=by
  cases d with
  | int i=>cases h;exact r.rd rfl
  | str i=>cases h;exact r.rd rfl
  | non=>cases h
  | bl _=>cases h
  | tup _=>cases h
  | lst _=>cases h
  | dct _=>cases h
  | tdc _=>cases h
theorem of_ok {α:Type} {o:Option α} {a:α} (h:Res.of o = .ok a):o = some a:=by
  cases o with
  | none=>cases h
  | some b=>cases h;rfl
theorem Sees.inj {H:Hp} {s:Shared} {pins:List (Addr × Obj)} {σ:L2.St} (I:Inv X pins σ H s) {d d':D} {w:Value} (h:Sees X H s d w) (h':Sees X H s d' w):d = d':=by
  cases h with
  | non=>cases h';rfl
  | bl b=>cases h';rfl
  | int i t=>cases h';rfl
  | str x t=>cases h';rfl
  | tup ds a xs its q w r p =>
    cases h' with
    | tup ds' _ xs' its' q' w' r' p'=>have:=I.tuple_inj q q';subst this;rw [RDs.inj I w w']
    | lst ds' _ xs' its' q' w' r' p'=>exact (sq_apart I q' q).elim
    | dct ds' _ ps' q' w'=>exact (dk_tup I q' q).elim
    | tdc ds' _ ps' q' w'=>exact (dt_tup I q' q).elim
  | dct ds a ps q w =>
    cases h' with
    | dct ds' _ ps' q' w'=>have:=q.symm.trans q';cases this;rw [RDk.inj I w w']
    | tup ds' _ xs' its' q' w' r' p'=>exact (dk_tup I q q').elim
    | lst ds' _ xs' its' q' w' r' p'=>exact (dk_lst I q q').elim
    | tdc ds' _ ps' q' w'=>have:=q.symm.trans q';cases this
  | tdc ds a ps q w =>
    cases h' with
    | tdc ds' _ ps' q' w'=>have:=q.symm.trans q';cases this;rw [RDt.inj I w w']
    | tup ds' _ xs' its' q' w' r' p'=>exact (dt_tup I q q').elim
    | lst ds' _ xs' its' q' w' r' p'=>exact (dt_lst I q q').elim
    | dct ds' _ ps' q' w'=>have:=q.symm.trans q';cases this
  | lst ds a xs its q w r p =>
    cases h' with
    | lst ds' _ xs' its' q' w' r' p'=>have:=I.list_inj q q';subst this;rw [RDs.inj I w w']
    | tup ds' _ xs' its' q' w' r' p'=>exact (sq_apart I q q').elim
    | dct ds' _ ps' q' w'=>exact (dk_lst I q' q).elim
    | tdc ds' _ ps' q' w'=>exact (dt_lst I q' q).elim
open Classical in
noncomputable def seen (X:Cx) (H:Hp) (s:Shared) (x:D) (w:Value):Bool:=decide (∃ d,Sees X H s d w ∧ D.eqb d x = true)
theorem seen_eq {H:Hp} {s:Shared} {pins:List (Addr × Obj)} {σ:L2.St} (I:Inv X pins σ H s) {d x:D} {w:Value} (sd:Sees X H s d w):seen X H s x w = D.eqb d x:=by
  classical
  unfold seen
  by_cases h:D.eqb d x = true
  · rw [h];simp only [decide_eq_true_eq];exact ⟨d,sd,h⟩
  · have h':D.eqb d x = false:=by simpa using h
    rw [h']
    simp only [decide_eq_false_iff_not]
    rintro ⟨d',sd',h''⟩
    rw [Sees.inj I sd' sd] at h''
    exact h h''
theorem in_tab {H:Hp} {s:Shared} {pins:List (Addr × Obj)} {σ:L2.St} (I:Inv X pins σ H s) {x:D} {ux:Value} {n:Nat} {A:Around} (hx:Sees X H s x ux) (fx:D.pl n x = true) (hu:A.units + n < cLine) :
    ∀ {ds:List D} {xs:List V} {us:List Value},RDs X.K H no ds xs → Vals xs us → D.pls (n + 1) ds = true → (∀ w ∈ us,SeqAt.EqAt A s w ux (seen X H s x w)) ∧ us.any (seen X H s x) = D.mem x ds
  | [],xs,us,w,r,f=>by
    rw [RDs] at w;subst w;cases r
    exact ⟨fun w h=>absurd h List.not_mem_nil,rfl⟩
  | d :: ds,xs,us,w,r,f=>by
    obtain ⟨v,ys,rfl,e1,e2⟩:=w
    rw [D.pls,Bool.and_eq_true] at f
    cases r with
    | cons a1 r1 =>
      have ih:=in_tab I hx fx hu e2 r1 f.2
      have sd:=sees I e1 a1
      refine ⟨fun w hw=>?_,?_⟩
      · rcases List.mem_cons.mp hw with rfl | hw
        · rw [seen_eq I sd]
          exact eqAt_D I n d x A w ux sd hx f.1 fx hu
        · exact ih.1 w hw
      · rw [List.any_cons,D.mem,ih.2,seen_eq I sd]
theorem isNon_eq {K:PySem.W.Frag} {H:Hp} {d:D} {x:V} (r:RD K H no d x):decide (x = .non) = D.isNon d:=by
  cases d with
  | non=>cases (show x = .non from r);rfl
  | bl b=>cases (show x = .bl b from r);rfl
  | int b=>cases (show x = .int b from r);rfl
  | str b=>cases (show x = .str b from r);rfl
  | tup ds=>obtain ⟨a,xs,rfl,_⟩:=r;rfl
  | lst ds=>obtain ⟨a,xs,rfl,_⟩:=r;rfl
  | dct ds=>obtain ⟨a,xs,rfl,_⟩:=r;rfl
  | tdc ds=>obtain ⟨a,xs,rfl,_⟩:=r;rfl
theorem opr_cmp (o:CmpOp) (hroom:Roomy X):OpR X (compareOp o) (rD2 X.K (D.cmp o) false):=by
  intro pins s σ H x y v u Q I rx ry h
  obtain ⟨O,d1,d2,d,r1,r2,ev,tr,k⟩:=h
  have hroom':X.A.units + 64 < cLine:=hroom
  have kk:∀ b,d = .bl b → Q (.bl b) H:=fun b e=>k _ H (Same.refl H) (by subst e;exact rfl) fun z=>by cases z
  have s1:=sees I r1.bare rx
  have s2:=sees I r2.bare ry
  unfold D.cmp at ev
  split at ev
  · obtain ⟨c,ev⟩:=when_ok ev
    cases ev
    unfold D.eqOk at c
    rw [Bool.and_eq_true] at c
    exact rcAt_D I s1 s2 c.1 c.2 (by (first | lia | omega)) X.prog X.w X.xe _ ⟨.bl _,H,I,rfl,kk _ rfl⟩
  · obtain ⟨c,ev⟩:=when_ok ev
    cases ev
    unfold D.eqOk at c
    rw [Bool.and_eq_true] at c
    exact rcNeAt_D I s1 s2 c.1 c.2 (by (first | lia | omega)) X.prog X.w X.xe _ ⟨.bl _,H,I,rfl,kk _ rfl⟩
  · cases ev
    cases (show x = _ from r1.rd rfl)
    cases (show y = _ from r2.rd rfl)
    exact op_lt pins s σ H _ _ v u Q I rx ry ⟨_,_,rfl,rfl,kk _ rfl⟩
  · cases ev
    cases (show x = _ from r1.rd rfl)
    cases (show y = _ from r2.rd rfl)
    exact op_le pins s σ H _ _ v u Q I rx ry ⟨_,_,rfl,rfl,kk _ rfl⟩
  · cases ev
    cases (show x = _ from r1.rd rfl)
    cases (show y = _ from r2.rd rfl)
    exact op_gt pins s σ H _ _ v u Q I rx ry ⟨_,_,rfl,rfl,kk _ rfl⟩
  · cases ev
    cases (show x = _ from r1.rd rfl)
    cases (show y = _ from r2.rd rfl)
    exact op_ge pins s σ H _ _ v u Q I rx ry ⟨_,_,rfl,rfl,kk _ rfl⟩
  · cases ev
    cases (show y = _ from r2.rd rfl)
    have e:decide (x = .non) = D.isNon d1:=isNon_eq r1.bare
    exact op_isN pins s σ H _ _ v u Q I rx ry ⟨rfl,by rw [e];exact kk _ rfl⟩
  · cases ev
    cases (show y = _ from r2.rd rfl)
    have e:decide (x = .non) = D.isNon d1:=isNon_eq r1.bare
    exact op_notN pins s σ H _ _ v u Q I rx ry ⟨rfl,by rw [e];exact kk _ rfl⟩
  · cases ev
    cases (show x = _ from r1.rd rfl)
    cases (show y = _ from r2.rd rfl)
    cases rx
    cases ry
    exact is_bool (fin_bl I (kk _ rfl) rfl)
  · cases ev
    cases (show x = _ from r1.rd rfl)
    cases (show y = _ from r2.rd rfl)
    cases rx
    cases ry
    exact isnot_bool (fin_bl I (kk _ rfl) rfl)
  · obtain ⟨b,e1,ev⟩:=Res.bind_ok ev
    cases ev
    unfold D.inn at e1
    split at e1
    · obtain ⟨c,e1⟩:=when_ok e1
      cases e1
      rw [Bool.and_eq_true] at c
      cases s2 with
      | lst ds a xs its q w r p =>
        have t:=in_tab I (n:=29) (A:=X.A.in1) s1 c.2 (by show X.A.units + 1 + 29 < cLine;(first | lia | omega)) w r c.1
        refine SeqAt.in_listAt (seen X H s d1) p.isList (fun w hw=>t.1 w (by simpa using hw)) ⟨.bl _,H,I,rfl,?_⟩
        rw [show its.toArray.any (seen X H s d1) = its.any (seen X H s d1) by simp,t.2]
        exact kk _ rfl
    · obtain ⟨c,e1⟩:=when_ok e1
      cases e1
      rw [Bool.and_eq_true] at c
      cases s2 with
      | tup ds a xs its q w r p =>
        have t:=in_tab I (n:=29) (A:=X.A.in1) s1 c.2 (by show X.A.units + 1 + 29 < cLine;(first | lia | omega)) w r c.1
        refine SeqAt.in_tupleAt (seen X H s d1) p (fun w hw=>t.1 w (by simpa using hw)) ⟨.bl _,H,I,rfl,?_⟩
        rw [show its.toArray.any (seen X H s d1) = its.any (seen X H s d1) by simp,t.2]
        exact kk _ rfl
    · obtain ⟨key,e2,e1⟩:=Res.bind_ok e1
      cases e1
      obtain ⟨a,ps,rfl,q,w⟩:=r2.dct
      cases ry
      have ex:=key_val (of_ok e2) r1
      subst ex
      refine d_in (by (first | lia | omega)) I (DGet.k q) rx fun s' I'=>⟨.bl _,H,I',rfl,?_⟩
      rw [← (rdk_val (k:=key) w).2]
      exact kk _ rfl
    · split at e1
      · cases (show x = _ from r1.rd rfl)
        cases (show y = _ from r2.rd rfl)
        exact op_in_str pins s σ H _ _ v u Q I rx ry ⟨_,_,rfl,rfl,by rw [oneIn_ok e1];exact kk _ rfl⟩
      · cases e1
    · cases e1
  · obtain ⟨b,e1,ev⟩:=Res.bind_ok ev
    cases ev
    unfold D.inn at e1
    split at e1
    · obtain ⟨c,e1⟩:=when_ok e1
      cases e1
      rw [Bool.and_eq_true] at c
      cases s2 with
      | lst ds a xs its q w r p =>
        have t:=in_tab I (n:=29) (A:=X.A.in1) s1 c.2 (by show X.A.units + 1 + 29 < cLine;(first | lia | omega)) w r c.1
        refine SeqAt.notIn_listAt (seen X H s d1) p.isList (fun w hw=>t.1 w (by simpa using hw)) ⟨.bl _,H,I,rfl,?_⟩
        rw [show its.toArray.any (seen X H s d1) = its.any (seen X H s d1) by simp,t.2]
        exact kk _ rfl
    · obtain ⟨c,e1⟩:=when_ok e1
      cases e1
      rw [Bool.and_eq_true] at c
      cases s2 with
      | tup ds a xs its q w r p =>
        have t:=in_tab I (n:=29) (A:=X.A.in1) s1 c.2 (by show X.A.units + 1 + 29 < cLine;(first | lia | omega)) w r c.1
        refine SeqAt.notIn_tupleAt (seen X H s d1) p (fun w hw=>t.1 w (by simpa using hw)) ⟨.bl _,H,I,rfl,?_⟩
        rw [show its.toArray.any (seen X H s d1) = its.any (seen X H s d1) by simp,t.2]
        exact kk _ rfl
    · obtain ⟨key,e2,e1⟩:=Res.bind_ok e1
      cases e1
      obtain ⟨a,ps,rfl,q,w⟩:=r2.dct
      cases ry
      have ex:=key_val (of_ok e2) r1
      subst ex
      refine d_notIn (by (first | lia | omega)) I (DGet.k q) rx fun s' I'=>⟨.bl _,H,I',rfl,?_⟩
      rw [← (rdk_val (k:=key) w).2]
      exact kk _ rfl
    · split at e1
      · cases (show x = _ from r1.rd rfl)
        cases (show y = _ from r2.rd rfl)
        exact op_notin_str pins s σ H _ _ v u Q I rx ry ⟨_,_,rfl,rfl,by rw [oneIn_ok e1];exact kk _ rfl⟩
      · cases e1
    · cases e1
  · cases ev
theorem ixN_eq (n:Nat) (i:Int):Tr.ixN n i = L2.ixN n i:=rfl
theorem rds_atI {K:PySem.W.Frag} {H:Hp} {O:Addr → Prop} {ds:List D} {xs:List V} {i:Int} {d:D} (w:RDs K H O ds xs) (h:Tr.atI ds i = some d):∃ v,L2.atI xs i = some v ∧ RD K H O d v:=by
  unfold Tr.atI at h
  unfold L2.atI
  rw [w.length]
  rw [ixN_eq] at h
  cases e:L2.ixN ds.length i with
  | none=>rw [e] at h;cases h
  | some j =>
    rw [e] at h
    exact w.get h
theorem d_ix {value slice:Expr} {pins:List (Addr × Obj)} {s:Shared} {σ:L2.St} {H:Hp} {a:Addr} {y v0:V} {u:Value} {Q:VK} (I:Inv X pins σ H s) (g:DGet H a y (some v0)) (ry:RelV y u) (hroom:Roomy X) (q:Q v0 H)
    (hs:subscripted slice false (.ref a) u = operate [.ref a,u] (getItem (.ref a) u)):wpAny (model X.prog X.w) X.A (subscriptTail value slice (.ref a) u) (EP X pins σ Q) X.xe s:=by
  have hroom':X.A.units + 64 < cLine:=hroom
  have hT:=dict_typeIs I g
  unfold subscriptTail
  refine wpAny_bind ?_
  rw [getitemInPython_of_ne hT.not_modules]
  refine wpAny_bind (wpAny_specialOf hT PySem.F.slot_dict_getitem.lookup ?_)
  have fin:wpAny (model X.prog X.w) X.A (subscripted slice false (.ref a) u) (fun r s₃=>wpAny (model X.prog X.w) X.A (letTemporaryGo value (.ref a) r >>= fun _=>pure r) (EP X pins σ Q) X.xe s₃) X.xe s:=by
    rw [hs]
    exact wpAny_operating (d_getItem (by (first | lia | omega)) I g ry fun w' s3 I3 rw'=>wpAny_bind (wpAny_letTemporaryGo (wpAny_pure ⟨v0,H,I3,rw',q⟩)))
  first
    | exact wpAny_pure (wpAny_bind fin)
    | exact wpAny_bind (wpAny_pure (wpAny_bind fin))
    | exact wpAny_bind fin
theorem ixr (hroom:Roomy X):IxR X (rD2 X.K D.ix false):=by
  intro value slice pins s σ H x y v u Q I rx ry h hs
  obtain ⟨O,d1,d2,d,r1,r2,ev,tr,k⟩:=h
  have kk:∀ w,RD X.K H O d w → Q w H:=fun w r=>k w H (Same.refl H) r fun z=>by cases z
  unfold D.ix at ev
  split at ev
  · obtain ⟨a1,xs1,rfl,q1,w1⟩:=r1.lst
    cases (show y = _ from r2.rd rfl)
    rename_i ds i
    cases e:Tr.atI ds i with
    | none=>rw [e] at ev;cases ev
    | some d0 =>
      rw [e] at ev;cases ev
      obtain ⟨w,h1,h2⟩:=rds_atI w1 e
      exact ix_list value slice pins s σ H _ _ v u Q I rx ry ⟨a1,xs1,_,w,rfl,rfl,q1,h1,kk w h2⟩ hs
  · obtain ⟨a1,xs1,rfl,q1,w1⟩:=r1.tup
    cases (show y = _ from r2.rd rfl)
    rename_i ds i
    cases e:Tr.atI ds i with
    | none=>rw [e] at ev;cases ev
    | some d0 =>
      rw [e] at ev;cases ev
      obtain ⟨w,h1,h2⟩:=rds_atI w1 e
      exact ix_tup value slice pins s σ H _ _ v u Q I rx ry ⟨a1,xs1,_,w,rfl,rfl,q1,h1,kk w h2⟩ hs
  · rename_i z i
    obtain ⟨c,ev⟩:=when_ok ev
    cases (show x = .str z from r1.rd rfl)
    cases (show y = .int i from r2.rd rfl)
    cases e:Tr.atI z.cps.toList i with
    | none=>rw [e] at ev;cases ev
    | some c0 =>
      rw [e] at ev;cases ev
      exact ix_str value slice pins s σ H _ _ v u Q I rx ry ⟨z,i,c0,rfl,rfl,by rw [← big_line];exact of_decide_eq_true c,e,kk _ rfl⟩ hs
  · rename_i kvs y0
    obtain ⟨key,e2,ev⟩:=Res.bind_ok ev
    obtain ⟨a,ps,rfl,q,w⟩:=r1.dct
    cases rx
    have ex:=key_val (of_ok e2) r2
    subst ex
    have hroom':X.A.units + 64 < cLine:=hroom
    obtain ⟨v0,h1,h2⟩:=(rdk_val (k:=key) w).1 _ (of_ok ev)
    have g:DGet H a (kV key) (some v0):=by rw [← h1];exact DGet.k q
    exact d_ix I g ry hroom (kk v0 h2) hs
  · cases ev
end
end Tr
namespace Tr
open PySem PySem.Spec PyProof.Rows L2
noncomputable def plainX:Expr → Bool
  | .Starred _ _=>false
  | .Slice _ _ _ _=>false
  | .Set _ _ _=>false
  | _=>true
theorem plain_ix {e:Expr} (h:plainX e = true):PlainIx e:=by
  intro o i
  cases e <;> first | rfl | (cases h)
theorem plain_star {e:Expr} {es:List Expr} {env:Env} (h:plainX e = true):starEach (e :: es) env = (false,eval e env) :: starEach es env:=by
  cases e <;> first | rfl | (cases h)
theorem plain_any {pos:Pos} {env:Env}:∀ {es:List Expr},es.all plainX = true → (backTo pos (starEach es env)).any (·.1) = false
  | [],_=>rfl
  | e :: es,h=>by
    rw [List.all_cons,Bool.and_eq_true] at h
    have ih:=plain_any (pos:=pos) (env:=env) h.2
    rw [plain_star h.1]
    show (false || (backTo pos (starEach es env)).any (·.1)) = false
    rw [ih];rfl
theorem plain_mark {o:CmpOp} {e:Expr} (h:plainX e = true):behindInMarks o e = false:=by
  cases e <;> first | rfl | (cases h)
theorem plain_fold {e:Expr} {env:Env} (h:plainX e = true):∀ x,foldedSetIterable e env x = pure x:=by
  intro x
  cases e <;> first | rfl | (cases h)
section
variable {T:Tab} {cf:Nat → List D → Res D} {X:Cx} {x y z:E} {p q r:Expr} {pos:Pos} {es:List Expr}
theorem se_bin {o:Operator} (ha:SR T cf X x p) (hb:SR T cf X y q):SE T cf X (.bin o x y) (.BinOp p o q pos) :=
  se_op2 (f:=D.bin o) (fun e=>rfl) (fun h1 h2=>pe_op (opr_bin o _ (by cases o <;> first | (intro _;rfl) | (intro z;cases z))) h1 h2) ha hb
theorem se_cmp {o:CmpOp} (hR:Roomy X) (hm:plainX q = true) (ha:SR T cf X x p) (hb:SR T cf X y q):SE T cf X (.cmp o x y) (.Compare p [o] [q] pos) :=
  se_op2 (f:=D.cmp o) (fun e=>rfl) (fun h1 h2=>pe_cmpR (opr_cmp o hR) h1 h2 (plain_mark hm)) ha hb
theorem se_ix (hR:Roomy X) (hm:plainX q = true) (ha:SR T cf X x p) (hb:SR T cf X y q):SE T cf X (.ix x y) (.Subscript p q pos) :=
  se_op2 (f:=D.ix) (fun e=>rfl) (fun h1 h2=>pe_ix (ixr hR) h1 h2 (plain_ix hm)) ha hb
theorem sl_whole {X:Cx}:SlR X (fun x lo hi H Q=>∃ a xs,x = .ref a ∧ SqT X.K H a xs ∧ (HT.sIx xs.length 0 lo = 0 ∧ HT.sIx xs.length xs.length hi = xs.length) ∧ Q (.ref a) H):=by
  intro pins s σ H x v vl vu lo hi sl Q I rx hs pl pu h
  obtain ⟨a,xs,rfl,hx,hw,q⟩:=h
  cases rx
  obtain ⟨its,r,ht,hz⟩:=I.tuple hx
  have hlen:its.toArray.size = xs.length:=by rw [List.size_toArray];exact r.length.symm
  refine ⟨"tuple", _,PyProof.Rows.slot_tuple_getitem.lookup,ht.typeIs,?_⟩
  obtain ⟨os,hos,hcs,hds⟩:=id hs
  have hTs:s.TypeIs (.ref sl) "slice" := ⟨os,hos,hcs⟩
  have fin:EP X pins σ Q (.ref a) s:=⟨.ref a,H,I,rfl,q⟩
  unfold getItem
  try with_reducible refine wpAny_holding ?_
  first | refine wpAny_bind (wpAny_pure ?_) | skip
  refine wpAny_bind (wpAny_sequenceKey ht.typeIs (by decide) ?_)
  refine wpAny_bind (wpAny_callSpecial?_slot (name:=Str.ofString "__getitem__") ht.typeIs PyProof.Rows.slot_tuple_getitem
    (wpAny_call_entry PyProof.Rows.slot_tuple_getitem ht.typeIs entry_tuple_getitem ?_ (args_tuple_getitem _ _)))
  show wpAny _ _ (Builtin.Tuple.tupleItemsOf (.ref a) >>= _) _ _ s
  refine wpAny_bind (tupleItemsOf_ ht ?_)
  refine wpAny_bind (wpAny_typeOf hTs ?_)
  rw [if_pos (by decide)]
  refine wpAny_bind (HT.sliceApplied_gen hs pl pu ?_)
  have hyes:(((HT.sIx its.toArray.size 0 lo:Nat):Int) == 0 && (1:Int) == 1 && (HT.sIx its.toArray.size its.toArray.size hi - HT.sIx its.toArray.size 0 lo) == its.toArray.size) = true:=by
    rw [hlen,hw.1,hw.2];simp
  show wpAny _ _ (if (((HT.sIx its.toArray.size 0 lo:Nat):Int) == 0 && (1:Int) == 1 && (HT.sIx its.toArray.size its.toArray.size hi - HT.sIx its.toArray.size 0 lo) == its.toArray.size) = true then _ else _) _ _ s
  rw [if_pos hyes]
  refine wpAny_bind (m:=Builtin.Tuple.tupleIsExact (.ref a)) ?_
  unfold Builtin.Tuple.tupleIsExact
  refine wpAny_bind (wpAny_typeOf ht.typeIs (wpAny_pure ?_))
  rw [if_pos (by decide)]
  refine wpAny_bind (wpAny_rule ?_)
  first
    | exact wpAny_pure ⟨_,rfl,wpAny_pure fin⟩
    | exact wpAny_bind (wpAny_pure ⟨_,rfl,wpAny_pure fin⟩)
    | exact wpAny_bind (wpAny_pure (wpAny_pure ⟨_,rfl,wpAny_pure fin⟩))
    | trace_state
end
end Tr
namespace Tr
open PySem PySem.Spec PyProof.Rows L2
section
variable {T:Tab} {cf:Nat → List D → Res D} {X:Cx} {x y z:E} {p q r:Expr} {pos pos':Pos} {es:List Expr}
theorem sIx_eq (n d:Nat) (o:Option Int):Tr.sIx n d o = HT.sIx n d o:=by cases o <;> rfl
theorem slr:SlR X (fun v lo hi H Q=>∃ O d0 d,RR X.K H O d0 v ∧ D.sl d0 lo hi = .ok d ∧ (∀ a,O a → ∃ o,H a = some o) ∧ ∀ w H',Same H H' → RD X.K H' O d w → NewL X.K H H' O d w → Q w H'):=by
  intro pins s σ H x v vl vu lo hi sl Q I rx hs pl pu h
  obtain ⟨O,d0,d,r0,ev,tr,k⟩:=h
  unfold D.sl at ev
  split at ev
  · cases ev
    obtain ⟨a,xs,rfl,q0,w0⟩:=r0.lst
    refine sl_list pins s σ H _ v vl vu _ _ sl Q I rx hs pl pu ⟨a,xs,rfl,q0,fun p hp=>?_⟩
    have z:=new_lst (w0.cut lo hi) hp tr
    exact k _ _ (same_upd hp _) z.1 z.2
  · cases ev
    obtain ⟨a,xs,rfl,q0,w0⟩:=r0.tup
    by_cases hw:HT.sIx xs.length 0 lo = 0 ∧ HT.sIx xs.length xs.length hi = xs.length
    · refine sl_whole pins s σ H _ v vl vu _ _ sl Q I rx hs pl pu ⟨a,xs,rfl,q0,hw,?_⟩
      refine k _ _ (Same.refl H) ⟨a,xs,rfl,q0,?_⟩ (NewL.still rfl)
      unfold Tr.cut
      rw [← w0.length,sIx_eq,sIx_eq,hw.1,hw.2,List.drop_zero,Nat.sub_zero,List.take_of_length_le (by rw [w0.length];exact Nat.le_refl _)]
      exact w0
    · refine sl_tup pins s σ H _ v vl vu _ _ sl Q I rx hs pl pu ⟨a,xs,rfl,q0,hw,fun p hp=>?_⟩
      exact k _ _ (same_upd hp _) (new_tup (w0.cut lo hi) hp) (NewL.still rfl)
  · obtain ⟨c,ev⟩:=when_ok ev
    cases ev
    cases (show x = _ from r0.rd rfl)
    exact sl_str pins s σ H _ v vl vu _ _ sl Q I rx hs pl pu ⟨_,rfl,by rw [← big_line];exact of_decide_eq_true c,k _ H (Same.refl H) rfl (NewL.still rfl)⟩
  · cases ev
noncomputable def SO (T:Tab) (cf:Nat → List D → Res D) (X:Cx) (x:E) (p:Option Expr):Prop:=∀ H₀ O₀,PO X p (fun σ H Q=>∃ O own e d o,Fm X.K H₀ O₀ H O own e σ ∧ evE T cf x e = .ok d ∧ d.part = .ok o ∧ ∀ H',Same H H' → Q o H')
theorem so_omit:SO T cf X .omit none:=fun H₀ O₀ pins s σ H Q I ⟨O,own,e,d,o,F,ev,ep,k⟩=>by
  (first | rw [xE_var] at ev | rw [xE_rd] at ev | rw [xE_con] at ev | rw [xE_glob] at ev | rw [xE_bin] at ev | rw [xE_cmp] at ev | rw [xE_chain] at ev | rw [xE_and] at ev | rw [xE_or] at ev | rw [xE_not] at ev | rw [xE_neg] at ev | rw [xE_ife] at ev | rw [xE_ix] at ev | rw [xE_sl] at ev | rw [xE_omit] at ev | rw [xE_tup] at ev | rw [xE_lst] at ev | rw [xE_call] at ev | rw [xE_callB] at ev | rw [xE_bt] at ev | rw [xE_isi] at ev | rw [xE_dnew] at ev | rw [xE_mth] at ev | rw [xE_callT] at ev | rw [xE_gidx] at ev | rw [xE_lset] at ev | rw [xE_maxd] at ev | rw [xE_lrng] at ev | rw [xE_sset] at ev | rw [xE_dnewT] at ev | rw [xE_getT] at ev | rw [xE_comp] at ev | rw [xE_look] at ev);cases ev;cases ep
  exact po_none pins s σ H Q I (k H (Same.refl H))
theorem so_some (h:SE T cf X x p):SO T cf X x (some p):=fun H₀ O₀ pins s σ H Q I ⟨O,own,e,d,o,F,ev,ep,k⟩=>by
  rw [evalPart_some]
  refine thn (h H₀ O₀ pins s σ H (fun v H'=>Same H H' ∧ RD X.K H' O d v) I ⟨O,own,e,d,F,ev,fun v H' s' r _=>⟨s',r⟩⟩) fun u s1 ⟨v,H1,I1,r1,s',r⟩=>?_
  unfold D.part at ep
  split at ep
  · cases ep
    cases (show v = _ from r)
    cases r1
    exact ⟨none,H1,I1,.none,k H1 s'⟩
  · cases ep
    cases (show v = _ from r)
    obtain ⟨t,rfl⟩:=r1
    exact ⟨_,H1,I1,.int _ t,k H1 s'⟩
  · cases ep
theorem se_sl {lo hi:Option Expr} (ha:SR T cf X x p) (hl:SO T cf X y lo) (hh:SO T cf X z hi):SE T cf X (.sl x y z) (.Subscript p (.Slice lo hi none pos') pos):=fun H₀ O₀=>by
  refine PE.imp (fun σ H Q hq=>?_) (pe_slice slr (ha H₀ O₀) (hl H₀ O₀) (hh H₀ O₀))
  obtain ⟨O,own,e,d,F,ev,k⟩:=hq
  (first | rw [xE_var] at ev | rw [xE_rd] at ev | rw [xE_con] at ev | rw [xE_glob] at ev | rw [xE_bin] at ev | rw [xE_cmp] at ev | rw [xE_chain] at ev | rw [xE_and] at ev | rw [xE_or] at ev | rw [xE_not] at ev | rw [xE_neg] at ev | rw [xE_ife] at ev | rw [xE_ix] at ev | rw [xE_sl] at ev | rw [xE_omit] at ev | rw [xE_tup] at ev | rw [xE_lst] at ev | rw [xE_call] at ev | rw [xE_callB] at ev | rw [xE_bt] at ev | rw [xE_isi] at ev | rw [xE_dnew] at ev | rw [xE_mth] at ev | rw [xE_callT] at ev | rw [xE_gidx] at ev | rw [xE_lset] at ev | rw [xE_maxd] at ev | rw [xE_lrng] at ev | rw [xE_sset] at ev | rw [xE_dnewT] at ev | rw [xE_getT] at ev | rw [xE_comp] at ev | rw [xE_look] at ev)
  obtain ⟨d1,e1,ev⟩:=Res.bind_ok ev
  obtain ⟨d2,e2,ev⟩:=Res.bind_ok ev
  obtain ⟨o2,e2',ev⟩:=Res.bind_ok ev
  obtain ⟨d3,e3,ev⟩:=Res.bind_ok ev
  obtain ⟨o3,e3',ev⟩:=Res.bind_ok ev
  refine ⟨O,own,e,d1,F,e1,fun v1 H1 s1 r1=>⟨O,own,e,d2,o2,F.grow s1,e2,e2',fun H2 s2=>⟨O,own,e,d3,o3,(F.grow s1).grow s2,e3,e3',fun H3 s3=>?_⟩⟩⟩
  refine ⟨O,d1,d,(r1.same s2).same s3,ev,((F.grow s1).grow (s2.trans s3)).trk,fun w H' s4 r4 n4=>?_⟩
  exact k w H' ((s1.trans (s2.trans s3)).trans s4) r4 fun _=>n4.back (s1.trans (s2.trans s3))
theorem evA_len {a:E} {e:Nv} {ds:List D} (h:evA T cf a e = .ok ds):ds.length ≤ 1000:=by
  cases a with
  | anil=>(first | rw [xA_anil] at h | rw [xA_acons] at h);cases h;exact Nat.zero_le _
  | acons a r =>
    (first | rw [xA_anil] at h | rw [xA_acons] at h)
    obtain ⟨d1,e1,h⟩:=Res.bind_ok h
    obtain ⟨d2,e2,h⟩:=Res.bind_ok h
    obtain ⟨c,h⟩:=when_ok h
    cases h
    have:=of_decide_eq_true c
    rw [List.length_cons];(first | lia | omega)
  | _=>exact absurd (show (Res.no:Res (List D)) = Res.ok ds from h) (fun z=>by cases z)
theorem sav_nil:SAv T cf X .anil []:=fun H₀ O₀ pos pins s σ H Q I ⟨O,own,e,ds,F,ev,k⟩=>by
  (first | rw [xA_anil] at ev | rw [xA_acons] at ev);cases ev
  exact pa_nil pos pins s σ H Q I (k [] H (Same.refl H) rfl)
theorem sav_cons (hp:plainX p = true) (ha:SE T cf X x p) (hr:SAv T cf X y es):SAv T cf X (.acons x y) (p :: es):=fun H₀ O₀ pos pins s σ H Q I ⟨O,own,e,ds,F,ev,k⟩=>by
  (first | rw [xA_anil] at ev | rw [xA_acons] at ev)
  obtain ⟨d1,e1,ev⟩:=Res.bind_ok ev
  obtain ⟨d2,e2,ev⟩:=Res.bind_ok ev
  obtain ⟨c,ev⟩:=when_ok ev
  cases ev
  refine pa_cons (ha H₀ O₀) (hr H₀ O₀) (plain_star hp) pos pins s σ H Q I ⟨O,own,e,d1,F,e1,fun v1 H1 s1 r1 _=>⟨O,own,e,d2,F.grow s1,e2,fun vs H2 s2 r2=>?_⟩⟩
  exact k (v1 :: vs) H2 (s1.trans s2) ⟨v1,vs,rfl,r1.same s2,r2⟩
theorem sar_nil:SAr T cf X .anil []:=sav_nil.sr
theorem sar_cons (hp:plainX p = true) (ha:SR T cf X x p) (hr:SAr T cf X y es):SAr T cf X (.acons x y) (p :: es):=fun H₀ O₀ pos pins s σ H Q I ⟨O,own,e,ds,F,ev,k⟩=>by
  (first | rw [xA_anil] at ev | rw [xA_acons] at ev)
  obtain ⟨d1,e1,ev⟩:=Res.bind_ok ev
  obtain ⟨d2,e2,ev⟩:=Res.bind_ok ev
  obtain ⟨c,ev⟩:=when_ok ev
  cases ev
  refine pa_cons (ha H₀ O₀) (hr H₀ O₀) (plain_star hp) pos pins s σ H Q I ⟨O,own,e,d1,F,e1,fun v1 H1 s1 r1=>⟨O,own,e,d2,F.grow s1,e2,fun vs H2 s2 r2=>?_⟩⟩
  exact k (v1 :: vs) H2 (s1.trans s2) ⟨v1,vs,rfl,r1.same s2,r2⟩
theorem len_line {n:Nat} (h:n ≤ 1000):n ≤ sizeLine:=Nat.le_of_lt (small1000 h)
theorem se_tup {k:Nat} (ha:SAv T cf X x es):SE T cf X (.tup x) (.Tuple es k pos):=fun H₀ O₀=>by
  refine PE.imp (fun σ H Q hq=>?_) (pe_tup (ha H₀ O₀))
  obtain ⟨O,own,e,d,F,ev,k⟩:=hq
  (first | rw [xE_var] at ev | rw [xE_rd] at ev | rw [xE_con] at ev | rw [xE_glob] at ev | rw [xE_bin] at ev | rw [xE_cmp] at ev | rw [xE_chain] at ev | rw [xE_and] at ev | rw [xE_or] at ev | rw [xE_not] at ev | rw [xE_neg] at ev | rw [xE_ife] at ev | rw [xE_ix] at ev | rw [xE_sl] at ev | rw [xE_omit] at ev | rw [xE_tup] at ev | rw [xE_lst] at ev | rw [xE_call] at ev | rw [xE_callB] at ev | rw [xE_bt] at ev | rw [xE_isi] at ev | rw [xE_dnew] at ev | rw [xE_mth] at ev | rw [xE_callT] at ev | rw [xE_gidx] at ev | rw [xE_lset] at ev | rw [xE_maxd] at ev | rw [xE_lrng] at ev | rw [xE_sset] at ev | rw [xE_dnewT] at ev | rw [xE_getT] at ev | rw [xE_comp] at ev | rw [xE_look] at ev)
  obtain ⟨ds,e1,ev⟩:=Res.bind_ok ev
  cases ev
  refine ⟨O,own,e,ds,F,e1,fun vs H1 s1 r1=>⟨by rw [r1.length];exact len_line (evA_len e1),fun p hp=>?_⟩⟩
  exact k _ _ (s1.trans (same_upd hp _)) (new_tup r1 hp) (fun z=>by cases z)
theorem se_lst (ha:SAv T cf X x es):SE T cf X (.lst x) (.List es pos):=fun H₀ O₀=>by
  refine PE.imp (fun σ H Q hq=>?_) (pe_lst (ha H₀ O₀))
  obtain ⟨O,own,e,d,F,ev,k⟩:=hq
  (first | rw [xE_var] at ev | rw [xE_rd] at ev | rw [xE_con] at ev | rw [xE_glob] at ev | rw [xE_bin] at ev | rw [xE_cmp] at ev | rw [xE_chain] at ev | rw [xE_and] at ev | rw [xE_or] at ev | rw [xE_not] at ev | rw [xE_neg] at ev | rw [xE_ife] at ev | rw [xE_ix] at ev | rw [xE_sl] at ev | rw [xE_omit] at ev | rw [xE_tup] at ev | rw [xE_lst] at ev | rw [xE_call] at ev | rw [xE_callB] at ev | rw [xE_bt] at ev | rw [xE_isi] at ev | rw [xE_dnew] at ev | rw [xE_mth] at ev | rw [xE_callT] at ev | rw [xE_gidx] at ev | rw [xE_lset] at ev | rw [xE_maxd] at ev | rw [xE_lrng] at ev | rw [xE_sset] at ev | rw [xE_dnewT] at ev | rw [xE_getT] at ev | rw [xE_comp] at ev | rw [xE_look] at ev)
  obtain ⟨ds,e1,ev⟩:=Res.bind_ok ev
  cases ev
  refine ⟨O,own,e,ds,F,e1,fun vs H1 s1 r1=>⟨by rw [r1.length];exact len_line (evA_len e1),fun p hp=>?_⟩⟩
  have z:=new_lst r1 hp (F.grow s1).trk
  exact k _ _ (s1.trans (same_upd hp _)) z.1 fun _=>z.2.back s1
theorem empty_len {α β:Type} {xs:List α} {ds:List β} (h:xs.length = ds.length):(!ds.isEmpty) = !xs.isEmpty:=by
  cases xs <;> cases ds <;> first | rfl | (simp at h)
theorem tru_D {K:PySem.W.Frag} {H:Hp} {O:Addr → Prop} {d:D} {v:V} {k:Bool} (r:RR K H O d v) (h:d.truth = .ok k):TruV K v H k:=by
  unfold D.truth at h
  split at h
  · cases h;cases (show v = _ from r.rd rfl);exact (rfl:false = false)
  · cases h;cases (show v = _ from r.rd rfl);exact (rfl:k = k)
  · cases h;cases (show v = _ from r.rd rfl);exact rfl
  · obtain ⟨c,h⟩:=when_ok h
    cases h;cases (show v = _ from r.rd rfl);exact ⟨by rw [← big_line];exact of_decide_eq_true c,rfl⟩
  · cases h
    obtain ⟨a,xs,rfl,q,w⟩:=r.tup
    refine .inr (.inl ⟨xs,q,?_⟩)
    exact empty_len w.length
  · cases h
    obtain ⟨a,xs,rfl,q,w⟩:=r.lst
    refine .inl ⟨xs,q,?_⟩
    exact empty_len w.length
  · cases h
    obtain ⟨a,ps,rfl,q,w⟩:=r.dct
    exact .inr (.inr ⟨ps,q,empty_len w.length⟩)
  · cases h
theorem st_gen (ha:SR T cf X x p) (he:∀ whole,isTrue p X.env whole = (do let v ← whole;standAt p.pos;holding [v] (truthy v))):ST T cf X x p:=fun H₀ O₀ =>
  PT.imp (fun σ H Q ⟨O,own,e,d,k,F,ev,et,q⟩=>⟨O,own,e,d,F,ev,fun v H' s r=>⟨k,tru_D r et,q H' s⟩⟩) (pt_truth (ha H₀ O₀) he)
theorem cmp_bl {o:CmpOp} {a b d:D} (h:D.cmp o a b = .ok d):∃ k,d = .bl k:=by
  unfold D.cmp at h
  split at h <;> first
    | (obtain ⟨_,h⟩:=when_ok h;cases h;exact ⟨_,rfl⟩)
    | (cases h;exact ⟨_,rfl⟩)
    | (obtain ⟨_,_,h⟩:=Res.bind_ok h;cases h;exact ⟨_,rfl⟩)
    | cases h
theorem st_cmp {o:CmpOp} (hR:Roomy X) (hm:plainX q = true) (ha:SR T cf X x p) (hb:SR T cf X y q):ST T cf X (.cmp o x y) (.Compare p [o] [q] pos):=fun H₀ O₀=>by
  refine PT.imp (fun σ H Q hq=>?_) (pt_cmpR (opr_cmp o hR) (ha H₀ O₀) (hb H₀ O₀) (plain_mark hm))
  obtain ⟨O,own,e,d,k,F,ev,et,qk⟩:=hq
  (first | rw [xE_var] at ev | rw [xE_rd] at ev | rw [xE_con] at ev | rw [xE_glob] at ev | rw [xE_bin] at ev | rw [xE_cmp] at ev | rw [xE_chain] at ev | rw [xE_and] at ev | rw [xE_or] at ev | rw [xE_not] at ev | rw [xE_neg] at ev | rw [xE_ife] at ev | rw [xE_ix] at ev | rw [xE_sl] at ev | rw [xE_omit] at ev | rw [xE_tup] at ev | rw [xE_lst] at ev | rw [xE_call] at ev | rw [xE_callB] at ev | rw [xE_bt] at ev | rw [xE_isi] at ev | rw [xE_dnew] at ev | rw [xE_mth] at ev | rw [xE_callT] at ev | rw [xE_gidx] at ev | rw [xE_lset] at ev | rw [xE_maxd] at ev | rw [xE_lrng] at ev | rw [xE_sset] at ev | rw [xE_dnewT] at ev | rw [xE_getT] at ev | rw [xE_comp] at ev | rw [xE_look] at ev)
  obtain ⟨d1,e1,ev⟩:=Res.bind_ok ev
  obtain ⟨d2,e2,ev⟩:=Res.bind_ok ev
  obtain ⟨k',rfl⟩:=cmp_bl ev
  cases et
  refine ⟨O,own,e,d1,F,e1,fun v1 H1 s1 r1=>⟨O,own,e,d2,F.grow s1,e2,fun v2 H2 s2 r2=>?_⟩⟩
  refine ⟨O,d1,d2,_,r1.same s2,r2,ev,(F.grow (s1.trans s2)).trk,fun v H' s3 r3 _=>?_⟩
  exact ⟨k,r3,qk H' ((s1.trans s2).trans s3)⟩
theorem pe_andV {a b:Expr} {rest:List Expr} {ta tb:TE} (ha:PE X a ta) (hb:PE X (.BoolOp .And (b :: rest) pos) tb) :
    PE X (.BoolOp .And (a :: b :: rest) pos) (fun σ H Q=>ta σ H fun x H1=>∃ c,TruV X.K x H1 c ∧ if c = true then tb σ H1 Q else Q x H1):=by
  intro pins s σ H Q I h
  refine BoolOp_and (thn (ha pins s σ H _ I h) fun v s1 ⟨x,H1,I1,r1,c,tc,q1⟩=>?_)
  refine thn (tru_ok pins s1 σ H1 x v (fun b H2=>b = c ∧ H2 = H1) I1 r1 ⟨c,tc,rfl,rfl⟩) fun b s2 ⟨H2,I2,e1,e2⟩=>?_
  subst e1 e2
  cases b with
  | true=>exact hb pins s2 σ H2 Q I2 q1
  | false=>exact ⟨x,H2,I2,r1,q1⟩
theorem pe_orV {a b:Expr} {rest:List Expr} {ta tb:TE} (ha:PE X a ta) (hb:PE X (.BoolOp .Or (b :: rest) pos) tb) :
    PE X (.BoolOp .Or (a :: b :: rest) pos) (fun σ H Q=>ta σ H fun x H1=>∃ c,TruV X.K x H1 c ∧ if c = true then Q x H1 else tb σ H1 Q):=by
  intro pins s σ H Q I h
  refine BoolOp_or (thn (ha pins s σ H _ I h) fun v s1 ⟨x,H1,I1,r1,c,tc,q1⟩=>?_)
  refine thn (tru_ok pins s1 σ H1 x v (fun b H2=>b = c ∧ H2 = H1) I1 r1 ⟨c,tc,rfl,rfl⟩) fun b s2 ⟨H2,I2,e1,e2⟩=>?_
  subst e1 e2
  cases b with
  | false=>exact hb pins s2 σ H2 Q I2 q1
  | true=>exact ⟨x,H2,I2,r1,q1⟩
theorem se_and {rest:List Expr} (ha:SE T cf X x p) (hb:SE T cf X y (.BoolOp .And (q :: rest) pos)):SE T cf X (.and x y) (.BoolOp .And (p :: q :: rest) pos):=fun H₀ O₀=>by
  refine PE.imp (fun σ H Q hq=>?_) (pe_andV (ha H₀ O₀) (hb H₀ O₀))
  obtain ⟨O,own,e,d,F,ev,k⟩:=hq
  (first | rw [xE_var] at ev | rw [xE_rd] at ev | rw [xE_con] at ev | rw [xE_glob] at ev | rw [xE_bin] at ev | rw [xE_cmp] at ev | rw [xE_chain] at ev | rw [xE_and] at ev | rw [xE_or] at ev | rw [xE_not] at ev | rw [xE_neg] at ev | rw [xE_ife] at ev | rw [xE_ix] at ev | rw [xE_sl] at ev | rw [xE_omit] at ev | rw [xE_tup] at ev | rw [xE_lst] at ev | rw [xE_call] at ev | rw [xE_callB] at ev | rw [xE_bt] at ev | rw [xE_isi] at ev | rw [xE_dnew] at ev | rw [xE_mth] at ev | rw [xE_callT] at ev | rw [xE_gidx] at ev | rw [xE_lset] at ev | rw [xE_maxd] at ev | rw [xE_lrng] at ev | rw [xE_sset] at ev | rw [xE_dnewT] at ev | rw [xE_getT] at ev | rw [xE_comp] at ev | rw [xE_look] at ev)
  obtain ⟨d1,e1,ev⟩:=Res.bind_ok ev
  obtain ⟨c,e2,ev⟩:=Res.bind_ok ev
  refine ⟨O,own,e,d1,F,e1,fun v1 H1 s1 r1 _=>⟨c,tru_D r1.rr e2,?_⟩⟩
  cases c with
  | true =>
    rw [if_pos rfl] at ev ⊢
    exact ⟨O,own,e,d,F.grow s1,ev,fun v H' s' r _=>k v H' (s1.trans s') r (fun z=>by cases z)⟩
  | false =>
    rw [if_neg Bool.false_ne_true] at ev ⊢
    cases ev
    exact k v1 H1 s1 r1 (fun z=>by cases z)
theorem se_or {rest:List Expr} (ha:SE T cf X x p) (hb:SE T cf X y (.BoolOp .Or (q :: rest) pos)):SE T cf X (.or x y) (.BoolOp .Or (p :: q :: rest) pos):=fun H₀ O₀=>by
  refine PE.imp (fun σ H Q hq=>?_) (pe_orV (ha H₀ O₀) (hb H₀ O₀))
  obtain ⟨O,own,e,d,F,ev,k⟩:=hq
  (first | rw [xE_var] at ev | rw [xE_rd] at ev | rw [xE_con] at ev | rw [xE_glob] at ev | rw [xE_bin] at ev | rw [xE_cmp] at ev | rw [xE_chain] at ev | rw [xE_and] at ev | rw [xE_or] at ev | rw [xE_not] at ev | rw [xE_neg] at ev | rw [xE_ife] at ev | rw [xE_ix] at ev | rw [xE_sl] at ev | rw [xE_omit] at ev | rw [xE_tup] at ev | rw [xE_lst] at ev | rw [xE_call] at ev | rw [xE_callB] at ev | rw [xE_bt] at ev | rw [xE_isi] at ev | rw [xE_dnew] at ev | rw [xE_mth] at ev | rw [xE_callT] at ev | rw [xE_gidx] at ev | rw [xE_lset] at ev | rw [xE_maxd] at ev | rw [xE_lrng] at ev | rw [xE_sset] at ev | rw [xE_dnewT] at ev | rw [xE_getT] at ev | rw [xE_comp] at ev | rw [xE_look] at ev)
  obtain ⟨d1,e1,ev⟩:=Res.bind_ok ev
  obtain ⟨c,e2,ev⟩:=Res.bind_ok ev
  refine ⟨O,own,e,d1,F,e1,fun v1 H1 s1 r1 _=>⟨c,tru_D r1.rr e2,?_⟩⟩
  cases c with
  | false =>
    rw [if_neg Bool.false_ne_true] at ev ⊢
    exact ⟨O,own,e,d,F.grow s1,ev,fun v H' s' r _=>k v H' (s1.trans s') r (fun z=>by cases z)⟩
  | true =>
    rw [if_pos rfl] at ev ⊢
    cases ev
    exact k v1 H1 s1 r1 (fun z=>by cases z)
theorem se_one {op:BoolOp} (h:SE T cf X x p):SE T cf X x (.BoolOp op [p] pos):=fun H₀ O₀=>pe_one (h H₀ O₀)
theorem se_not (ha:ST T cf X x p) (hv:SR T cf X x p):SE T cf X (.not x) (.UnaryOp .Not p pos):=fun H₀ O₀=>by
  intro pins s σ H Q I ⟨O,own,e,d,F,ev,k⟩
  (first | rw [xE_var] at ev | rw [xE_rd] at ev | rw [xE_con] at ev | rw [xE_glob] at ev | rw [xE_bin] at ev | rw [xE_cmp] at ev | rw [xE_chain] at ev | rw [xE_and] at ev | rw [xE_or] at ev | rw [xE_not] at ev | rw [xE_neg] at ev | rw [xE_ife] at ev | rw [xE_ix] at ev | rw [xE_sl] at ev | rw [xE_omit] at ev | rw [xE_tup] at ev | rw [xE_lst] at ev | rw [xE_call] at ev | rw [xE_callB] at ev | rw [xE_bt] at ev | rw [xE_isi] at ev | rw [xE_dnew] at ev | rw [xE_mth] at ev | rw [xE_callT] at ev | rw [xE_gidx] at ev | rw [xE_lset] at ev | rw [xE_maxd] at ev | rw [xE_lrng] at ev | rw [xE_sset] at ev | rw [xE_dnewT] at ev | rw [xE_getT] at ev | rw [xE_comp] at ev | rw [xE_look] at ev)
  obtain ⟨d1,e1,ev⟩:=Res.bind_ok ev
  obtain ⟨c,e2,ev⟩:=Res.bind_ok ev
  cases ev
  refine UnaryOp_ (thn (hv H₀ O₀ pins s σ H (fun v1 H1=>Same H H1 ∧ RR X.K H1 O d1 v1) I ⟨O,own,e,d1,F,e1,fun v1 H1 s1 r1=>⟨s1,r1⟩⟩) fun v s1 ⟨x1,H1,I1,r1,s1',rr⟩=>?_)
  refine not_of ?_
  exact thn (tru_ok pins s1 σ H1 x1 v (fun b H2=>b = c ∧ H2 = H1) I1 r1 ⟨c,tru_D rr e2,rfl,rfl⟩) fun b s2 ⟨H2,I2,e3,e4⟩=>by
    subst e3 e4
    exact ⟨.bl (!b),H2,I2,rfl,k _ H2 s1' rfl (fun z=>by cases z)⟩
theorem st_not (ha:ST T cf X x p):ST T cf X (.not x) (.UnaryOp .Not p pos):=fun H₀ O₀=>by
  refine PT.imp (fun σ H Q hq=>?_) (pt_not (ha H₀ O₀))
  obtain ⟨O,own,e,d,k,F,ev,et,qk⟩:=hq
  (first | rw [xE_var] at ev | rw [xE_rd] at ev | rw [xE_con] at ev | rw [xE_glob] at ev | rw [xE_bin] at ev | rw [xE_cmp] at ev | rw [xE_chain] at ev | rw [xE_and] at ev | rw [xE_or] at ev | rw [xE_not] at ev | rw [xE_neg] at ev | rw [xE_ife] at ev | rw [xE_ix] at ev | rw [xE_sl] at ev | rw [xE_omit] at ev | rw [xE_tup] at ev | rw [xE_lst] at ev | rw [xE_call] at ev | rw [xE_callB] at ev | rw [xE_bt] at ev | rw [xE_isi] at ev | rw [xE_dnew] at ev | rw [xE_mth] at ev | rw [xE_callT] at ev | rw [xE_gidx] at ev | rw [xE_lset] at ev | rw [xE_maxd] at ev | rw [xE_lrng] at ev | rw [xE_sset] at ev | rw [xE_dnewT] at ev | rw [xE_getT] at ev | rw [xE_comp] at ev | rw [xE_look] at ev)
  obtain ⟨d1,e1,ev⟩:=Res.bind_ok ev
  obtain ⟨c,e2,ev⟩:=Res.bind_ok ev
  cases ev
  cases et
  exact ⟨O,own,e,d1,c,F,e1,e2,fun H' s=>qk H' s⟩
noncomputable def SW (T:Tab) (cf:Nat → List D → Res D) (X:Cx) (x:E) (p:Expr):Prop:=∀ H₀ O₀,PW X p (tT T cf X.K H₀ O₀ x)
theorem SW.st (h:SW T cf X x p):ST T cf X x p:=fun H₀ O₀=>(h H₀ O₀).pt
theorem PW.imp {t t':TT} (h:∀ σ H Q,t' σ H Q → t σ H Q) (hp:PW X p t):PW X p t':=fun w pins s σ H Q I q=>hp w pins s σ H Q I (h σ H Q q)
theorem sw_and1 (ha:ST T cf X x p):SW T cf X x (.BoolOp .And [p] pos):=fun H₀ O₀=>pw_and1 (ha H₀ O₀)
theorem sw_or1 (ha:ST T cf X x p):SW T cf X x (.BoolOp .Or [p] pos):=fun H₀ O₀=>pw_or1 (ha H₀ O₀)
theorem sw_and {rest:List Expr} (ha:ST T cf X x p) (hb:SW T cf X y (.BoolOp .And (q :: rest) pos)):SW T cf X (.and x y) (.BoolOp .And (p :: q :: rest) pos):=fun H₀ O₀=>by
  refine PW.imp (fun σ H Q hq=>?_) (pw_and (ha H₀ O₀) (hb H₀ O₀))
  obtain ⟨O,own,e,d,k,F,ev,et,qk⟩:=hq
  (first | rw [xE_var] at ev | rw [xE_rd] at ev | rw [xE_con] at ev | rw [xE_glob] at ev | rw [xE_bin] at ev | rw [xE_cmp] at ev | rw [xE_chain] at ev | rw [xE_and] at ev | rw [xE_or] at ev | rw [xE_not] at ev | rw [xE_neg] at ev | rw [xE_ife] at ev | rw [xE_ix] at ev | rw [xE_sl] at ev | rw [xE_omit] at ev | rw [xE_tup] at ev | rw [xE_lst] at ev | rw [xE_call] at ev | rw [xE_callB] at ev | rw [xE_bt] at ev | rw [xE_isi] at ev | rw [xE_dnew] at ev | rw [xE_mth] at ev | rw [xE_callT] at ev | rw [xE_gidx] at ev | rw [xE_lset] at ev | rw [xE_maxd] at ev | rw [xE_lrng] at ev | rw [xE_sset] at ev | rw [xE_dnewT] at ev | rw [xE_getT] at ev | rw [xE_comp] at ev | rw [xE_look] at ev)
  obtain ⟨d1,e1,ev⟩:=Res.bind_ok ev
  obtain ⟨c,e2,ev⟩:=Res.bind_ok ev
  refine ⟨O,own,e,d1,c,F,e1,e2,fun H1 s1=>?_⟩
  cases c with
  | true =>
    rw [if_pos rfl] at ev ⊢
    exact ⟨O,own,e,d,k,F.grow s1,ev,et,fun H' s'=>qk H' (s1.trans s')⟩
  | false =>
    rw [if_neg Bool.false_ne_true] at ev ⊢
    cases ev
    rw [e2] at et;cases et
    exact qk H1 s1
theorem sw_or {rest:List Expr} (ha:ST T cf X x p) (hb:SW T cf X y (.BoolOp .Or (q :: rest) pos)):SW T cf X (.or x y) (.BoolOp .Or (p :: q :: rest) pos):=fun H₀ O₀=>by
  refine PW.imp (fun σ H Q hq=>?_) (pw_or (ha H₀ O₀) (hb H₀ O₀))
  obtain ⟨O,own,e,d,k,F,ev,et,qk⟩:=hq
  (first | rw [xE_var] at ev | rw [xE_rd] at ev | rw [xE_con] at ev | rw [xE_glob] at ev | rw [xE_bin] at ev | rw [xE_cmp] at ev | rw [xE_chain] at ev | rw [xE_and] at ev | rw [xE_or] at ev | rw [xE_not] at ev | rw [xE_neg] at ev | rw [xE_ife] at ev | rw [xE_ix] at ev | rw [xE_sl] at ev | rw [xE_omit] at ev | rw [xE_tup] at ev | rw [xE_lst] at ev | rw [xE_call] at ev | rw [xE_callB] at ev | rw [xE_bt] at ev | rw [xE_isi] at ev | rw [xE_dnew] at ev | rw [xE_mth] at ev | rw [xE_callT] at ev | rw [xE_gidx] at ev | rw [xE_lset] at ev | rw [xE_maxd] at ev | rw [xE_lrng] at ev | rw [xE_sset] at ev | rw [xE_dnewT] at ev | rw [xE_getT] at ev | rw [xE_comp] at ev | rw [xE_look] at ev)
  obtain ⟨d1,e1,ev⟩:=Res.bind_ok ev
  obtain ⟨c,e2,ev⟩:=Res.bind_ok ev
  refine ⟨O,own,e,d1,c,F,e1,e2,fun H1 s1=>?_⟩
  cases c with
  | false =>
    rw [if_neg Bool.false_ne_true] at ev ⊢
    exact ⟨O,own,e,d,k,F.grow s1,ev,et,fun H' s'=>qk H' (s1.trans s')⟩
  | true =>
    rw [if_pos rfl] at ev ⊢
    cases ev
    rw [e2] at et;cases et
    exact qk H1 s1
theorem tchain_of {o o':CmpOp} {H₀:Hp} {O₀:Addr → Prop} {σ:L2.St} {H:Hp} {Q:VK} (h:tE T cf X.K H₀ O₀ (.chain o o' x y z) σ H Q) :
    tChain (rD2 X.K (D.cmp o) false) (rD2 X.K (D.cmp o') false) (tR T cf X.K H₀ O₀ x) (tR T cf X.K H₀ O₀ y) (tR T cf X.K H₀ O₀ z) σ H Q:=by
  obtain ⟨O,own,e,d,F,ev,k⟩:=h
  (first | rw [xE_var] at ev | rw [xE_rd] at ev | rw [xE_con] at ev | rw [xE_glob] at ev | rw [xE_bin] at ev | rw [xE_cmp] at ev | rw [xE_chain] at ev | rw [xE_and] at ev | rw [xE_or] at ev | rw [xE_not] at ev | rw [xE_neg] at ev | rw [xE_ife] at ev | rw [xE_ix] at ev | rw [xE_sl] at ev | rw [xE_omit] at ev | rw [xE_tup] at ev | rw [xE_lst] at ev | rw [xE_call] at ev | rw [xE_callB] at ev | rw [xE_bt] at ev | rw [xE_isi] at ev | rw [xE_dnew] at ev | rw [xE_mth] at ev | rw [xE_callT] at ev | rw [xE_gidx] at ev | rw [xE_lset] at ev | rw [xE_maxd] at ev | rw [xE_lrng] at ev | rw [xE_sset] at ev | rw [xE_dnewT] at ev | rw [xE_getT] at ev | rw [xE_comp] at ev | rw [xE_look] at ev)
  obtain ⟨d1,e1,ev⟩:=Res.bind_ok ev
  obtain ⟨d2,e2,ev⟩:=Res.bind_ok ev
  obtain ⟨d3,e3,ev⟩:=Res.bind_ok ev
  obtain ⟨c,rfl⟩:=cmp_bl e3
  refine ⟨O,own,e,d1,F,e1,fun v1 H1 s1 r1=>⟨O,own,e,d2,F.grow s1,e2,fun v2 H2 s2 r2=>?_⟩⟩
  refine ⟨O,d1,d2,_,r1.same s2,r2,e3,(F.grow (s1.trans s2)).trk,fun v H3 s3 r3 _=>⟨c,r3,?_⟩⟩
  have s123:=(s1.trans s2).trans s3
  cases c with
  | true =>
    rw [if_pos rfl]
    obtain ⟨d4,e4,ev⟩:=Res.bind_ok ev
    refine ⟨O,own,e,d4,F.grow s123,e4,fun v4 H4 s4 r4=>?_⟩
    exact ⟨O,d2,d4,d,(r2.same s3).same s4,r4,ev,(F.grow (s123.trans s4)).trk,fun v H' s5 r5 n5=>k v H' ((s123.trans s4).trans s5) r5 fun z=>by cases z⟩
  | false =>
    rw [if_neg Bool.false_ne_true]
    cases ev
    exact k _ H3 s123 rfl fun z=>by cases z
theorem se_chain {o o':CmpOp} (hR:Roomy X) (hm:plainX r = true) (ha:SR T cf X x p) (hb:SR T cf X y q) (hc:SR T cf X z r):SE T cf X (.chain o o' x y z) (.Compare p [o,o'] [q,r] pos):=fun H₀ O₀ =>
  PE.imp (fun σ H Q h=>tchain_of h) (pe_chain (opr_cmp o hR) (opr_cmp o' hR) (ha H₀ O₀) (hb H₀ O₀) (hc H₀ O₀) (plain_mark hm))
theorem st_chain {o o':CmpOp} (hR:Roomy X) (hm:plainX r = true) (ha:SR T cf X x p) (hb:SR T cf X y q) (hc:SR T cf X z r):ST T cf X (.chain o o' x y z) (.Compare p [o,o'] [q,r] pos):=fun H₀ O₀=>by
  refine PT.imp (fun σ H Q hq=>?_) (pt_chain (opr_cmp o hR) (opr_cmp o' hR) (ha H₀ O₀) (hb H₀ O₀) (hc H₀ O₀) (plain_mark hm))
  obtain ⟨O,own,e,d,k,F,ev,et,qk⟩:=hq
  have bl:∃ b,d = .bl b:=by
    (first | rw [xE_var] at ev | rw [xE_rd] at ev | rw [xE_con] at ev | rw [xE_glob] at ev | rw [xE_bin] at ev | rw [xE_cmp] at ev | rw [xE_chain] at ev | rw [xE_and] at ev | rw [xE_or] at ev | rw [xE_not] at ev | rw [xE_neg] at ev | rw [xE_ife] at ev | rw [xE_ix] at ev | rw [xE_sl] at ev | rw [xE_omit] at ev | rw [xE_tup] at ev | rw [xE_lst] at ev | rw [xE_call] at ev | rw [xE_callB] at ev | rw [xE_bt] at ev | rw [xE_isi] at ev | rw [xE_dnew] at ev | rw [xE_mth] at ev | rw [xE_callT] at ev | rw [xE_gidx] at ev | rw [xE_lset] at ev | rw [xE_maxd] at ev | rw [xE_lrng] at ev | rw [xE_sset] at ev | rw [xE_dnewT] at ev | rw [xE_getT] at ev | rw [xE_comp] at ev | rw [xE_look] at ev)
    obtain ⟨d1,e1,ev⟩:=Res.bind_ok ev
    obtain ⟨d2,e2,ev⟩:=Res.bind_ok ev
    obtain ⟨d3,e3,ev⟩:=Res.bind_ok ev
    split at ev
    · obtain ⟨d4,e4,ev⟩:=Res.bind_ok ev
      exact cmp_bl ev
    · cases ev;exact ⟨_,rfl⟩
    · cases ev
  obtain ⟨b,rfl⟩:=bl
  cases et
  exact tchain_of ⟨O,own,e,_,F,ev,fun v H' s' r' _=>⟨k,r',qk H' s'⟩⟩
theorem se_neg (ha:SR T cf X x p):SE T cf X (.neg x) (.UnaryOp .USub p pos):=fun H₀ O₀=>by
  refine PE.imp (fun σ H Q hq=>?_) (pe_un un_neg (ha H₀ O₀))
  obtain ⟨O,own,e,d,F,ev,k⟩:=hq
  (first | rw [xE_var] at ev | rw [xE_rd] at ev | rw [xE_con] at ev | rw [xE_glob] at ev | rw [xE_bin] at ev | rw [xE_cmp] at ev | rw [xE_chain] at ev | rw [xE_and] at ev | rw [xE_or] at ev | rw [xE_not] at ev | rw [xE_neg] at ev | rw [xE_ife] at ev | rw [xE_ix] at ev | rw [xE_sl] at ev | rw [xE_omit] at ev | rw [xE_tup] at ev | rw [xE_lst] at ev | rw [xE_call] at ev | rw [xE_callB] at ev | rw [xE_bt] at ev | rw [xE_isi] at ev | rw [xE_dnew] at ev | rw [xE_mth] at ev | rw [xE_callT] at ev | rw [xE_gidx] at ev | rw [xE_lset] at ev | rw [xE_maxd] at ev | rw [xE_lrng] at ev | rw [xE_sset] at ev | rw [xE_dnewT] at ev | rw [xE_getT] at ev | rw [xE_comp] at ev | rw [xE_look] at ev)
  obtain ⟨d1,e1,ev⟩:=Res.bind_ok ev
  split at ev
  · cases ev
    refine ⟨O,own,e,_,F,e1,fun v1 H1 s1 r1=>⟨_,r1.rd rfl,k _ H1 s1 rfl fun z=>by cases z⟩⟩
  · cases ev
end
end Tr
namespace Tr
open PySem PySem.Spec PyProof.Rows L2
section
variable {T:Tab} {cf:Nat → List D → Res D} {X:Cx} {x y z:E} {p q r:Expr} {pos pos':Pos} {es:List Expr}
noncomputable def spD (K:PySem.W.Frag) (F:List D → Res D) (fr:Bool):Sp:=fun vs H Q E=>∃ O ds,(∀ a,O a → ∃ o,H a = some o) ∧ RDs K H O ds vs ∧
  ((∃ d,F ds = .ok d ∧ ∀ v H',Same H H' → RD K H' O d v → (fr = true → NewR K H H' O d v) → Q v H') ∨ ∃ c d,F ds = .err c d ∧ ∀ H',Same H H' → E (cvK K c) none H')
noncomputable def DefIs (T:Tab) (cf:Nat → List D → Res D) (X:Cx) (f:Nat) (n:Str):Prop :=
  ∃ k a fd ps,FnOk X.prog X.w X.K X.mg X.base (CXE X.prog X.w) k a fd ps (spD X.K (cf f) (T.fresh f)) ∧ Room k X.A ∧ X.mg n = some (.ref a) ∧ PySem.W.keepIn X.K (.ref a) = true ∧ Binds X.K fd ps []
theorem tcall_of {f:Nat} {H₀:Hp} {O₀:Addr → Prop} {σ:L2.St} {H:Hp} {Q:VK} (h:tE T cf X.K H₀ O₀ (.call f x) σ H Q):tCall (spD X.K (cf f) (T.fresh f)) [] E0 (tAv T cf X.K H₀ O₀ x) σ H Q:=by
  obtain ⟨O,own,e,d,F,ev,k⟩:=h
  (first | rw [xE_var] at ev | rw [xE_rd] at ev | rw [xE_con] at ev | rw [xE_glob] at ev | rw [xE_bin] at ev | rw [xE_cmp] at ev | rw [xE_chain] at ev | rw [xE_and] at ev | rw [xE_or] at ev | rw [xE_not] at ev | rw [xE_neg] at ev | rw [xE_ife] at ev | rw [xE_ix] at ev | rw [xE_sl] at ev | rw [xE_omit] at ev | rw [xE_tup] at ev | rw [xE_lst] at ev | rw [xE_call] at ev | rw [xE_callB] at ev | rw [xE_bt] at ev | rw [xE_isi] at ev | rw [xE_dnew] at ev | rw [xE_mth] at ev | rw [xE_callT] at ev | rw [xE_gidx] at ev | rw [xE_lset] at ev | rw [xE_maxd] at ev | rw [xE_lrng] at ev | rw [xE_sset] at ev | rw [xE_dnewT] at ev | rw [xE_getT] at ev | rw [xE_comp] at ev | rw [xE_look] at ev)
  obtain ⟨ds,e1,ev⟩:=Res.bind_ok ev
  refine ⟨O,own,e,ds,F,e1,fun vs H1 s1 r1=>?_⟩
  dsimp only
  rw [List.append_nil]
  refine ⟨O,ds,(F.grow s1).trk,r1,.inl ⟨d,ev,fun v H' s2 r2 n2=>k v H' (s1.trans s2) r2 fun fr=>(n2 fr).1.back s1⟩⟩
theorem se_call {f:Nat} {n:Str} {pn:Pos} (hd:DefIs T cf X f n) (hg:Gl X n) (hdb:(n == ("__debug__" : Str)) = false) (hp:(p :: es).all plainX = true) (ha:SAv T cf X x (p :: es)):SE T cf X (.call f x) (.Call (.Name n pn) (p :: es) [] pos):=fun H₀ O₀=>by
  obtain ⟨k,a,fd,ps,Fk,hr,hm,hk,hb⟩:=hd
  rw [List.all_cons,Bool.and_eq_true] at hp
  exact PE.imp (fun σ H Q h=>tcall_of h) (pe_call Fk hr hg hm hk hb .nil passE0 (ha H₀ O₀) hdb (plain_star hp.1) (plain_any hp.2))
theorem se_call0 {f:Nat} {n:Str} {pn:Pos} (hd:DefIs T cf X f n) (hg:Gl X n) (hdb:(n == ("__debug__" : Str)) = false):SE T cf X (.call f .anil) (.Call (.Name n pn) [] [] pos):=fun H₀ O₀=>by
  obtain ⟨k,a,fd,ps,Fk,hr,hm,hk,hb⟩:=hd
  refine PE.imp (fun σ H Q h=>?_) (pe_call0 Fk hr hg hm hk hb .nil passE0 hdb)
  obtain ⟨O,own,e,d,F,ev,k⟩:=h
  (first | rw [xE_var] at ev | rw [xE_rd] at ev | rw [xE_con] at ev | rw [xE_glob] at ev | rw [xE_bin] at ev | rw [xE_cmp] at ev | rw [xE_chain] at ev | rw [xE_and] at ev | rw [xE_or] at ev | rw [xE_not] at ev | rw [xE_neg] at ev | rw [xE_ife] at ev | rw [xE_ix] at ev | rw [xE_sl] at ev | rw [xE_omit] at ev | rw [xE_tup] at ev | rw [xE_lst] at ev | rw [xE_call] at ev | rw [xE_callB] at ev | rw [xE_bt] at ev | rw [xE_isi] at ev | rw [xE_dnew] at ev | rw [xE_mth] at ev | rw [xE_callT] at ev | rw [xE_gidx] at ev | rw [xE_lset] at ev | rw [xE_maxd] at ev | rw [xE_lrng] at ev | rw [xE_sset] at ev | rw [xE_dnewT] at ev | rw [xE_getT] at ev | rw [xE_comp] at ev | rw [xE_look] at ev)
  obtain ⟨ds,e1,ev⟩:=Res.bind_ok ev
  (first | rw [xA_anil] at e1 | rw [xA_acons] at e1);cases e1
  exact ⟨O,[],F.trk,rfl,.inl ⟨d,ev,fun v H' s2 r2 n2=>k v H' s2 r2 fun fr=>(n2 fr).1⟩⟩
noncomputable def TabF (T:Tab) (cf:Nat → List D → Res D) (X:Cx) (n:Str) (fs:List Nat):Prop :=
  ∃ (a:Addr) (xs:List V),X.mg n = some (.ref a) ∧ (∀ H,SqT X.K H a xs) ∧ xs.length = fs.length ∧ ∀ (j f:Nat),fs[j]? = some f → ∃ (ad:Addr) (m:Str),xs[j]? = some (V.ref ad) ∧ X.mg m = some (.ref ad) ∧ DefIs T cf X f m
noncomputable def TabS (X:Cx) (n:Str) (ss:List Str):Prop:=∃ a,X.mg n = some (.ref a) ∧ ModS X.K a ss
theorem keys_vals {K:PySem.W.Frag} {H:Hp} {O:Addr → Prop}:∀ {ds:List D} {ks:List Key} {xs:List V},keysD ds = .ok ks → RDs K H O ds xs → xs = ks.map kV
  | [],ks,xs,h,w=>by
    rw [keysD] at h;cases h
    rw [RDs] at w;subst w;rfl
  | d :: r,ks,xs,h,w=>by
    rw [keysD] at h
    obtain ⟨k,h1,h⟩:=Res.bind_ok h
    obtain ⟨q,h2,h⟩:=Res.bind_ok h
    cases h
    obtain ⟨v,vs,rfl,w1,w2⟩:=w
    rw [keys_vals h2 w2]
    have h1:=of_ok h1
    cases d with
    | int i=>cases h1;cases (show v = _ from w1);rfl
    | str z=>cases h1;cases (show v = _ from w1);rfl
    | _=>cases h1
theorem pairOf_some {d:D} {p:Nat × Nat} (h:pairOf d = some p):d = .tup [.int (p.1:Nat),.int (p.2:Nat)] ∧ inR p:=by
  unfold pairOf at h
  split at h
  · rename_i a b
    split at h
    · rename_i c
      simp only [Bool.and_eq_true,decide_eq_true_eq] at c
      cases h
      obtain ⟨⟨⟨c1,c2⟩,c3⟩,c4⟩:=c
      refine ⟨?_,?_,?_⟩
      · show D.tup [.int a,.int b] = .tup [.int (a.toNat:Int),.int (b.toNat:Int)]
        rw [Int.toNat_of_nonneg c1,Int.toNat_of_nonneg c3]
      · show a.toNat < 9
        (first | lia | omega)
      · show b.toNat < 8
        (first | lia | omega)
    · cases h
  · cases h
theorem pairs_vals {K:PySem.W.Frag} {H:Hp} {O:Addr → Prop}:∀ {ds:List D} {ps:List (Nat × Nat)} {xs:List V},prsOf ds = some ps → RDs K H O ds xs → ∃ as,xs = as.map V.ref ∧ PairsAt K H as ps ∧ ∀ p ∈ ps,inR p
  | [],ps,xs,h,w=>by
    rw [prsOf] at h;cases h
    rw [RDs] at w;subst w;exact ⟨[],rfl,rfl,fun p hp=>by cases hp⟩
  | d :: r,ps,xs,h,w=>by
    rw [prsOf] at h
    cases hp:pairOf d with
    | none=>rw [hp] at h;cases h
    | some p =>
      cases hq:prsOf r with
      | none=>rw [hp,hq] at h;cases h
      | some q =>
        rw [hp,hq] at h
        cases h
        obtain ⟨v,vs,rfl,w1,w2⟩:=w
        obtain ⟨as,rfl,h1,h2⟩:=pairs_vals hq w2
        obtain ⟨rfl,hi⟩:=pairOf_some hp
        obtain ⟨a,ys,rfl,hs,z,zs,rfl,e1,z2,zs2,rfl,e2,e3⟩:=w1
        cases (show z = _ from e1)
        cases (show z2 = _ from e2)
        cases (show zs2 = [] from e3)
        refine ⟨a :: as,rfl,⟨p,q,rfl,hs,h1⟩,fun y hy=>?_⟩
        rcases List.mem_cons.mp hy with e | hy
        · rw [e];exact hi
        · exact h2 y hy
theorem se_lset {pn pm pos2:Pos} (hh:X.calm = true) (hR:Roomy X) (hm1:X.mg "len" = none) (hm2:X.mg "set" = none) (hg1:Gl X "len") (hg2:Gl X "set") (hp:plainX p = true) (ha:SR T cf X x p) :
    SE T cf X (.lset x) (.Call (.Name "len" pn) [.Call (.Name "set" pm) [p] [] pos2] [] pos):=fun H₀ O₀=>by
  refine PE.imp (fun σ H Q hq=>?_) (pe_callB call_lenY hg1 hm1 PySem.boot_len (pa_cons (pe_callTy (call_setY hh hR) hg2 hm2 (by decide +kernel) (pa_cons (ha H₀ O₀) pa_nil (plain_star hp)) (by decide) (by decide) (plain_star hp) rfl) pa_nil rfl) (by decide) (by decide) rfl rfl)
  obtain ⟨O,own,e,d,F,ev,k⟩:=hq
  (first | rw [xE_var] at ev | rw [xE_rd] at ev | rw [xE_con] at ev | rw [xE_glob] at ev | rw [xE_bin] at ev | rw [xE_cmp] at ev | rw [xE_chain] at ev | rw [xE_and] at ev | rw [xE_or] at ev | rw [xE_not] at ev | rw [xE_neg] at ev | rw [xE_ife] at ev | rw [xE_ix] at ev | rw [xE_sl] at ev | rw [xE_omit] at ev | rw [xE_tup] at ev | rw [xE_lst] at ev | rw [xE_call] at ev | rw [xE_callB] at ev | rw [xE_bt] at ev | rw [xE_isi] at ev | rw [xE_dnew] at ev | rw [xE_mth] at ev | rw [xE_callT] at ev | rw [xE_gidx] at ev | rw [xE_lset] at ev | rw [xE_maxd] at ev | rw [xE_lrng] at ev | rw [xE_sset] at ev | rw [xE_dnewT] at ev | rw [xE_getT] at ev | rw [xE_comp] at ev | rw [xE_look] at ev)
  obtain ⟨d1,e1,ev1⟩:=Res.bind_ok ev
  refine ⟨O,own,e,d1,F,e1,fun v1 H1 s1 r1=>?_⟩
  have key:∃ n:Nat,d = .int n ∧ SetsOf X.K H1 v1 n:=by
    have other:∀ ds,d1 = .lst ds → (match prsOf ds with | some ps=>when (nodupP ps && decide (ps.length ≤ 72)) (Res.ok (D.int ps.length)) | none=>Res.no) = .ok d → ∃ n:Nat,d = .int n ∧ SetsOf X.K H1 v1 n:=by
      intro ds e0 ew
      subst e0
      cases hp:prsOf ds with
      | none=>rw [hp] at ew;cases ew
      | some ps =>
        rw [hp] at ew
        obtain ⟨c,ev3⟩:=when_ok ew
        rw [Bool.and_eq_true,decide_eq_true_eq] at c
        cases ev3
        obtain ⟨a,xs,rfl,q1,w1⟩:=r1.lst
        obtain ⟨as,rfl,h1,h2⟩:=pairs_vals hp w1
        exact ⟨_,rfl,.inr (.inr ⟨a,as,ps,rfl,q1,h1,nodupP_at c.1,c.2,rfl,h2⟩)⟩
    unfold D.setN at ev1
    cases hk:d1.keys with
    | ok ks =>
      rw [hk] at ev1
      obtain ⟨c,ev3⟩:=when_ok ev1
      rw [decide_eq_true_eq] at c
      cases ev3
      cases d1 with
      | lst ds =>
        refine ⟨_,rfl,.inl ⟨ks,?_,c,rfl⟩⟩
        obtain ⟨a,xs,rfl,q1,w1⟩:=r1.lst
        have e2:keysD ds = .ok ks:=hk
        rw [keys_vals e2 w1] at q1
        exact .inl ⟨a,rfl,q1⟩
      | tup ds =>
        obtain ⟨a,xs,rfl,q1,w1⟩:=r1.rd rfl
        have e2:keysD ds = .ok ks:=hk
        rw [keys_vals e2 w1] at q1
        exact ⟨_,rfl,.inr (.inl ⟨a,ks,rfl,q1,c,rfl⟩)⟩
      | str z =>
        refine ⟨_,rfl,.inl ⟨ks,?_,c,rfl⟩⟩
        cases (show v1 = .str z from r1.rd rfl)
        cases hk
        exact .inr ⟨z,rfl,rfl⟩
      | _=>cases hk
    | err c z =>
      rw [hk] at ev1
      cases d1 with
      | lst ds=>exact other ds rfl ev1
      | _=>cases ev1
    | no =>
      rw [hk] at ev1
      cases d1 with
      | lst ds=>exact other ds rfl ev1
      | _=>cases ev1
  obtain ⟨n,rfl,hs⟩:=key
  refine ⟨v1,n,rfl,hs,fun p hpn=>?_⟩
  exact ⟨p,n,rfl,upd_same,k _ _ (s1.trans (same_upd hpn _)) rfl fun z=>by cases z⟩
theorem ints_vals {K:PySem.W.Frag} {H:Hp} {O:Addr → Prop}:∀ {ds:List D} {ns:List Int} {xs:List V},intsOf ds = .ok ns → RDs K H O ds xs → xs = ns.map V.int
  | [],ns,xs,h,w=>by
    rw [intsOf] at h;cases h
    rw [RDs] at w;subst w;rfl
  | .int i :: r,ns,xs,h,w=>by
    rw [intsOf] at h
    obtain ⟨q,h1,h⟩:=Res.bind_ok h
    cases h
    obtain ⟨v,ys,rfl,e1,e2⟩:=w
    cases (show v = _ from e1)
    rw [ints_vals h1 e2];rfl
  | .non :: _,_,_,h,_ | .bl _ :: _,_,_,h,_ | .str _ :: _,_,_,h,_ | .tup _ :: _,_,_,h,_ | .lst _ :: _,_,_,h,_ | .dct _ :: _,_,_,h,_ | .tdc _ :: _,_,_,h,_=>by
    rw [intsOf] at h <;> first | cases h | (intros;rename_i z;cases z)
noncomputable def rB (K:PySem.W.Frag) (f:List D → Res D) (fr:Bool):List V → Hp → VK → Prop:=fun vs H Q=>∃ O ds d,RRs K H O ds vs ∧ f ds = .ok d ∧ (∀ a,O a → ∃ o,H a = some o) ∧ ∀ v H',Same H H' → RD K H' O d v → (fr = true → NewL K H H' O d v) → Q v H'
theorem rr1 {K:PySem.W.Frag} {H:Hp} {O:Addr → Prop} {d:D} {vs:List V} (h:RRs K H O [d] vs):∃ v,vs = [v] ∧ RR K H O d v:=by
  obtain ⟨v,r,rfl,h1,h2⟩:=h
  rw [RRs] at h2;subst h2
  exact ⟨v,rfl,h1⟩
theorem call_sum (hh:X.calm = true):CallR X (.builtin "sum") (fun xs H Q=>∃ (a:Addr) (ns:List Int),xs = [.ref a] ∧ SqL X.K H a (ns.map V.int) ∧ Q (.int ns.sum) H):=by
  intro pins s σ H xs us Q I r h
  obtain ⟨a,ns,rfl,hq,q⟩:=h
  obtain ⟨u,rfl,rx⟩:=vals1 r
  cases rx
  obtain ⟨its,r',pl,hz⟩:=I.list hq
  have hi:IntsAre its ns:=intsAre_of r'
  have hall:=hi.allInts
  obtain ⟨ys,hys⟩:=hall.items
  have hn:(numsOf its.toArray.toList) = ns:=by rw [show its.toArray.toList = its by simp];exact hi.numsOf
  refine sum_intListG (xs:=ys) (I.ok.hd hh) (by rw [← hys];exact pl.isList) fun h' tk t' hk=>?_
  refine ⟨.int ns.sum,H,I.kept (t':=tk) hk,⟨t',?_⟩,q⟩
  rw [hys,nums_intItems] at hn
  rw [preSum_eq,List.take_of_length_le (by simp),← hn]
noncomputable def Bt.val:Bt → Value
  | .len=>.builtin "len"
  | .sum=>.builtin "sum"
  | .tuple=>.type "tuple"
  | .list=>.type "list"
  | .int=>.type "int"
  | .str=>.type "str"
  | .bool=>.type "bool"
  | .abs=>.builtin "abs"
  | .min=>.builtin "min"
  | .max=>.builtin "max"
  | .all=>.builtin "all"
  | .any=>.builtin "any"
noncomputable def Bt.nm:Bt → Str
  | .len => "len"
  | .sum => "sum"
  | .tuple => "tuple"
  | .list => "list"
  | .int => "int"
  | .str => "str"
  | .bool => "bool"
  | .abs => "abs"
  | .min => "min"
  | .max => "max"
  | .all => "all"
  | .any => "any"
theorem run_one {b:Bt} {ds:List D} {d:D} (h:b.run ds = .ok d) (hb:∀ d1 d2,b.two d1 d2 = .no):∃ d0,ds = [d0] ∧ b.one d0 = .ok d:=by
  unfold Bt.run at h
  split at h
  · exact ⟨_,rfl,h⟩
  · rw [hb] at h;cases h
  · cases h
theorem bt_len:CallR X (.builtin "len") (rB X.K (Bt.run .len) false):=by
  intro pins s σ H xs us Q I rv h
  obtain ⟨O,ds,d,rr,ev,tr,k⟩:=h
  obtain ⟨d0,rfl,ev⟩:=run_one ev (fun _ _=>rfl)
  obtain ⟨v,rfl,r1⟩:=rr1 rr
  have ev:D.len d0 = .ok d:=ev
  unfold D.len at ev
  split at ev
  · cases ev
    obtain ⟨a,ys,rfl,q1,w1⟩:=r1.lst
    exact call_len_seq pins s σ H _ us Q I rv ⟨a,ys,rfl,.inl q1,k _ H (Same.refl H) (by rw [w1.length];exact rfl) (fun z=>by cases z)⟩
  · cases ev
    obtain ⟨a,ys,rfl,q1,w1⟩:=r1.tup
    exact call_len_seq pins s σ H _ us Q I rv ⟨a,ys,rfl,.inr q1,k _ H (Same.refl H) (by rw [w1.length];exact rfl) (fun z=>by cases z)⟩
  · obtain ⟨c,ev⟩:=when_ok ev
    cases ev
    cases (show v = _ from r1.rd rfl)
    exact call_len_str pins s σ H _ us Q I rv ⟨_,rfl,by rw [← big_line];exact of_decide_eq_true c,k _ H (Same.refl H) rfl (fun z=>by cases z)⟩
  · cases ev
    obtain ⟨a,ps,rfl,q1,w1⟩:=r1.dct
    obtain ⟨u,rfl,ru⟩:=vals1 rv
    cases ru
    exact d_len I (.inl q1) fun t s' I'=>⟨.int _,H,I',⟨t,rfl⟩,k _ H (Same.refl H) (by rw [w1.length];exact rfl) (fun z=>by cases z)⟩
  · cases ev
theorem bt_sum (hh:X.calm = true):CallR X (.builtin "sum") (rB X.K (Bt.run .sum) false):=by
  intro pins s σ H xs us Q I rv h
  obtain ⟨O,ds,d,rr,ev,tr,k⟩:=h
  obtain ⟨d0,rfl,ev⟩:=run_one ev (fun _ _=>rfl)
  obtain ⟨v,rfl,r1⟩:=rr1 rr
  have ev:D.sum d0 = .ok d:=ev
  unfold D.sum at ev
  split at ev
  · obtain ⟨ns,e1,ev⟩:=Res.bind_ok ev
    cases ev
    obtain ⟨a,ys,rfl,q1,w1⟩:=r1.lst
    have e:=ints_vals e1 w1
    subst e
    exact call_sum hh pins s σ H _ us Q I rv ⟨a,ns,rfl,q1,k _ H (Same.refl H) rfl (fun z=>by cases z)⟩
  · cases ev
theorem bt_tuple:CallR X (.type "tuple") (rB X.K (Bt.run .tuple) false):=by
  intro pins s σ H xs us Q I rv h
  obtain ⟨O,ds,d,rr,ev,tr,k⟩:=h
  obtain ⟨d0,rfl,ev⟩:=run_one ev (fun _ _=>rfl)
  obtain ⟨v,rfl,r1⟩:=rr1 rr
  have ev:D.tuple d0 = .ok d:=ev
  unfold D.tuple at ev
  split at ev
  · cases ev
    obtain ⟨a,ys,rfl,q1,w1⟩:=r1.lst
    exact call_tuple_of pins s σ H _ us Q I rv ⟨a,ys,rfl,.inl ⟨q1,fun l hl=>k _ _ (same_upd hl _) (new_tup w1 hl) (fun z=>by cases z)⟩⟩
  · cases ev
    obtain ⟨a,ys,rfl,q1,w1⟩:=r1.tup
    exact call_tuple_of pins s σ H _ us Q I rv ⟨a,ys,rfl,.inr ⟨q1,k _ H (Same.refl H) ⟨a,ys,rfl,q1,w1⟩ (fun z=>by cases z)⟩⟩
  · cases ev
theorem bt_list:CallR X (.type "list") (rB X.K (Bt.run .list) true):=by
  intro pins s σ H xs us Q I rv h
  obtain ⟨O,ds,d,rr,ev,tr,k⟩:=h
  obtain ⟨d0,rfl,ev⟩:=run_one ev (fun _ _=>rfl)
  obtain ⟨v,rfl,r1⟩:=rr1 rr
  have ev:D.list d0 = .ok d:=ev
  unfold D.list at ev
  split at ev
  · cases ev
    obtain ⟨a,ys,rfl,q1,w1⟩:=r1.lst
    refine call_list_of pins s σ H _ us Q I rv ⟨a,ys,rfl,.inl q1,fun l hl=>?_⟩
    have z:=new_lst w1 hl tr
    exact k _ _ (same_upd hl _) z.1 (fun _=>z.2)
  · cases ev
    obtain ⟨a,ys,rfl,q1,w1⟩:=r1.tup
    refine call_list_of pins s σ H _ us Q I rv ⟨a,ys,rfl,.inr q1,fun l hl=>?_⟩
    have z:=new_lst w1 hl tr
    exact k _ _ (same_upd hl _) z.1 (fun _=>z.2)
  · cases ev
theorem bt_int:CallR X (.type "int") (rB X.K (Bt.run .int) false):=by
  intro pins s σ H xs us Q I rv h
  obtain ⟨O,ds,d,rr,ev,tr,k⟩:=h
  obtain ⟨d0,rfl,ev⟩:=run_one ev (fun _ _=>rfl)
  obtain ⟨v,rfl,r1⟩:=rr1 rr
  have ev:D.toInt d0 = .ok d:=ev
  unfold D.toInt at ev
  split at ev
  · cases ev
    cases (show v = _ from r1.rd rfl)
    exact call_int1 pins s σ H _ us Q I rv (.inl ⟨_,rfl,k _ H (Same.refl H) rfl (fun z=>by cases z)⟩)
  · cases ev
    cases (show v = _ from r1.rd rfl)
    exact call_int1 pins s σ H _ us Q I rv (.inr ⟨_,rfl,k _ H (Same.refl H) rfl (fun z=>by cases z)⟩)
  · obtain ⟨c,ev⟩:=when_ok ev
    cases ev
    rw [Bool.and_eq_true,decide_eq_true_eq] at c
    cases (show v = _ from r1.rd rfl)
    exact call_int_text pins s σ H _ us Q I rv ⟨_,rfl,c.1,c.2,k _ H (Same.refl H) rfl (fun z=>by cases z)⟩
  · cases ev
theorem bls_vals {K:PySem.W.Frag} {H:Hp} {O:Addr → Prop}:∀ {ds:List D} {ns:List Bool} {xs:List V},blsOf ds = .ok ns → RDs K H O ds xs → xs = ns.map V.bl
  | [],ns,xs,h,w=>by
    rw [blsOf] at h;cases h
    rw [RDs] at w;subst w;rfl
  | .bl i :: r,ns,xs,h,w=>by
    rw [blsOf] at h
    obtain ⟨q,h1,h⟩:=Res.bind_ok h
    cases h
    obtain ⟨v,ys,rfl,e1,e2⟩:=w
    cases (show v = _ from e1)
    rw [bls_vals h1 e2];rfl
  | .non :: _,_,_,h,_ | .int _ :: _,_,_,h,_ | .str _ :: _,_,_,h,_ | .tup _ :: _,_,_,h,_ | .lst _ :: _,_,_,h,_ | .dct _ :: _,_,_,h,_ | .tdc _ :: _,_,_,h,_=>by
    rw [blsOf] at h <;> first | cases h | (intros;rename_i z;cases z)
theorem bt_all (hc:X.calm = true):CallR X (.builtin "all") (rB X.K (Bt.run .all) false):=by
  intro pins s σ H xs us Q I rv h
  obtain ⟨O,ds,d,rr,ev,tr,k⟩:=h
  obtain ⟨d0,rfl,ev⟩:=run_one ev (fun _ _=>rfl)
  obtain ⟨v,rfl,r1⟩:=rr1 rr
  have ev:D.all d0 = .ok d:=ev
  unfold D.all at ev
  split at ev
  · obtain ⟨ns,e1,ev⟩:=Res.bind_ok ev
    cases ev
    obtain ⟨a,ys,rfl,q1,w1⟩:=r1.lst
    have e:=bls_vals e1 w1
    subst e
    exact Tr.call_all pins s σ H _ us Q I rv ⟨a,ns,rfl,q1,hc,k _ H (Same.refl H) rfl (fun z=>by cases z)⟩
  · cases ev
theorem bt_any (hc:X.calm = true):CallR X (.builtin "any") (rB X.K (Bt.run .any) false):=by
  intro pins s σ H xs us Q I rv h
  obtain ⟨O,ds,d,rr,ev,tr,k⟩:=h
  obtain ⟨d0,rfl,ev⟩:=run_one ev (fun _ _=>rfl)
  obtain ⟨v,rfl,r1⟩:=rr1 rr
  have ev:D.any d0 = .ok d:=ev
  unfold D.any at ev
  split at ev
  · obtain ⟨ns,e1,ev⟩:=Res.bind_ok ev
    cases ev
    obtain ⟨a,ys,rfl,q1,w1⟩:=r1.lst
    have e:=bls_vals e1 w1
    subst e
    exact Tr.call_any pins s σ H _ us Q I rv ⟨a,ns,rfl,q1,hc,k _ H (Same.refl H) rfl (fun z=>by cases z)⟩
  · cases ev
theorem tcb_of {b:Bt} {H₀:Hp} {O₀:Addr → Prop} {σ:L2.St} {H:Hp} {Q:VK} (h:tE T cf X.K H₀ O₀ (.bt b x) σ H Q):tCB (rB X.K (Bt.run b) (freshE T (.bt b x))) (tAr T cf X.K H₀ O₀ x) σ H Q:=by
  obtain ⟨O,own,e,d,F,ev,k⟩:=h
  (first | rw [xE_var] at ev | rw [xE_rd] at ev | rw [xE_con] at ev | rw [xE_glob] at ev | rw [xE_bin] at ev | rw [xE_cmp] at ev | rw [xE_chain] at ev | rw [xE_and] at ev | rw [xE_or] at ev | rw [xE_not] at ev | rw [xE_neg] at ev | rw [xE_ife] at ev | rw [xE_ix] at ev | rw [xE_sl] at ev | rw [xE_omit] at ev | rw [xE_tup] at ev | rw [xE_lst] at ev | rw [xE_call] at ev | rw [xE_callB] at ev | rw [xE_bt] at ev | rw [xE_isi] at ev | rw [xE_dnew] at ev | rw [xE_mth] at ev | rw [xE_callT] at ev | rw [xE_gidx] at ev | rw [xE_lset] at ev | rw [xE_maxd] at ev | rw [xE_lrng] at ev | rw [xE_sset] at ev | rw [xE_dnewT] at ev | rw [xE_getT] at ev | rw [xE_comp] at ev | rw [xE_look] at ev)
  obtain ⟨ds,e1,ev⟩:=Res.bind_ok ev
  refine ⟨O,own,e,ds,F,e1,fun vs H1 s1 r1=>?_⟩
  refine ⟨O,ds,d,r1,ev,(F.grow s1).trk,fun v H' s2 r2 n2=>k v H' (s1.trans s2) r2 fun fr=>(n2 fr).back s1⟩
noncomputable def Bt.use:Bt → Bool
  | .str=>false
  | .bool=>false
  | .abs=>false
  | .min=>false
  | .max=>false
  | _=>true
theorem se_bt {b:Bt} {n:Str} {pn:Pos} (hu:b.use = true) (hh:X.calm = true) (hn:n = b.nm) (hm:X.mg b.nm = none) (hg:Gl X n) (hp:(p :: es).all plainX = true) (ha:SAr T cf X x (p :: es)):SE T cf X (.bt b x) (.Call (.Name n pn) (p :: es) [] pos):=fun H₀ O₀=>by
  subst hn
  rw [List.all_cons,Bool.and_eq_true] at hp
  refine PE.imp (fun σ H Q h=>tcb_of h) ?_
  cases b with
  | len=>exact pe_callB bt_len hg hm PySem.boot_len (ha H₀ O₀) (by decide) (by decide) (plain_star hp.1) (plain_any hp.2)
  | sum=>exact pe_callB (bt_sum hh) hg hm PyProof.Rows.boot_sum (ha H₀ O₀) (by decide) (by decide) (plain_star hp.1) (plain_any hp.2)
  | tuple=>exact pe_callTy bt_tuple hg hm PyProof.Rows.boot_tuple (ha H₀ O₀) (by decide) (by decide) (plain_star hp.1) (plain_any hp.2)
  | list=>exact pe_callTy bt_list hg hm PyProof.Rows.boot_list (ha H₀ O₀) (by decide) (by decide) (plain_star hp.1) (plain_any hp.2)
  | int=>exact pe_callTy bt_int hg hm PyProof.Rows.boot_int (ha H₀ O₀) (by decide) (by decide) (plain_star hp.1) (plain_any hp.2)
  | str=>cases hu
  | bool=>cases hu
  | abs=>cases hu
  | min=>cases hu
  | max=>cases hu
  | all=>exact pe_callB (bt_all hh) hg hm (by decide +kernel) (ha H₀ O₀) (by decide) (by decide) (plain_star hp.1) (plain_any hp.2)
  | any=>exact pe_callB (bt_any hh) hg hm (by decide +kernel) (ha H₀ O₀) (by decide) (by decide) (plain_star hp.1) (plain_any hp.2)
noncomputable def Ty.nm:Ty → String
  | .int => "int"
  | .bool => "bool"
  | .str => "str"
  | .tuple => "tuple"
  | .list => "list"
theorem kit_non (K:PySem.W.Frag) (t:Ty):PySem.W.kitOne K (.type "NoneType") (.type t.nm) = some (D.isTy .non t):=by cases t <;> rfl
theorem kit_bl (K:PySem.W.Frag) (t:Ty) (b:Bool):PySem.W.kitOne K (.type "bool") (.type t.nm) = some (D.isTy (.bl b) t):=by cases t <;> rfl
theorem kit_int (K:PySem.W.Frag) (t:Ty) (i:Int):PySem.W.kitOne K (.type "int") (.type t.nm) = some (D.isTy (.int i) t):=by cases t <;> rfl
theorem kit_str (K:PySem.W.Frag) (t:Ty) (x:Str):PySem.W.kitOne K (.type "str") (.type t.nm) = some (D.isTy (.str x) t):=by cases t <;> rfl
theorem kit_tup (K:PySem.W.Frag) (t:Ty) (x:List D):PySem.W.kitOne K (.type "tuple") (.type t.nm) = some (D.isTy (.tup x) t):=by cases t <;> rfl
theorem kit_lst (K:PySem.W.Frag) (t:Ty) (x:List D):PySem.W.kitOne K (.type "list") (.type t.nm) = some (D.isTy (.lst x) t):=by cases t <;> rfl
theorem isi_D (t:Ty):CallR X (.builtin "isinstance") (fun xs H Q=>∃ O d v,xs = [v,.ty t.nm] ∧ RR X.K H O d v ∧ d.isDct = false ∧ Q (.bl (d.isTy t)) H):=by
  intro pins s σ H xs us Q I rv h
  obtain ⟨O,d,v,rfl,r,nd,q⟩:=h
  obtain ⟨u,w,rfl,r1,r2⟩:=vals2 rv
  cases (show w = _ from r2)
  have fin:∀ tk,EP X pins σ Q (.bool (d.isTy t)) { s with toks:=tk }:=fun tk=>⟨.bl (d.isTy t),H,I.tok tk,rfl,q⟩
  have sn:=sees I r.bare r1
  cases sn with
  | dct ds a ps q w=>cases nd
  | tdc ds a ps q w=>cases nd
  | non=>exact PySem.W.kia_one PySem.W.kitx_none I.kIn True.intro (kit_non _ t) (fun z=>nomatch z) fin
  | bl b=>exact PySem.W.kia_one PySem.W.kitx_bool I.kIn True.intro (kit_bl _ t b) (fun z=>nomatch z) fin
  | int i tk=>exact PySem.W.kia_one PySem.W.kitx_int I.kIn True.intro (kit_int _ t i) (fun z=>nomatch z) fin
  | str x tk=>exact PySem.W.kia_one PySem.W.kitx_str I.kIn True.intro (kit_str _ t x) (fun z=>nomatch z) fin
  | tup ds a xs its q w r p =>
    obtain ⟨o,h1,h2,_⟩:=p
    exact PySem.W.kia_one PySem.W.kitx_tuple I.kIn ⟨o,h1,h2⟩ (kit_tup _ t ds) (fun z=>nomatch z) fin
  | lst ds a xs its q w r p =>
    obtain ⟨o,h1,h2,_⟩:=p.isList
    exact PySem.W.kia_one PySem.W.kitx_list I.kIn ⟨o,h1,h2⟩ (kit_lst _ t ds) (fun z=>nomatch z) fin
theorem boot_ty (t:Ty):bootBuiltins (Str.ofString t.nm) = some (.type t.nm):=by
  cases t
  · exact PyProof.Rows.boot_int
  · exact PyProof.Rows.boot_bool
  · exact PyProof.Rows.boot_str
  · exact PyProof.Rows.boot_tuple
  · exact PyProof.Rows.boot_list
theorem se_isi {t:Ty} {n m:Str} {pn pm:Pos} (hn:n = "isinstance") (hm':m = Str.ofString t.nm) (h0:X.mg "isinstance" = none) (h1:X.mg (Str.ofString t.nm) = none) (hg:Gl X n) (hg':Gl X m) (hp:plainX p = true) (ha:SR T cf X x p) :
    SE T cf X (.isi x t) (.Call (.Name n pn) [p,.Name m pm] [] pos):=fun H₀ O₀=>by
  subst hn hm'
  have ht:PE X (.Name (Str.ofString t.nm) pm) (tC (.ty t.nm)):=pe_bltn hg' h1 (boot_ty t) rfl (by cases t <;> decide) (by cases t <;> decide)
  refine PE.imp (fun σ H Q hq=>?_) (pe_callB (isi_D t) hg h0 PyProof.Rows.boot_isinstance (pa_cons (ha H₀ O₀) (pa_cons ht pa_nil (plain_star rfl)) (plain_star hp)) (by decide) (by decide) (plain_star hp) (plain_any rfl))
  obtain ⟨O,own,e,d,F,ev,k⟩:=hq
  (first | rw [xE_var] at ev | rw [xE_rd] at ev | rw [xE_con] at ev | rw [xE_glob] at ev | rw [xE_bin] at ev | rw [xE_cmp] at ev | rw [xE_chain] at ev | rw [xE_and] at ev | rw [xE_or] at ev | rw [xE_not] at ev | rw [xE_neg] at ev | rw [xE_ife] at ev | rw [xE_ix] at ev | rw [xE_sl] at ev | rw [xE_omit] at ev | rw [xE_tup] at ev | rw [xE_lst] at ev | rw [xE_call] at ev | rw [xE_callB] at ev | rw [xE_bt] at ev | rw [xE_isi] at ev | rw [xE_dnew] at ev | rw [xE_mth] at ev | rw [xE_callT] at ev | rw [xE_gidx] at ev | rw [xE_lset] at ev | rw [xE_maxd] at ev | rw [xE_lrng] at ev | rw [xE_sset] at ev | rw [xE_dnewT] at ev | rw [xE_getT] at ev | rw [xE_comp] at ev | rw [xE_look] at ev)
  obtain ⟨d1,e1,ev⟩:=Res.bind_ok ev
  obtain ⟨c,ev⟩:=when_ok ev
  cases ev
  refine ⟨O,own,e,d1,F,e1,fun v1 H1 s1 r1=>?_⟩
  exact ⟨O,d1,v1,rfl,r1,by simpa using c,k _ H1 s1 rfl (fun z=>by cases z)⟩
noncomputable def Mt.nm:Mt → Str
  | .split => "split"
  | .join => "join"
  | .index => "index"
noncomputable def baseX:Expr → Bool
  | .Name _ _=>true
  | .Constant _ _ _=>true
  | .Subscript _ _ _=>true
  | .BinOp _ _ _ _=>true
  | _=>false
theorem base_of {e:Expr} {nm:Str} {env:Env} (h:baseX e = true) (hn:(nm == ("__class__" : Str)) = false):attributeBase e nm env (eval e env) = eval e env:=by
  cases e <;> first | (cases h;done) | rfl
end
end Tr
namespace Tr
open PySem PySem.Spec PyProof.Rows L2
noncomputable def Wk1 (K:PySem.W.Frag) (J:It) (d0:D) (v0:V) (ds:List D):Prop:=∀ i H O,RR K H O d0 v0 →
  (i < ds.length → J.go i H) ∧ (ds.length ≤ i → J.stop i H) ∧ ∀ x H' d,ds[i]? = some d → J.yld i H x H' → Same H H' ∧ RD K H' O d x
noncomputable def Wk (K:PySem.W.Frag) (J:It) (srs:List (D × V)) (ds:List D):Prop:=∀ i H O,(∀ t ∈ srs,RR K H O t.1 t.2) →
  (i < ds.length → J.go i H) ∧ (ds.length ≤ i → J.stop i H) ∧ ∀ x H' d,ds[i]? = some d → J.yld i H x H' → Same H H' ∧ RD K H' O d x
theorem Wk1.wk {K:PySem.W.Frag} {J:It} {d0:D} {v0:V} {ds:List D} (h:Wk1 K J d0 v0 ds):Wk K J [(d0,v0)] ds:=fun i H O r=>h i H O (r (d0,v0) (List.mem_singleton.mpr rfl))
theorem k1_of {K:PySem.W.Frag} {H:Hp} {O:Addr → Prop} {rd:Bool} {ds:List D} {R:It → Hp → Prop} (k:∀ J H' srs,Same H H' → (∀ t ∈ srs,RR K H' O t.1 t.2) → (rd = false → ∀ t ∈ srs,RD K H' O t.1 t.2) → Wk K J srs ds → R J H') :
    ∀ J H' d0 v0,Same H H' → RR K H' O d0 v0 → (rd = false → RD K H' O d0 v0) → Wk1 K J d0 v0 ds → R J H':=fun J H' d0 v0 s r rv w =>
  k J H' [(d0,v0)] s (fun t ht=>by rw [List.mem_singleton.mp ht];exact r) (fun z t ht=>by rw [List.mem_singleton.mp ht];exact rv z) w.wk
noncomputable def tI (T:Tab) (cf:Nat → List D → Res D) (K:PySem.W.Frag) (H₀:Hp) (O₀:Addr → Prop) (x:E) (rd:Bool):TI:=fun σ H R=>∃ O own e ds,Fm K H₀ O₀ H O own e σ ∧ evI T cf x e = .ok ds ∧
  ∀ J H' srs,Same H H' → (∀ t ∈ srs,RR K H' O t.1 t.2) → (rd = false → ∀ t ∈ srs,RD K H' O t.1 t.2) → Wk K J srs ds → R J H'
noncomputable def SI (T:Tab) (cf:Nat → List D → Res D) (X:Cx) (tg:Expr) (x:E) (rd:Bool) (p:Expr):Prop:=∀ H₀ O₀,PI X tg p (tI T cf X.K H₀ O₀ x rd)
section
variable {T:Tab} {cf:Nat → List D → Res D} {X:Cx} {x y z:E} {p q r tg:Expr} {pos pos':Pos} {es:List Expr}
theorem wk_list {K:PySem.W.Frag} {a:Addr} {ds:List D}:Wk1 K (Itl K a) (.lst ds) (.ref a) ds:=by
  intro i H O r
  obtain ⟨a',xs,e,q,w⟩:=r.lst
  cases e
  have hl:=w.length
  refine ⟨fun h=>?_,fun h=>⟨xs,q,by (first | lia | omega)⟩,fun x H' d hd y=>?_⟩
  · obtain ⟨v,h1,h2⟩:=w.get (List.getElem?_eq_getElem h)
    exact ⟨xs,v,q,h1⟩
  · obtain ⟨rfl,y⟩:=y
    refine ⟨Same.refl _,?_⟩
    obtain ⟨v,h1,h2⟩:=w.get hd
    have:=(y xs q).symm.trans h1
    cases this
    exact h2
theorem wk_tup {K:PySem.W.Frag} {a:Addr} {ds:List D}:Wk1 K (Itt K a) (.tup ds) (.ref a) ds:=by
  intro i H O r
  obtain ⟨a',xs,e,q,w⟩:=r.tup
  cases e
  have hl:=w.length
  refine ⟨fun h=>?_,fun h=>⟨xs,q,by (first | lia | omega)⟩,fun x H' d hd y=>?_⟩
  · obtain ⟨v,h1,h2⟩:=w.get (List.getElem?_eq_getElem h)
    exact ⟨xs,v,q,h1⟩
  · obtain ⟨rfl,y⟩:=y
    refine ⟨Same.refl _,?_⟩
    obtain ⟨v,h1,h2⟩:=w.get hd
    have:=(y xs q).symm.trans h1
    cases this
    exact h2
theorem rangeD_len (lo:Int):∀ n,(rangeD lo n).length = n
  | 0=>rfl
  | n + 1=>by rw [rangeD,List.length_cons,rangeD_len (lo + 1) n]
theorem rangeD_get:∀ (lo:Int) (n i:Nat),i < n → (rangeD lo n)[i]? = some (.int (lo + i))
  | lo,0,i,h=>absurd h (Nat.not_lt_zero _)
  | lo,n + 1,0,_=>by rw [rangeD];simp
  | lo,n + 1,i + 1,h=>by
    rw [rangeD,List.getElem?_cons_succ,rangeD_get (lo + 1) n i (by (first | lia | omega))]
    congr 2
    push_cast
    (first | lia | omega)
theorem wk_rng {K:PySem.W.Frag} {lo:Int} {n:Nat}:Wk1 K (Itr lo n) .non .non (rangeD lo n):=by
  intro i H O r
  rw [rangeD_len]
  refine ⟨fun h=>h,fun h=>h,fun x H' d hd y=>?_⟩
  obtain ⟨rfl,rfl⟩:=y
  refine ⟨Same.refl _,?_⟩
  by_cases hi:i < n
  · rw [rangeD_get lo n i hi] at hd
    cases hd
    exact rfl
  · rw [List.getElem?_eq_none (by rw [rangeD_len];(first | lia | omega))] at hd
    cases hd
theorem wk_str {K:PySem.W.Frag} {z:Str}:Wk1 K (Its z) (.str z) (.str z) (z.cps.toList.map fun c=>D.str (chr1 c)):=by
  intro i H O r
  rw [List.length_map]
  refine ⟨fun h=>by simpa [Its] using h,fun h=>by simpa [Its] using h,fun x H' d hd y=>?_⟩
  obtain ⟨rfl,c,hc,rfl⟩:=y
  refine ⟨Same.refl _,?_⟩
  rw [List.getElem?_map] at hd
  have hc':z.cps.toList[i]? = some c:=by simpa using hc
  rw [hc'] at hd
  cases hd
  exact rfl
theorem si_seq {rd:Bool} (ha:SR T cf X x p) (hv:rd = false → SE T cf X x p):SI T cf X tg (.seq x) rd p:=by
  intro H₀ O₀ pins s σ H R I h
  obtain ⟨O,own,e,ds,F,ev,k⟩:=h
  replace k:=k1_of k
  (first | rw [xI_seq] at ev | rw [xI_rng] at ev | rw [xI_rng2] at ev | rw [xI_enum] at ev | rw [xI_zip] at ev)
  obtain ⟨d1,e1,ev⟩:=Res.bind_ok ev
  have main:∀ {u:Value} {s1:Shared} {v:V} {H1:Hp},Inv X pins σ H1 s1 → RelV v u → Same H H1 → RR X.K H1 O d1 v → (rd = false → RD X.K H1 O d1 v) → wpAny (model X.prog X.w) X.A (pyIter u) (PIE X pins σ tg R) X.xe s1:=by
    intro u s1 v H1 I1 r1 s1' rr rv
    unfold D.items at ev
    split at ev
    · cases ev
      obtain ⟨a,xs,e,q1,w1⟩:=rr.lst
      subst e
      cases r1
      obtain ⟨its,r',pl,hz⟩:=I1.list q1
      refine wpAny_pyIter_list pl.isList ?_
      refine ⟨s1.heap.objs.size,[s1.heap.objs.size],_,Itl X.K a,H1,rfl,I1.kept (t':=s1.toks) fun b u e=>Heap.get?_push_of_some _ e,turn_list a _,⟨_,Heap.get?_push_size _ rfl,rfl,rfl⟩,fun b hb=>?_,k _ H1 _ _ s1' rr rv wk_list⟩
      rcases List.mem_cons.mp hb with rfl | hb
      · exact I1.fpOk (Nat.le_refl _) (I1.hok.fresh (Nat.le_refl _))
      · cases hb
    · cases ev
      obtain ⟨a,xs,e,q1,w1⟩:=rr.tup
      subst e
      cases r1
      obtain ⟨its,r',pl,hz⟩:=I1.tuple q1
      refine wpAny_pyIter_tuple pl ?_
      refine ⟨s1.heap.objs.size,[s1.heap.objs.size],_,Itt X.K a,H1,rfl,I1.kept (t':=s1.toks) fun b u e=>Heap.get?_push_of_some _ e,turn_tuple a _,⟨_,Heap.get?_push_size _ rfl,rfl,rfl⟩,fun b hb=>?_,k _ H1 _ _ s1' rr rv wk_tup⟩
      rcases List.mem_cons.mp hb with rfl | hb
      · exact I1.fpOk (Nat.le_refl _) (I1.hok.fresh (Nat.le_refl _))
      · cases hb
    · cases ev
      rename_i z
      cases (show v = .str z from rr.rd rfl)
      obtain ⟨t,rfl⟩:=r1
      exact pi_str I1 (k _ H1 (.str z) (.str z) s1' rr rv wk_str)
    · cases ev
  cases rd with
  | true=>exact thn (ha H₀ O₀ pins s σ H (fun v H1=>Same H H1 ∧ RR X.K H1 O d1 v) I ⟨O,own,e,d1,F,e1,fun v H' s' r=>⟨s',r⟩⟩) fun u s1 ⟨v,H1,I1,r1,s1',rr⟩=>main I1 r1 s1' rr (fun z=>by cases z)
  | false=>exact thn (hv rfl H₀ O₀ pins s σ H (fun v H1=>Same H H1 ∧ RD X.K H1 O d1 v) I ⟨O,own,e,d1,F,e1,fun v H' s' r _=>⟨s',r⟩⟩) fun u s1 ⟨v,H1,I1,r1,s1',rr⟩=>main I1 r1 s1' rr.rr (fun _=>rr)
theorem si_rng {rd:Bool} {n:Str} {pn:Pos} (hn:n = "range") (hg:Gl X n) (hm:X.mg "range" = none) (hp:plainX p = true) (ha:SE T cf X x p):SI T cf X tg (.rng x) rd (.Call (.Name n pn) [p] [] pos):=by
  intro H₀ O₀ pins s σ H R I h
  subst hn
  obtain ⟨O,own,e,ds,F,ev,k⟩:=h
  replace k:=k1_of k
  (first | rw [xI_seq] at ev | rw [xI_rng] at ev | rw [xI_rng2] at ev | rw [xI_enum] at ev | rw [xI_zip] at ev)
  obtain ⟨d1,e1,ev⟩:=Res.bind_ok ev
  refine pi_range1 hg hm (pa_cons (ha H₀ O₀) pa_nil (plain_star hp)) (plain_star hp) pins s σ H R I ⟨O,own,e,d1,F,e1,fun v H' s' r _=>?_⟩
  split at ev
  · obtain ⟨c,ev⟩:=when_ok ev
    cases ev
    cases (show v = _ from r)
    simp only [small62,Bool.and_eq_true,decide_eq_true_eq] at c
    exact ⟨_,rfl,c.1,c.2,k _ H' .non .non s' (.inl rfl) (fun _=>rfl) wk_rng⟩
  · cases ev
theorem si_rng2 {rd:Bool} {n:Str} {pn:Pos} (hn:n = "range") (hg:Gl X n) (hm:X.mg "range" = none) (hp:plainX p = true) (hq:plainX q = true) (ha:SE T cf X x p) (hb:SE T cf X y q):SI T cf X tg (.rng2 x y) rd (.Call (.Name n pn) [p,q] [] pos):=by
  intro H₀ O₀ pins s σ H R I h
  subst hn
  obtain ⟨O,own,e,ds,F,ev,k⟩:=h
  replace k:=k1_of k
  (first | rw [xI_seq] at ev | rw [xI_rng] at ev | rw [xI_rng2] at ev | rw [xI_enum] at ev | rw [xI_zip] at ev)
  obtain ⟨d1,e1,ev⟩:=Res.bind_ok ev
  split at ev
  · obtain ⟨d2,e2,ev⟩:=Res.bind_ok ev
    split at ev
    · obtain ⟨c,ev⟩:=when_ok ev
      cases ev
      simp only [small62,Bool.and_eq_true,decide_eq_true_eq] at c
      refine pi_range2 hg hm (pa_cons (ha H₀ O₀) (pa_cons (hb H₀ O₀) pa_nil (plain_star hq)) (plain_star hp)) (by rw [plain_star hp,plain_star hq];rfl) (plain_star hq) pins s σ H R I ⟨O,own,e,_,F,e1,fun v H1 s1 r1 _=>⟨O,own,e,_,F.grow s1,e2,fun v2 H2 s2 r2 _=>?_⟩⟩
      cases (show v = _ from r1)
      cases (show v2 = _ from r2)
      exact ⟨_,_,rfl,⟨c.1.1,c.1.2,c.2.1,c.2.2⟩,k _ H2 .non .non (s1.trans s2) (.inl rfl) (fun _=>rfl) wk_rng⟩
    · cases ev
  · cases ev
noncomputable def Ft (K:PySem.W.Frag) (H₀:Hp) (O₀:Addr → Prop) (ts:List (D × V)) (e:Nv) (σ:L2.St) (H:Hp):Prop:=∃ O own,Fm K H₀ O₀ H O own e σ ∧ ∀ t ∈ ts,RD K H O t.1 t.2
noncomputable def tG (K:PySem.W.Frag) (H₀:Hp) (O₀:Addr → Prop) (g:G):TG:=fun v σ H Q=>∃ O own e d e',Fm K H₀ O₀ H O own e σ ∧ RD K H O d v ∧ g.put d e = .ok e' ∧ ∀ σ' own',(∀ j a,own' j = some a → own j = some a) → Fm K H₀ O₀ H O own' e' σ' → Q σ' H
noncomputable def SG (X:Cx) (g:G) (tg:Expr):Prop:=∀ H₀ O₀,PG X tg (tG X.K H₀ O₀ g)
theorem PG.imp {t t':TG} (h:∀ v σ H Q,t' v σ H Q → t v σ H Q) (hp:PG X tg t):PG X tg t':=fun pins s σ H v u Q I r q=>hp pins s σ H v u Q I r (h v σ H Q q)
theorem own_less {own:Nat → Option Addr} {i:Nat}:∀ j a,(fun j=>if j = i then none else own j) j = some a → own j = some a:=fun j a h=>by
  dsimp only at h
  by_cases hj:j = i
  · rw [if_pos hj] at h;cases h
  · rw [if_neg hj] at h;exact h
theorem sg_one {i:Nat} {n:Str} (hN:X.N.Nodup) (hi:X.N[i]? = some n) (hx:Loc X.env.scope n) (hf:X.fn n = true ∨ X.env.scope.names.lookup n = some .local):SG X (.one i) (.Name n pos):=fun H₀ O₀ =>
  PG.imp (fun v σ H Q ⟨O,own,e,d,e',F,r,ev,k⟩=>by
    cases ev
    exact k _ _ own_less (F.setV i r)) (pg_name hN hi hx hf)
noncomputable def tGs (K:PySem.W.Frag) (H₀:Hp) (O₀:Addr → Prop) (is:List Nat):TGs:=fun vs σ H Q=>∃ O own e ds e',Fm K H₀ O₀ H O own e σ ∧ RDs K H O ds vs ∧ puts is ds e = .ok e' ∧ ∀ σ' own',(∀ j a,own' j = some a → own j = some a) → Fm K H₀ O₀ H O own' e' σ' → Q σ' H
noncomputable def SGs (X:Cx) (is:List Nat) (tgs:List Expr):Prop:=∀ H₀ O₀,PGs X tgs (tGs X.K H₀ O₀ is)
theorem PGs.imp {tgs:List Expr} {t t':TGs} (h:∀ v σ H Q,t' v σ H Q → t v σ H Q) (hp:PGs X tgs t):PGs X tgs t':=fun pins s σ H v u Q I r q=>hp pins s σ H v u Q I r (h v σ H Q q)
theorem sgs_nil:SGs X [] []:=fun H₀ O₀=>PGs.imp (fun vs σ H Q ⟨O,own,e,ds,e',F,r,ev,k⟩=>by
  cases ds with
  | nil =>
    simp only [puts] at ev
    cases ev
    rw [RDs] at r
    exact ⟨r,k _ _ (fun _ _ h=>h) F⟩
  | cons d ds=>simp only [puts] at ev;cases ev) pgs_nil
theorem each_name {n:Str} {pos:Pos} {es:List Expr} {env:Env}:(assignEach (.Name n pos :: es) env).map (·.2) = assign (.Name n pos) env :: (assignEach es env).map (·.2):=rfl
theorem sgs_cons {i:Nat} {is:List Nat} {n:Str} (hN:X.N.Nodup) (hi:X.N[i]? = some n) (hx:Loc X.env.scope n) (hf:X.fn n = true ∨ X.env.scope.names.lookup n = some .local) (h:SGs X is es):SGs X (i :: is) (.Name n pos :: es):=fun H₀ O₀ =>
  PGs.imp (fun vs σ H Q ⟨O,own,e,ds,e',F,r,ev,k⟩=>by
    cases ds with
    | nil=>simp only [puts] at ev;cases ev
    | cons d ds =>
      rw [puts] at ev
      obtain ⟨v,vr,rfl,r1,r2⟩:=r
      exact ⟨v,vr,rfl,O,_,_,ds,e',F.setV i r1,r2,ev,fun σ' own' h=>k σ' own' fun j a q=>own_less j a (h j a q)⟩) (pgs_cons (pg_name hN hi hx hf) (h H₀ O₀) each_name)
noncomputable def names1:List Expr → Bool
  | []=>true
  | .Name _ _ :: r=>names1 r
  | _=>false
theorem each_len {env:Env}:∀ {es:List Expr},names1 es = true → (assignEach es env).length = es.length:=by
  intro es
  induction es with
  | nil=>intro _;rfl
  | cons e es ih =>
    intro h
    cases e with
    | Name n pos =>
      show ((false,assign (.Name n pos) env) :: assignEach es env).length = _
      rw [List.length_cons,ih h,List.length_cons]
    | _=>exact absurd h Bool.false_ne_true
theorem each_star {env:Env}:∀ {es:List Expr},names1 es = true → (assignEach es env).findIdx? (·.1) = none:=by
  intro es
  induction es with
  | nil=>intro _;rfl
  | cons e es ih =>
    intro h
    cases e with
    | Name n pos =>
      show ((false,assign (.Name n pos) env) :: assignEach es env).findIdx? (·.1) = none
      rw [List.findIdx?_cons,ih h];rfl
    | _=>exact absurd h Bool.false_ne_true
theorem puts_len:∀ {is:List Nat} {ds:List D} {e e':Nv},puts is ds e = .ok e' → ds.length = is.length
  | [],[],_,_,_=>rfl
  | [],_ :: _,_,_,h=>by simp only [puts] at h;cases h
  | _ :: _,[],_,_,h=>by simp only [puts] at h;cases h
  | i :: is,d :: ds,e,e',h=>by
    rw [puts] at h
    rw [List.length_cons,List.length_cons,puts_len h]
theorem sg_many {is:List Nat} {k:Nat} (hc:X.calm = true) (hn:names1 es = true) (hl:es.length = is.length) (h:SGs X is es):SG X (.many is) (.Tuple es k pos):=fun H₀ O₀ =>
  PG.imp (fun v σ H Q ⟨O,own,e,d,e',F,r,ev,k⟩=>by
    cases d with
    | tup ds =>
      have ev:puts is ds e = .ok e':=ev
      obtain ⟨a,xs,rfl,q,w⟩:=r
      exact ⟨a,xs,rfl,q,by rw [w.length,puts_len ev,← hl],O,own,e,ds,e',F,w,ev,k⟩
    | non=>cases ev
    | bl _=>cases ev
    | int _=>cases ev
    | str _=>cases ev
    | lst _=>cases ev
    | dct _=>cases ev
    | tdc _=>cases ev) (pg_tup (n:=es.length) hc (h H₀ O₀) (each_len hn) (each_star hn))
noncomputable def Ends.to (K:PySem.W.Frag) (H₀:Hp) (O₀:Addr → Prop) (ts:List (D × V)) (D':Ends):Out → Prop
  | .nx e'=>∀ σ' H',Ft K H₀ O₀ ts e' σ' H' → D'.nx σ' H'
  | .bk e'=>∀ σ' H',Ft K H₀ O₀ ts e' σ' H' → D'.bk σ' H'
  | .ct e'=>∀ σ' H',Ft K H₀ O₀ ts e' σ' H' → D'.ct σ' H'
  | .rt d fr=>∀ v H',Same H₀ H' → RD K H' O₀ d v → (fr = true → NewR K H₀ H' O₀ d v) → D'.rt v H'
noncomputable def tS (T:Tab) (cf:Nat → List D → Res D) (K:PySem.W.Frag) (H₀:Hp) (O₀:Addr → Prop) (x:S):TS:=fun D' σ H=>∃ ts e out,Ft K H₀ O₀ ts e σ H ∧ exS T cf x e = .ok out ∧ Ends.to K H₀ O₀ ts D' out
noncomputable def SS (T:Tab) (cf:Nat → List D → Res D) (X:Cx) (x:S) (p:Stmt):Prop:=∀ H₀ O₀,PS X p (tS T cf X.K H₀ O₀ x)
noncomputable def SB (T:Tab) (cf:Nat → List D → Res D) (X:Cx) (x:S) (p:List Stmt):Prop:=∀ H₀ O₀,PSs X p (tS T cf X.K H₀ O₀ x)
theorem PS.imp {st:Stmt} {t t':TS} (h:∀ D' σ H,t' D' σ H → t D' σ H) (hp:PS X st t):PS X st t':=fun pins s σ H D' I q=>hp pins s σ H D' I (h D' σ H q)
theorem PSs.imp {st:List Stmt} {t t':TS} (h:∀ D' σ H,t' D' σ H → t D' σ H) (hp:PSs X st t):PSs X st t':=fun pins s σ H D' I q=>hp pins s σ H D' I (h D' σ H q)
variable {a b c:S} {st:Stmt} {sts:List Stmt}
theorem sb_nil:SB T cf X .nil []:=fun H₀ O₀=>PSs.imp (fun D' σ H ⟨ts,e,out,F,ev,k⟩=>by
  (first | rw [xS_nil] at ev | rw [xS_cons] at ev | rw [xS_pass] at ev | rw [xS_ret] at ev | rw [xS_retO] at ev | rw [xS_retN] at ev | rw [xS_asg] at ev | rw [xS_asgO] at ev | rw [xS_sealed] at ev | rw [xS_ite] at ev | rw [xS_forS] at ev | rw [xS_whl] at ev | rw [xS_app] at ev | rw [xS_rev] at ev | rw [xS_dput] at ev | rw [xS_dputT] at ev | rw [xS_ext] at ev | rw [xS_never] at ev | rw [xS_asgP] at ev | rw [xS_appP] at ev | rw [xS_aug] at ev | rw [xS_lput] at ev | rw [xS_exp] at ev | rw [xS_ins] at ev | rw [xS_rais] at ev | rw [xS_asgT] at ev | rw [xS_appT] at ev | rw [xS_retT] at ev | rw [xS_brk] at ev | rw [xS_cnt] at ev);cases ev
  exact k σ H F) pss_nil
theorem sb_cons (h1:SS T cf X a st) (h2:SB T cf X b sts):SB T cf X (.cons a b) (st :: sts):=fun H₀ O₀=>by
  refine PSs.imp (fun D' σ H hq=>?_) (pss_cons (h1 H₀ O₀) (h2 H₀ O₀))
  obtain ⟨ts,e,out,F,ev,k⟩:=hq
  (first | rw [xS_nil] at ev | rw [xS_cons] at ev | rw [xS_pass] at ev | rw [xS_ret] at ev | rw [xS_retO] at ev | rw [xS_retN] at ev | rw [xS_asg] at ev | rw [xS_asgO] at ev | rw [xS_sealed] at ev | rw [xS_ite] at ev | rw [xS_forS] at ev | rw [xS_whl] at ev | rw [xS_app] at ev | rw [xS_rev] at ev | rw [xS_dput] at ev | rw [xS_dputT] at ev | rw [xS_ext] at ev | rw [xS_never] at ev | rw [xS_asgP] at ev | rw [xS_appP] at ev | rw [xS_aug] at ev | rw [xS_lput] at ev | rw [xS_exp] at ev | rw [xS_ins] at ev | rw [xS_rais] at ev | rw [xS_asgT] at ev | rw [xS_appT] at ev | rw [xS_retT] at ev | rw [xS_brk] at ev | rw [xS_cnt] at ev)
  obtain ⟨o1,e1,ev⟩:=Res.bind_ok ev
  refine ⟨ts,e,o1,F,e1,?_⟩
  cases o1 with
  | nx e'=>exact fun σ' H' F'=>⟨ts,e',out,F',ev,k⟩
  | rt d fr=>cases ev;exact k
  | bk e'=>cases ev;exact k
  | ct e'=>cases ev;exact k
theorem sb_seal {i:Nat} (h2:SB T cf X b sts):SB T cf X (.cons (.sealed i) b) sts:=fun H₀ O₀=>by
  refine PSs.imp (fun D' σ H hq=>?_) (h2 H₀ O₀)
  obtain ⟨ts,e,out,⟨O,own,F,tt⟩,ev,k⟩:=hq
  (first | rw [xS_nil] at ev | rw [xS_cons] at ev | rw [xS_pass] at ev | rw [xS_ret] at ev | rw [xS_retO] at ev | rw [xS_retN] at ev | rw [xS_asg] at ev | rw [xS_asgO] at ev | rw [xS_sealed] at ev | rw [xS_ite] at ev | rw [xS_forS] at ev | rw [xS_whl] at ev | rw [xS_app] at ev | rw [xS_rev] at ev | rw [xS_dput] at ev | rw [xS_dputT] at ev | rw [xS_ext] at ev | rw [xS_never] at ev | rw [xS_asgP] at ev | rw [xS_appP] at ev | rw [xS_aug] at ev | rw [xS_lput] at ev | rw [xS_exp] at ev | rw [xS_ins] at ev | rw [xS_rais] at ev | rw [xS_asgT] at ev | rw [xS_appT] at ev | rw [xS_retT] at ev | rw [xS_brk] at ev | rw [xS_cnt] at ev)
  obtain ⟨o1,e1,ev⟩:=Res.bind_ok ev
  (first | rw [xS_nil] at e1 | rw [xS_cons] at e1 | rw [xS_pass] at e1 | rw [xS_ret] at e1 | rw [xS_retO] at e1 | rw [xS_retN] at e1 | rw [xS_asg] at e1 | rw [xS_asgO] at e1 | rw [xS_sealed] at e1 | rw [xS_ite] at e1 | rw [xS_forS] at e1 | rw [xS_whl] at e1 | rw [xS_app] at e1 | rw [xS_rev] at e1 | rw [xS_dput] at e1 | rw [xS_dputT] at e1 | rw [xS_ext] at e1 | rw [xS_never] at e1 | rw [xS_asgP] at e1 | rw [xS_appP] at e1 | rw [xS_aug] at e1 | rw [xS_lput] at e1 | rw [xS_exp] at e1 | rw [xS_ins] at e1 | rw [xS_rais] at e1 | rw [xS_asgT] at e1 | rw [xS_appT] at e1 | rw [xS_retT] at e1 | rw [xS_brk] at e1 | rw [xS_cnt] at e1)
  obtain ⟨l,e2,e1⟩:=Res.bind_ok e1
  cases e1
  obtain ⟨O',own',F',sub⟩:=F.seal i (Sl.ownA_ok e2)
  exact ⟨ts,_,out,⟨O',own',F',fun t ht=>(tt t ht).weak sub⟩,ev,k⟩
theorem ss_ret (h:SE T cf X x p):SS T cf X (.ret x) (.Return (some p) pos):=fun H₀ O₀=>by
  refine PS.imp (fun D' σ H hq=>?_) (ps_ret (h H₀ O₀))
  obtain ⟨ts,e,out,⟨O,own,F,tt⟩,ev,k⟩:=hq
  (first | rw [xS_nil] at ev | rw [xS_cons] at ev | rw [xS_pass] at ev | rw [xS_ret] at ev | rw [xS_retO] at ev | rw [xS_retN] at ev | rw [xS_asg] at ev | rw [xS_asgO] at ev | rw [xS_sealed] at ev | rw [xS_ite] at ev | rw [xS_forS] at ev | rw [xS_whl] at ev | rw [xS_app] at ev | rw [xS_rev] at ev | rw [xS_dput] at ev | rw [xS_dputT] at ev | rw [xS_ext] at ev | rw [xS_never] at ev | rw [xS_asgP] at ev | rw [xS_appP] at ev | rw [xS_aug] at ev | rw [xS_lput] at ev | rw [xS_exp] at ev | rw [xS_ins] at ev | rw [xS_rais] at ev | rw [xS_asgT] at ev | rw [xS_appT] at ev | rw [xS_retT] at ev | rw [xS_brk] at ev | rw [xS_cnt] at ev)
  obtain ⟨d,e1,ev⟩:=Res.bind_ok ev
  cases ev
  refine ⟨O,own,e,d,F,e1,fun v H' s' r n=>k v H' (F.same.trans s') (r.weak F.sub) fun fr=>?_⟩
  rw [Bool.and_eq_true,Bool.not_eq_true'] at fr
  exact NewR.of (((n fr.1).back F.same).weak F.sub) fr.2
theorem ss_retO {i:Nat} {n:Str} (hN:X.N[i]? = some n) (hv:Vis X.env.scope n) (hd:(n == ("__debug__" : Str)) = false) (hc:(n == ("__classdict__" : Str)) = false):SS T cf X (.retO i) (.Return (some (.Name n pos')) pos):=fun H₀ O₀=>by
  refine PS.imp (fun D' σ H hq=>?_) (ps_ret (pe_var hN hv hd hc))
  obtain ⟨ts,e,out,⟨O,own,F,tt⟩,ev,k⟩:=hq
  (first | rw [xS_nil] at ev | rw [xS_cons] at ev | rw [xS_pass] at ev | rw [xS_ret] at ev | rw [xS_retO] at ev | rw [xS_retN] at ev | rw [xS_asg] at ev | rw [xS_asgO] at ev | rw [xS_sealed] at ev | rw [xS_ite] at ev | rw [xS_forS] at ev | rw [xS_whl] at ev | rw [xS_app] at ev | rw [xS_rev] at ev | rw [xS_dput] at ev | rw [xS_dputT] at ev | rw [xS_ext] at ev | rw [xS_never] at ev | rw [xS_asgP] at ev | rw [xS_appP] at ev | rw [xS_aug] at ev | rw [xS_lput] at ev | rw [xS_exp] at ev | rw [xS_ins] at ev | rw [xS_rais] at ev | rw [xS_asgT] at ev | rw [xS_appT] at ev | rw [xS_retT] at ev | rw [xS_brk] at ev | rw [xS_cnt] at ev)
  obtain ⟨l,e1,ev⟩:=Res.bind_ok ev
  cases ev
  have q:=F.sl i
  rw [Sl.ownA_ok e1] at q
  obtain ⟨p,e2,e3,h1⟩:=q
  have hn:=F.new i p e2
  have nO:¬ O₀ p:=fun z=>by
    obtain ⟨o,w⟩:=F.trk0 p z
    rw [hn.2] at w;cases w
  exact ⟨.ref p,st_get e3,k _ H F.same (OwnAt.rd nO (h1.weak F.sub)) fun _=>⟨fun _=>⟨p,rfl,hn.2,h1.weak fun b hb=>hb.elim (F.sub b) fun z=>z ▸ hn.1⟩,fun a r z=>by subst z;exact h1.elim⟩⟩
noncomputable def notComp:Expr → Bool
  | .ListComp _ _ _ _=>false
  | .SetComp _ _ _ _=>false
  | .DictComp _ _ _ _ _=>false
  | _=>true
noncomputable def notTup:Expr → Bool
  | .Tuple _ _ _=>false
  | _=>true
theorem swaps_no {e:Expr} {t:Option Expr} {l:Nat} {env:Env} (h:notComp e = true):swapsWith e t l env = pure false:=by
  cases e <;> first | rfl | (cases h)
theorem stores_no {e tg:Expr} {env:Env} (h:notTup e = true):swappedStores [tg] e env = pure none:=by
  cases e <;> first | (cases h;done) | (cases tg <;> rfl)
theorem each_one {tg:Expr} {env:Env} (h:plainX tg = true):(assignEach [tg] env).map (·.2) = [assign tg env]:=by
  cases tg <;> first | rfl | (cases h)
theorem ss_asg {g:G} (hx:notComp p = true) (ht:notTup p = true) (hq:plainX tg = true) (h:SE T cf X x p) (hg:SG X g tg):SS T cf X (.asg g x) (.Assign [tg] p pos):=fun H₀ O₀=>by
  refine PS.imp (fun D' σ H hq=>?_) (ps_asg (h H₀ O₀) (hg H₀ O₀) (swaps_no hx) (stores_no ht) (each_one hq))
  obtain ⟨ts,e,out,⟨O,own,F,tt⟩,ev,k⟩:=hq
  (first | rw [xS_nil] at ev | rw [xS_cons] at ev | rw [xS_pass] at ev | rw [xS_ret] at ev | rw [xS_retO] at ev | rw [xS_retN] at ev | rw [xS_asg] at ev | rw [xS_asgO] at ev | rw [xS_sealed] at ev | rw [xS_ite] at ev | rw [xS_forS] at ev | rw [xS_whl] at ev | rw [xS_app] at ev | rw [xS_rev] at ev | rw [xS_dput] at ev | rw [xS_dputT] at ev | rw [xS_ext] at ev | rw [xS_never] at ev | rw [xS_asgP] at ev | rw [xS_appP] at ev | rw [xS_aug] at ev | rw [xS_lput] at ev | rw [xS_exp] at ev | rw [xS_ins] at ev | rw [xS_rais] at ev | rw [xS_asgT] at ev | rw [xS_appT] at ev | rw [xS_retT] at ev | rw [xS_brk] at ev | rw [xS_cnt] at ev)
  obtain ⟨d,e1,ev⟩:=Res.bind_ok ev
  obtain ⟨e2,e3,ev⟩:=Res.bind_ok ev
  cases ev
  refine ⟨O,own,e,d,F,e1,fun v H' s' r n=>⟨O,own,e,d,e2,F.grow s',r,e3,fun σ' own' _ F'=>?_⟩⟩
  exact k σ' H' ⟨O,own',F',fun t ht=>(tt t ht).same s'⟩
theorem ss_asgO {i:Nat} {n:Str} (hx:notComp p = true) (hN:X.N.Nodup) (hi:X.N[i]? = some n) (hl:Loc X.env.scope n) (hf:X.fn n = true ∨ X.env.scope.names.lookup n = some .local) (h:SE T cf X x p):SS T cf X (.asgO i x) (.Assign [.Name n pos'] p pos):=fun H₀ O₀=>by
  refine PS.imp (fun D' σ H hq=>?_) (ps_set hN hi hl (h H₀ O₀) (swaps_no hx) hf)
  obtain ⟨ts,e,out,⟨O,own,F,tt⟩,ev,k⟩:=hq
  (first | rw [xS_nil] at ev | rw [xS_cons] at ev | rw [xS_pass] at ev | rw [xS_ret] at ev | rw [xS_retO] at ev | rw [xS_retN] at ev | rw [xS_asg] at ev | rw [xS_asgO] at ev | rw [xS_sealed] at ev | rw [xS_ite] at ev | rw [xS_forS] at ev | rw [xS_whl] at ev | rw [xS_app] at ev | rw [xS_rev] at ev | rw [xS_dput] at ev | rw [xS_dputT] at ev | rw [xS_ext] at ev | rw [xS_never] at ev | rw [xS_asgP] at ev | rw [xS_appP] at ev | rw [xS_aug] at ev | rw [xS_lput] at ev | rw [xS_exp] at ev | rw [xS_ins] at ev | rw [xS_rais] at ev | rw [xS_asgT] at ev | rw [xS_appT] at ev | rw [xS_retT] at ev | rw [xS_brk] at ev | rw [xS_cnt] at ev)
  obtain ⟨d,e1,ev⟩:=Res.bind_ok ev
  split at ev
  · obtain ⟨c,ev⟩:=when_ok ev
    cases ev
    refine ⟨O,own,e,_,F,e1,fun v H' s' r n=>?_⟩
    obtain ⟨p,rfl,h2,h3⟩:=n c rfl
    exact k _ H' ⟨_,_,F.setO s' i h2 h3,fun t ht=>((tt t ht).new h2).same s'⟩
  · obtain ⟨c,ev⟩:=when_ok ev
    cases ev
    refine ⟨O,own,e,_,F,e1,fun v H' s' r n=>?_⟩
    obtain ⟨p,rfl,h2,h3⟩:=n c rfl
    exact k _ H' ⟨_,_,F.setO s' i h2 h3,fun t ht=>((tt t ht).new h2).same s'⟩
  · obtain ⟨c,ev⟩:=when_ok ev
    cases ev
    refine ⟨O,own,e,_,F,e1,fun v H' s' r n=>?_⟩
    obtain ⟨p,rfl,h2,h3⟩:=n c rfl
    exact k _ H' ⟨_,_,F.setO s' i h2 h3,fun t ht=>((tt t ht).new h2).same s'⟩
  · cases ev
theorem ss_ite {ps qs:List Stmt} (hc:ST T cf X x p) (ha:SB T cf X a ps) (hb:SB T cf X b qs):SS T cf X (.ite x a b) (.If p ps qs pos):=fun H₀ O₀=>by
  refine PS.imp (fun D' σ H hq=>?_) (ps_if (hc H₀ O₀) (ha H₀ O₀) (hb H₀ O₀))
  obtain ⟨ts,e,out,⟨O,own,F,tt⟩,ev,k⟩:=hq
  (first | rw [xS_nil] at ev | rw [xS_cons] at ev | rw [xS_pass] at ev | rw [xS_ret] at ev | rw [xS_retO] at ev | rw [xS_retN] at ev | rw [xS_asg] at ev | rw [xS_asgO] at ev | rw [xS_sealed] at ev | rw [xS_ite] at ev | rw [xS_forS] at ev | rw [xS_whl] at ev | rw [xS_app] at ev | rw [xS_rev] at ev | rw [xS_dput] at ev | rw [xS_dputT] at ev | rw [xS_ext] at ev | rw [xS_never] at ev | rw [xS_asgP] at ev | rw [xS_appP] at ev | rw [xS_aug] at ev | rw [xS_lput] at ev | rw [xS_exp] at ev | rw [xS_ins] at ev | rw [xS_rais] at ev | rw [xS_asgT] at ev | rw [xS_appT] at ev | rw [xS_retT] at ev | rw [xS_brk] at ev | rw [xS_cnt] at ev)
  obtain ⟨d,e1,ev⟩:=Res.bind_ok ev
  obtain ⟨c,e2,ev⟩:=Res.bind_ok ev
  refine ⟨O,own,e,d,c,F,e1,e2,fun H1 s1=>?_⟩
  cases c with
  | true=>rw [if_pos rfl] at ev ⊢;exact ⟨ts,e,out,⟨O,own,F.grow s1,fun t ht=>(tt t ht).same s1⟩,ev,k⟩
  | false=>rw [if_neg Bool.false_ne_true] at ev ⊢;exact ⟨ts,e,out,⟨O,own,F.grow s1,fun t ht=>(tt t ht).same s1⟩,ev,k⟩
theorem ss_for {g:G} {ps:List Stmt} (hp:PassesOwn (model X.prog X.w) X.A X.env X.xe) (hc:X.calm = true) (hq:plainX p = true) (hi:SI T cf X tg x false p) (hg:SG X g tg) (hb:SB T cf X b ps):SS T cf X (.forS g x b) (.For tg p ps [] pos):=fun H₀ O₀=>by
  refine PS.imp (fun D' σ H hq=>?_) (ps_for hp hc (hi H₀ O₀) (hg H₀ O₀) (hb H₀ O₀) (plain_fold hq))
  obtain ⟨ts,e,out,⟨O,own,F,tt⟩,ev,k⟩:=hq
  (first | rw [xS_nil] at ev | rw [xS_cons] at ev | rw [xS_pass] at ev | rw [xS_ret] at ev | rw [xS_retO] at ev | rw [xS_retN] at ev | rw [xS_asg] at ev | rw [xS_asgO] at ev | rw [xS_sealed] at ev | rw [xS_ite] at ev | rw [xS_forS] at ev | rw [xS_whl] at ev | rw [xS_app] at ev | rw [xS_rev] at ev | rw [xS_dput] at ev | rw [xS_dputT] at ev | rw [xS_ext] at ev | rw [xS_never] at ev | rw [xS_asgP] at ev | rw [xS_appP] at ev | rw [xS_aug] at ev | rw [xS_lput] at ev | rw [xS_exp] at ev | rw [xS_ins] at ev | rw [xS_rais] at ev | rw [xS_asgT] at ev | rw [xS_appT] at ev | rw [xS_retT] at ev | rw [xS_brk] at ev | rw [xS_cnt] at ev)
  obtain ⟨ds,e1,ev⟩:=Res.bind_ok ev
  refine ⟨O,own,e,ds,F,e1,fun J H1 srs s1 rr rv wk=>?_⟩
  refine ⟨fun i m σ H=>m = ds.length - i ∧ i ≤ ds.length ∧ ∃ e',Ft X.K H₀ O₀ (srs ++ ts) e' σ H ∧ forL (fun d e0=>do let e1 ← g.put d e0;exS T cf b e1) (ds.drop i) e' = .ok out,⟨ds.length,by simp,Nat.zero_le _,e,⟨O,own,F.grow s1,fun t ht=>?_⟩,by simpa using ev⟩,?_⟩
  · rcases List.mem_append.mp ht with ht | ht
    · exact rv rfl t ht
    · exact (tt t ht).same s1
  rintro i m σ2 H2 ⟨rfl,hi',e',⟨O2,own2,F2,t2⟩,ev2⟩
  obtain ⟨w1,w2,w3⟩:=wk i H2 O2 fun t ht=>(t2 t (List.mem_append_left _ ht)).rr
  by_cases hlt:i < ds.length
  · refine .inr ⟨w1 hlt,fun σ' H'=>∃ e',Ft X.K H₀ O₀ (srs ++ ts) e' σ' H' ∧ forL (fun d e0=>do let e1 ← g.put d e0;exS T cf b e1) (ds.drop (i + 1)) e' = .ok out,fun σ' H' n=>⟨ds.length - (i + 1),by (first | lia | omega),rfl,hlt,n⟩,fun v H' y=>?_⟩
    obtain ⟨s3,r3⟩:=w3 v H' _ (List.getElem?_eq_getElem hlt) y
    rw [List.drop_eq_getElem_cons hlt,forL] at ev2
    obtain ⟨o1,ev3,ev4⟩:=Res.bind_ok ev2
    obtain ⟨e3,ev5,ev6⟩:=Res.bind_ok ev3
    refine ⟨O2,own2,e',_,e3,F2.grow s3,r3,ev5,fun σ' own' _ F'=>?_⟩
    refine ⟨srs ++ ts,e3,o1,⟨O2,own',F',fun t ht=>(t2 t ht).same s3⟩,ev6,?_⟩
    have down:∀ {e'':Nv} {σ'':L2.St} {H'':Hp},Ft X.K H₀ O₀ (srs ++ ts) e'' σ'' H'' → Ft X.K H₀ O₀ ts e'' σ'' H'':=fun ⟨O',own',F',t'⟩=>⟨O',own',F',fun t ht=>t' t (List.mem_append_right _ ht)⟩
    cases o1 with
    | nx e4=>exact fun σ'' H'' F''=>⟨e4,F'',ev4⟩
    | ct e4=>exact fun σ'' H'' F''=>⟨e4,F'',ev4⟩
    | bk e4=>cases ev4;exact fun σ'' H'' F''=>k σ'' H'' (down F'')
    | rt d fr=>cases ev4;exact k
  · have e4:i = ds.length:=by (first | lia | omega)
    subst e4
    refine .inl ⟨w2 (Nat.le_refl _),?_⟩
    rw [List.drop_length,forL] at ev2
    cases ev2
    exact k σ2 H2 ⟨O2,own2,F2,fun t ht=>t2 t (List.mem_append_right _ ht)⟩
theorem ss_app {i:Nat} {n nm:Str} {px apos cpos:Pos} (hN:X.N[i]? = some n) (hv:Vis X.env.scope n) (hd:(n == ("__debug__" : Str)) = false) (hc:(n == ("__classdict__" : Str)) = false) (hnm:nm = "append") (hline:(apos.endLine == cpos.line) = true) (hp:plainX p = true) (h:SE T cf X x p) :
    SS T cf X (.app i x) (.Expr (.Call (.Attribute (.Name n px) nm apos) [p] [] cpos) pos):=fun H₀ O₀=>by
  subst hnm
  refine PS.imp (fun D' σ H hq=>?_) (ps_expr (pe_bm PySem.F.plainAttrs_list PySem.F.slot_list_append PySem.F.type_list_append mt_append (pe_var hN hv hd hc) (pa_cons (h H₀ O₀) pa_nil (plain_star hp)) rfl (by rw [plain_star hp];rfl) hline (plain_star hp) rfl) rfl)
  obtain ⟨ts,e,out,⟨O,own,F,tt⟩,ev,k⟩:=hq
  (first | rw [xS_nil] at ev | rw [xS_cons] at ev | rw [xS_pass] at ev | rw [xS_ret] at ev | rw [xS_retO] at ev | rw [xS_retN] at ev | rw [xS_asg] at ev | rw [xS_asgO] at ev | rw [xS_sealed] at ev | rw [xS_ite] at ev | rw [xS_forS] at ev | rw [xS_whl] at ev | rw [xS_app] at ev | rw [xS_rev] at ev | rw [xS_dput] at ev | rw [xS_dputT] at ev | rw [xS_ext] at ev | rw [xS_never] at ev | rw [xS_asgP] at ev | rw [xS_appP] at ev | rw [xS_aug] at ev | rw [xS_lput] at ev | rw [xS_exp] at ev | rw [xS_ins] at ev | rw [xS_rais] at ev | rw [xS_asgT] at ev | rw [xS_appT] at ev | rw [xS_retT] at ev | rw [xS_brk] at ev | rw [xS_cnt] at ev)
  obtain ⟨d,e1,ev⟩:=Res.bind_ok ev
  obtain ⟨l,e2,ev⟩:=Res.bind_ok ev
  obtain ⟨c,ev⟩:=when_ok ev
  cases ev
  obtain ⟨q0,xs0,f1,f2,f3,f4,f5⟩:=F.mut i (Sl.own_ok e2)
  refine ⟨.ref q0,st_get f1,.inl ⟨rfl,xs0,.of f2⟩,O,own,e,d,F,e1,fun v H' s' r _=>?_⟩
  obtain ⟨q1,xs1,g1,g2,g3,g4,g5⟩:=(F.grow s').mut i (Sl.own_ok e2)
  have eq:q1 = q0:=by rw [f1] at g1;cases g1;rfl
  subst eq
  refine ⟨q1,xs1,v,rfl,rfl,g2,by rw [g3.length,← big_line];exact of_decide_eq_true c,?_⟩
  exact k _ _ ⟨O,own,g5 _ _ (g3.append ⟨v,[],rfl,r,rfl⟩),fun t ht=>((tt t ht).same s').upd g4 g2⟩
theorem ss_ext {i:Nat} {n nm:Str} {px apos cpos:Pos} (hN:X.N[i]? = some n) (hv:Vis X.env.scope n) (hd:(n == ("__debug__" : Str)) = false) (hc:(n == ("__classdict__" : Str)) = false) (hnm:nm = "extend") (hline:(apos.endLine == cpos.line) = true) (hp:plainX p = true) (h:SE T cf X x p) :
    SS T cf X (.ext i x) (.Expr (.Call (.Attribute (.Name n px) nm apos) [p] [] cpos) pos):=fun H₀ O₀=>by
  subst hnm
  refine PS.imp (fun D' σ H hq=>?_) (ps_expr (pe_bm PySem.F.plainAttrs_list PySem.F.slot_list_extend PySem.F.type_list_extend mt_extend (pe_var hN hv hd hc) (pa_cons (h H₀ O₀) pa_nil (plain_star hp)) rfl (by rw [plain_star hp];rfl) hline (plain_star hp) rfl) rfl)
  obtain ⟨ts,e,out,⟨O,own,F,tt⟩,ev,k⟩:=hq
  (first | rw [xS_nil] at ev | rw [xS_cons] at ev | rw [xS_pass] at ev | rw [xS_ret] at ev | rw [xS_retO] at ev | rw [xS_retN] at ev | rw [xS_asg] at ev | rw [xS_asgO] at ev | rw [xS_sealed] at ev | rw [xS_ite] at ev | rw [xS_forS] at ev | rw [xS_whl] at ev | rw [xS_app] at ev | rw [xS_rev] at ev | rw [xS_dput] at ev | rw [xS_dputT] at ev | rw [xS_ext] at ev | rw [xS_never] at ev | rw [xS_asgP] at ev | rw [xS_appP] at ev | rw [xS_aug] at ev | rw [xS_lput] at ev | rw [xS_exp] at ev | rw [xS_ins] at ev | rw [xS_rais] at ev | rw [xS_asgT] at ev | rw [xS_appT] at ev | rw [xS_retT] at ev | rw [xS_brk] at ev | rw [xS_cnt] at ev)
  obtain ⟨d,e1,ev⟩:=Res.bind_ok ev
  split at ev
  · obtain ⟨l,e2,ev⟩:=Res.bind_ok ev
    obtain ⟨c,ev⟩:=when_ok ev
    rw [Bool.and_eq_true] at c
    cases ev
    obtain ⟨q0,xs0,f1,f2,f3,f4,f5⟩:=F.mut i (Sl.own_ok e2)
    refine ⟨.ref q0,st_get f1,.inl ⟨rfl,xs0,.of f2⟩,O,own,e,_,F,e1,fun v H' s' r nl=>?_⟩
    obtain ⟨b,rfl,hb0,zs,hb1,hb2⟩:=nl c.1 rfl
    obtain ⟨q1,xs1,g1,g2,g3,g4,g5⟩:=(F.grow s').mut i (Sl.own_ok e2)
    have eq:q1 = q0:=by rw [f1] at g1;cases g1;rfl
    subst eq
    refine ⟨q1,b,xs1,zs,rfl,rfl,g2,hb1,by rw [g3.length,hb2.length,← big_line];exact of_decide_eq_true c.2,?_⟩
    exact k _ _ ⟨O,own,g5 _ _ (g3.append (hb2.weak fun _ z=>.inl z)),fun t ht=>((tt t ht).same s').upd g4 g2⟩
  · cases ev
theorem ss_never:SS T cf X .never st:=fun H₀ O₀=>PS.imp (fun D' σ H ⟨ts,e,out,F,ev,k⟩=>by
  (first | rw [xS_nil] at ev | rw [xS_cons] at ev | rw [xS_pass] at ev | rw [xS_ret] at ev | rw [xS_retO] at ev | rw [xS_retN] at ev | rw [xS_asg] at ev | rw [xS_asgO] at ev | rw [xS_sealed] at ev | rw [xS_ite] at ev | rw [xS_forS] at ev | rw [xS_whl] at ev | rw [xS_app] at ev | rw [xS_rev] at ev | rw [xS_dput] at ev | rw [xS_dputT] at ev | rw [xS_ext] at ev | rw [xS_never] at ev | rw [xS_asgP] at ev | rw [xS_appP] at ev | rw [xS_aug] at ev | rw [xS_lput] at ev | rw [xS_exp] at ev | rw [xS_ins] at ev | rw [xS_rais] at ev | rw [xS_asgT] at ev | rw [xS_appT] at ev | rw [xS_retT] at ev | rw [xS_brk] at ev | rw [xS_cnt] at ev);cases ev) ps_never
theorem ss_exp (hs:swapsWith p none pos.line X.env = pure false) (h:SE T cf X x p):SS T cf X (.exp x) (.Expr p pos):=fun H₀ O₀=>by
  refine PS.imp (fun D' σ H hq=>?_) (ps_expr (h H₀ O₀) hs)
  obtain ⟨ts,e,out,⟨O,own,F,tt⟩,ev,k⟩:=hq
  (first | rw [xS_nil] at ev | rw [xS_cons] at ev | rw [xS_pass] at ev | rw [xS_ret] at ev | rw [xS_retO] at ev | rw [xS_retN] at ev | rw [xS_asg] at ev | rw [xS_asgO] at ev | rw [xS_sealed] at ev | rw [xS_ite] at ev | rw [xS_forS] at ev | rw [xS_whl] at ev | rw [xS_app] at ev | rw [xS_rev] at ev | rw [xS_dput] at ev | rw [xS_dputT] at ev | rw [xS_ext] at ev | rw [xS_never] at ev | rw [xS_asgP] at ev | rw [xS_appP] at ev | rw [xS_aug] at ev | rw [xS_lput] at ev | rw [xS_exp] at ev | rw [xS_ins] at ev | rw [xS_rais] at ev | rw [xS_asgT] at ev | rw [xS_appT] at ev | rw [xS_retT] at ev | rw [xS_brk] at ev | rw [xS_cnt] at ev)
  obtain ⟨d,e1,ev⟩:=Res.bind_ok ev
  cases ev
  exact ⟨O,own,e,d,F,e1,fun v H' s' r _=>k _ _ ⟨O,own,F.grow s',fun t ht=>(tt t ht).same s'⟩⟩
end
end Tr
namespace Tr
open PySem PySem.Spec PyProof.Rows L2
section
variable {T:Tab} {cf:Nat → List D → Res D} {X:Cx} {x y z:E} {p q r tg:Expr} {pos pos':Pos} {es:List Expr} {a b c:S} {st:Stmt} {sts:List Stmt}
end
end Tr
namespace Tr
open PySem PySem.Spec PyProof.Rows L2
noncomputable def freeCells (cells:List (Str × Addr)):List (Str × NameKind) → List (Str × Addr) → List (Str × Addr)
  | [],cs=>cs
  | (n,k) :: r,cs=>freeCells cells r (if (k == .free) = true then (match cells.lookup n with | some c=>(n,c) :: cs | none=>cs) else cs)
theorem closure_go {env:Env}:∀ (names:List (Str × NameKind)) (cs:List (Str × Addr)),(∀ x ∈ names,x.2 = .free → ∃ c,env.cells.lookup x.1 = some c) →
    (forIn names cs (fun (x:Str × NameKind) (r:List (Str × Addr))=>(if (x.2 == .free) = true then (do let c ← cellOf env x.1;pure (ForInStep.yield ((x.1,c) :: r))) else pure (ForInStep.yield r):Sem _))) = pure (freeCells env.cells names cs)
  | [],cs,_=>rfl
  | (n,k) :: r,cs,h=>by
    rw [List.forIn_cons]
    have ih:=closure_go (env:=env) r
    by_cases hk:(k == NameKind.free) = true
    · have hk':k = .free:=by simpa using hk
      obtain ⟨c,hc⟩:=h (n,k) (List.mem_cons_self ..) hk'
      simp only at hc
      simp only [hk,if_true]
      unfold cellOf
      rw [hc]
      show (do let r ← (pure (ForInStep.yield ((n,c) :: cs)):Sem _);_) = _
      rw [freeCells,if_pos hk,hc]
      exact ih _ fun x hx=>h x (List.mem_cons_of_mem _ hx)
    · simp only [hk,if_false,Bool.false_eq_true]
      rw [freeCells,if_neg hk]
      exact ih _ fun x hx=>h x (List.mem_cons_of_mem _ hx)
theorem closure_eq {scope:Scope} {env:Env} (h:∀ x ∈ scope.names,x.2 = .free → ∃ c,env.cells.lookup x.1 = some c):closureFor scope env = pure (freeCells env.cells scope.names []):=by
  have:=closure_go (env:=env) scope.names [] h
  unfold closureFor
  rw [← this]
  first | rfl | simp
theorem freeCells_mem {cells:List (Str × Addr)}:∀ {names:List (Str × NameKind)} {cs:List (Str × Addr)} {n:Str} {c:Addr},(n,c) ∈ freeCells cells names cs → (n,c) ∈ cs ∨ ((n,NameKind.free) ∈ names ∧ cells.lookup n = some c)
  | [],_,_,_,h=>.inl h
  | (m,k) :: r,cs,n,c,h=>by
    rw [freeCells] at h
    rcases freeCells_mem h with g | ⟨h1,h2⟩
    · clear h
      split at g
      · rename_i hk
        have hk':k = .free:=by simpa using hk
        subst hk'
        split at g
        · rename_i c' hc
          rcases List.mem_cons.mp g with e | g
          · cases e
            exact .inr ⟨List.mem_cons_self ..,hc⟩
          · exact .inl g
        · exact .inl g
      · exact .inl g
    · exact .inr ⟨List.mem_cons_of_mem _ h1,h2⟩
theorem freeCells_keep {cells:List (Str × Addr)}:∀ {names:List (Str × NameKind)} {cs:List (Str × Addr)} {x:Str × Addr},x ∈ cs → x ∈ freeCells cells names cs
  | [],_,_,h=>h
  | (m,k) :: r,cs,x,h=>by
    rw [freeCells]
    refine freeCells_keep ?_
    split
    · split
      · exact List.mem_cons_of_mem _ h
      · exact h
    · exact h
theorem freeCells_has {cells:List (Str × Addr)}:∀ {names:List (Str × NameKind)} {cs:List (Str × Addr)} {n:Str} {c:Addr},(n,NameKind.free) ∈ names → cells.lookup n = some c → (n,c) ∈ freeCells cells names cs
  | [],_,_,_,h,_=>by cases h
  | (m,k) :: r,cs,n,c,h,hc=>by
    rw [freeCells]
    rcases List.mem_cons.mp h with e | h
    · cases e
      refine freeCells_keep ?_
      rw [if_pos (by simp),hc]
      exact List.mem_cons_self ..
    · exact freeCells_has h hc
theorem lookup_of_mem {l:List (Str × Addr)} {n:Str} {c:Addr} (h:(n,c) ∈ l):∃ c',l.lookup n = some c':=by
  induction l with
  | nil=>cases h
  | cons x l ih =>
    obtain ⟨m,d⟩:=x
    rw [List.lookup_cons]
    by_cases e:(n == m) = true
    · rw [e];exact ⟨d,rfl⟩
    · have e':(n == m) = false:=by simpa using e
      rw [e']
      rcases List.mem_cons.mp h with z | z
      · cases z;simp at e
      · exact ih z
theorem relabel_free {env:Env}:∀ {names:List (Str × NameKind)} {x:Str},(∀ y ∈ names,y.2 ≠ .cell) →
    ((names.map fun (n,k)=>if (k == NameKind.free && env.scope.kind == .function && env.kindOf n == some .cell) then (n,NameKind.cell) else (n,k)).lookup x = some .cell ∨
     (names.map fun (n,k)=>if (k == NameKind.free && env.scope.kind == .function && env.kindOf n == some .cell) then (n,NameKind.cell) else (n,k)).lookup x = some .free) → (x,NameKind.free) ∈ names
  | [],_,_,h=>by rcases h with h | h <;> cases h
  | (n,k) :: r,x,hc,h=>by
    have hk:=hc (n,k) (List.mem_cons_self ..)
    have ih:=@relabel_free env r x fun y hy=>hc y (List.mem_cons_of_mem _ hy)
    rw [List.map_cons] at h
    dsimp only at h
    by_cases hx:(x == n) = true
    · have hx':x = n:=by simpa using hx
      subst hx'
      refine List.mem_cons.mpr (.inl ?_)
      by_cases z:(k == NameKind.free && env.scope.kind == .function && env.kindOf x == some .cell) = true
      · have:k = .free:=by
          cases k <;> first | rfl | (exact absurd z (by simp))
        rw [this]
      · rw [if_neg z] at h
        simp only [List.lookup_cons,beq_self_eq_true] at h
        rcases h with h | h
        · cases h;exact absurd rfl hk
        · cases h;rfl
    · have hx':(x == n) = false:=by simpa using hx
      refine List.mem_cons_of_mem _ (ih ?_)
      by_cases z:(k == NameKind.free && env.scope.kind == .function && env.kindOf n == some .cell) = true
      · rw [if_pos z] at h
        simpa only [List.lookup_cons,hx'] using h
      · rw [if_neg z] at h
        simpa only [List.lookup_cons,hx'] using h
end Tr
namespace Tr
open PySem PySem.Spec PyProof.Rows L2
theorem relabel_local {env:Env}:∀ {names:List (Str × NameKind)} {x:Str},
    (names.map fun (n,k)=>if (k == NameKind.free && env.scope.kind == .function && env.kindOf n == some .cell) then (n,NameKind.cell) else (n,k)).lookup x = some .local → names.lookup x = some .local
  | [],_,h=>by cases h
  | (n,k) :: r,x,h=>by
    have ih:=@relabel_local env r x
    rw [List.map_cons] at h
    dsimp only at h
    by_cases z:(k == NameKind.free && env.scope.kind == .function && env.kindOf n == some .cell) = true
    · rw [if_pos z] at h
      by_cases hx:(x == n) = true
      · simp only [List.lookup_cons,hx] at h;cases h
      · have hx':(x == n) = false:=by simpa using hx
        simp only [List.lookup_cons,hx'] at h ⊢
        exact ih h
    · rw [if_neg z] at h
      by_cases hx:(x == n) = true
      · simp only [List.lookup_cons,hx] at h ⊢;exact h
      · have hx':(x == n) = false:=by simpa using hx
        simp only [List.lookup_cons,hx'] at h ⊢
        exact ih h
noncomputable def cxC (X:Cx) (scope:Scope) (C:Addr) (Nc:List Str) (s2:Shared) (H2:Hp) (fp:List Addr):Cx where
  prog:=X.prog
  w:=X.w
  K:=X.K
  mg:=X.mg
  base:=X.base
  A:=X.A
  N:=Nc
  s₀:=s2
  H₀:=H2
  env:=compEnvC scope (freeCells X.env.cells scope.names []) C X.env
  outer:=X.stack
  stack:=X.stack
  ex:=fp
  fn:=fun n=>scope.names.lookup n == some .local
  calm:=X.calm
  pn:=[]
  xe:=fun _ _=>False
set_option genInjectivity false in
structure ScopeC (X:Cx) (scope:Scope):Prop where
  kind:scope.kind = .function
  cell:∀ y ∈ scope.names,y.2 ≠ .cell
  names:∀ x ∈ scope.names,x.2 = .local → scope.names.lookup x.1 = some .local
  nd:∀ x ∈ scope.names,x.2 = .free → scope.names.lookup x.1 ≠ some .local
  free:∀ x ∈ scope.names,x.2 = .free → X.env.kindOf x.1 = some .cell ∨ X.env.kindOf x.1 = some .free
section
variable {X:Cx} {scope:Scope} {C:Addr} {Nc:List Str} {s2:Shared} {H2:Hp} {fp:List Addr} {pins:List (Addr × Obj)} {σ:L2.St}
theorem cl_get {x:Str} {c:Addr} (h:(freeCells X.env.cells scope.names []).lookup x = some c):(x,NameKind.free) ∈ scope.names ∧ X.env.cells.lookup x = some c:=by
  rcases freeCells_mem (PySem.mem_of_lookup h) with z | z
  · cases z
  · exact z
theorem ScopeC.cells (S:ScopeC X scope) (ok:X.Ok):∀ x ∈ scope.names,x.2 = .free → ∃ c,X.env.cells.lookup x.1 = some c:=fun x hx hf=>ok.has x.1 (S.free x hx hf)
theorem cxC_ok (I:Inv X pins σ H2 s2) (S:ScopeC X scope) (hfp:∀ b ∈ fp,FpOk X pins H2 b) (hfo:∀ b ∈ fp,b < s2.heap.objs.size) (hC:s2.heap.objs.size ≤ C):(cxC X scope C Nc s2 H2 fp).Ok where
  mod:=I.ok.mod
  kind:=S.kind
  glob:=I.ok.glob
  blt:=I.ok.blt
  above:=hC
  inj:=fun x y c h1 h2=>I.ok.inj x y c (cl_get h1).2 (cl_get h2).2
  has:=fun x h=>by
    have hf:=relabel_free (env:=X.env) S.cell h
    obtain ⟨c,hc⟩:=S.cells I.ok (x,.free) hf rfl
    exact lookup_of_mem (freeCells_has hf hc)
  cab:=fun x c h1 h2=>by
    have h1':scope.names.lookup x = some .local:=by simpa [cxC] using h1
    exact absurd h1' (S.nd (x,.free) (cl_get h2).1 rfl)
  hd:=I.ok.hd
  frames:=I.ok.frames
  stk:=.inl rfl
  exf:=fun b hb=>⟨Nat.ne_of_lt (Nat.lt_of_lt_of_le (hfo b hb) hC),fun x c h=>(hfp b hb).2.2.2.2.1 x c (cl_get h).2⟩
  bs:=I.bs
  bsz:=Nat.le_trans I.ok.bsz I.sz
  noex:=fun b o e hb=>by
    rcases (hfp b hb).2.2.2.1 with z | z
    · exact I.ok.noex b o e z
    · exact absurd (Nat.lt_of_lt_of_le (Heap.lt_size e) (Nat.le_trans I.ok.bsz z)) (Nat.lt_irrefl _)
  exfs:=fun b hb z=>by
    rcases List.mem_cons.mp (I.stkSub b z) with z | z
    · exact (hfp b hb).2.1 z
    · exact (hfp b hb).2.2.1 z
  funs:=I.stack
  frf:=I.stkFree
noncomputable def stC (own:Nat) (caps:List Nat) (σ:L2.St):L2.St:=List.replicate own none ++ caps.map fun i=>stAt σ i
set_option genInjectivity false in
structure CapsOk (X:Cx) (scope:Scope) (own:Nat) (caps:List Nat) (Nc:List Str):Prop where
  len:Nc.length = own + caps.length
  nd:caps.Nodup
  cap:∀ j i,caps[j]? = some i → ∃ n,X.N[i]? = some n ∧ Nc[own + j]? = some n ∧ (n,NameKind.free) ∈ scope.names
theorem stC_get {own:Nat} {caps:List Nat} {j:Nat} {v:V} (h:(stC own caps σ)[j]? = some (some v)):∃ k i,j = own + k ∧ caps[k]? = some i ∧ stAt σ i = some v:=by
  unfold stC at h
  by_cases hj:j < own
  · rw [List.getElem?_append_left (by rw [List.length_replicate];exact hj),List.getElem?_replicate,if_pos hj] at h
    cases h
  · rw [List.getElem?_append_right (by rw [List.length_replicate];(first | lia | omega)),List.length_replicate,List.getElem?_map] at h
    cases e:caps[j - own]? with
    | none=>rw [e] at h;cases h
    | some i =>
      rw [e] at h
      exact ⟨j - own,i,by (first | lia | omega),e,Option.some.inj h⟩
theorem vis_of (I:Inv X pins σ H2 s2) (S:ScopeC X scope) {n:Str} (h:(n,NameKind.free) ∈ scope.names):Vis X.env.scope n:=by
  rcases S.free _ h rfl with z | z
  · exact .inr (.inl z)
  · exact .inr (.inr z)
theorem invC {own:Nat} {caps:List Nat} {h1:Heap} {t1:Nat} (I:Inv X pins σ H2 s2) (S:ScopeC X scope) (P:CapsOk X scope own caps Nc) (ok:(cxC X scope C Nc s2 H2 fp).Ok)
    (keep:∀ b o,s2.heap.get? b = some o → h1.get? b = some o) (hC:s2.heap.objs.size < C) (ns:h1.Ns C fun _=>none) (acc:h1.get? s2.heap.objs.size = some { cls:=.type "list", data:=.seq #[] }) :
    Inv (cxC X scope C Nc s2 H2 fp) [] (stC own caps σ) (upd H2 s2.heap.objs.size (.lst [])) { s2 with heap:=h1,toks:=t1 }:=by
  have fr:H2 s2.heap.objs.size = none:=I.hok.fresh (Nat.le_refl _)
  have cellK:∀ x c v,X.env.cells.lookup x = some c → s2.heap.IsCell c v → h1.IsCell c v:=fun x c v _ ⟨o,ho,hd⟩=>⟨o,keep c o ho,hd⟩
  refine ⟨ok,rfl,I.bare,Un.laid keep (Nat.le_refl _) fr,⟨_,ns,fun i x v e1 e2 e3=>?_⟩,fun x c h=>?_,?_,fun x c h=>?_,fun p hp=>absurd hp (by simp [cxC]),I.hok.laid keep (Nat.le_refl _) ?_,?_⟩
  · obtain ⟨k,i',rfl,hk,hv⟩:=stC_get e2
    obtain ⟨n,hn1,hn2,hn3⟩:=P.cap k i' hk
    have e1':Nc[own + k]? = some x:=e1
    rw [hn2] at e1';cases e1'
    obtain ⟨m,hm,hl⟩:=I.loc
    obtain ⟨u,ru,lk⟩:=hl i' _ v hn1 (st_get hv) (vis_of I S hn3)
    refine ⟨u,ru,?_⟩
    rcases lk with ⟨kl,_⟩ | ⟨_,c,hc,hcell⟩
    · rcases S.free _ hn3 rfl with z | z
      · rw [kl] at z;cases z
      · rw [kl] at z;cases z
    · refine .inr ⟨?_,?_⟩
      · rcases e3 with z | z
        · exact absurd (relabel_local (env:=X.env) z) (S.nd _ hn3 rfl)
        · exact z
      · obtain ⟨c',hc'⟩:=lookup_of_mem (freeCells_has (cs:=[]) hn3 hc)
        have:=(cl_get hc').2
        rw [hc] at this;cases this
        exact ⟨c,hc',cellK _ c _ hc hcell⟩
  · obtain ⟨v,z⟩:=I.cell x c (cl_get h).2
    exact ⟨v,cellK x c v (cl_get h).2 z⟩
  · show upd H2 s2.heap.objs.size (.lst []) C = none
    rw [upd_ne (Nat.ne_of_gt hC)]
    exact I.hok.fresh (Nat.le_of_lt hC)
  · obtain ⟨v,z⟩:=I.cell x c (cl_get h).2
    rw [upd_ne (Nat.ne_of_lt z.lt)]
    exact I.freeC x c (cl_get h).2
  · exact ⟨Nat.zero_le _,[],0,.nil,acc⟩
  · show (stC own caps σ).length = Nc.length
    unfold stC
    rw [List.length_append,List.length_replicate,List.length_map,P.len]
theorem Un.but {fs ex:List Addr} {H H':Hp} {h h1 h2:Heap} {C:Addr} (u:Un fs ex H H' h h1) (hC:h.objs.size ≤ C) (s:Heap.SameBut C h1 h2):Un fs ex H H' h h2 where
  keep:=fun b o e n hb hx=>(s.2 b (Nat.ne_of_lt (Nat.lt_of_lt_of_le (Heap.lt_size e) hC))).trans (u.keep b o e n hb hx)
  slot:=fun b o e n hb hx=>let ⟨sl,q⟩:=u.slot b o e n hb hx;⟨sl,(s.2 b (Nat.ne_of_lt (Nat.lt_of_lt_of_le (Heap.lt_size e) hC))).trans q⟩
  free:=u.free
  there:=fun b o e hx=>let ⟨o',q⟩:=u.there b o e hx;⟨o',(s.2 b (Nat.ne_of_lt (Nat.lt_of_lt_of_le (Heap.lt_size e) hC))).trans q⟩
  tups:=u.tups
  frzs:=u.frzs
  tbls:=u.tbls
theorem HOk.but {P:Program} {w:World} {H:Hp} {h1 h2:Heap} {C:Addr} (x:HOk P w H h1) (hC:H C = none) (s:Heap.SameBut C h1 h2):HOk P w H h2:=fun b ob e=>by
  refine (x b ob e).stay (fun c w' hc q=>(s.2 c ?_).trans q) (fun _ q=>q) fun _ _ q=>q
  rintro rfl
  rcases hc with rfl | hc
  · rw [hC] at e;cases e
  · rw [hC] at hc;cases hc
theorem outC {σi:L2.St} {Hi:Hp} {s':Shared} {h':Heap} (I:Inv X pins σ H2 s2) (Ic:Inv (cxC X scope C Nc s2 H2 fp) [] σi Hi s') (hfp:∀ b ∈ fp,FpOk X pins H2 b) (hC:s2.heap.objs.size ≤ C) (sb:Heap.SameBut C s'.heap h'):Inv X pins σ Hi { s' with heap:=h' }:=by
  refine I.call' (s':={ s' with heap:=h' }) (ch:=fp) Ic.os ?_ ?_ Ic.bare fun b hb=>?_
  · exact Un.but (show Un (frs X.stack) fp H2 Hi s2.heap s'.heap from Ic.base) hC sb
  · exact HOk.but (show HOk X.prog X.w Hi s'.heap from Ic.hok) (show Hi C = none from Ic.free) sb
  · obtain ⟨_,a1,_,a3,a4,a5⟩:=hfp b hb
    exact ⟨a3,a1,a4,a5⟩
end
end Tr
namespace Tr
open PySem PySem.Spec PyProof.Rows L2
section
variable {prog:Program} {w:World} {A:Around} {R:Result → Shared → Prop} {s:Shared}
theorem compLoop_gen {elt target iter:Expr} {ifs:List Expr} {scope:Scope} {pos:Pos} {it acc:Value} {env:Env} (I:Nat → Shared → Prop)
    (turn:∀ n s,I n s → wpAny (model prog w) A (pyNext it) (fun r s₁=>match r with
      | none=>R (.ok .next) s₁
      | some v=>wpAny (model prog w) A (letOwnedTupleGo target it v) (fun _ s₀=>wpAny (model prog w) A (assign target env v) (fun _ s₂ =>
          wpAny (model prog w) A (forIn ifs true fun c r=>if r = true then do let ok ← isTrue c env (eval c env);pure (ForInStep.yield ok) else pure (ForInStep.yield r)) (fun ok s₃ =>
            if ok = true then wpAny (model prog w) A (eval elt env) (fun x s₄ =>
              wpAny (model prog w) A (call (.builtin "list.append") [acc,x]) (fun _ s₅=>∃ m,m < n ∧ I m s₅) (fun _ _=>False) s₄) (fun _ _=>False) s₃
            else ∃ m,m < n ∧ I m s₃) (fun _ _=>False) s₂) (fun _ _=>False) s₀) (fun _ _=>False) s₁) (fun _ _=>False) s)
    (n:Nat) (h:I n s) :
    codeAny (model prog w) A (.compLoop (.ListComp elt [⟨target,iter,ifs,0⟩] scope pos) 0 it acc env) R s:=by
  refine codeAny_loop rfl I (fun n s hI=>?_) n h
  show wpAny _ A ((compTurn (.ListComp elt [⟨target,iter,ifs,0⟩] scope pos) 0 it acc env).onRaise (fun x=>do noteFrame x env;theTreesLotGoes x)) _ _ s
  refine wpAny_noted ?_
  rw [compTurn_list]
  refine wpAny_bind (wpAny_standAt (wpAny_bind (wpAny_mono (turn n s hI) (fun r s₁ h₁=>?_) fun _ _ h'=>h'.elim)))
  cases r with
  | none=>exact wpAny_pure h₁
  | some v =>
    refine wpAny_bind (wpAny_mono h₁ (fun _ s₀ h₀=>?_) fun _ _ h'=>h'.elim)
    refine wpAny_bind (wpAny_mono h₀ (fun _ s₂ h₂=>wpAny_bind (wpAny_mono h₂ (fun ok s₃ h₃=>?_) fun _ _ h'=>h'.elim)) fun _ _ h'=>h'.elim)
    cases ok with
    | false=>exact wpAny_pure ⟨rfl,h₃⟩
    | true =>
      exact wpAny_bind (wpAny_bind (wpAny_mono h₃ (fun x s₄ h₄=>wpAny_bind (wpAny_mono h₄ (fun _ s₅ h₅=>wpAny_pure (wpAny_pure ⟨rfl,h₅⟩)) fun _ _ h'=>h'.elim)) fun _ _ h'=>h'.elim))
end
section
variable {K:PySem.W.Frag} {H₀ H H':Hp} {O₀ O O':Addr → Prop} {own:Nat → Option Addr} {e e':Nv} {σ:L2.St}
theorem Fm.updO (F:Fm K H₀ O₀ H O own e σ) {p:Addr} {ys zs:List V} (hO:O p) (hp:H p = some (.lst ys)) (h0:H₀ p = none) (hn:∀ j,own j ≠ some p):Fm K H₀ O₀ (upd H p (.lst zs)) O own e σ where
  len:=F.len
  sl:=fun j=>RS.map (fun q=>q.upd hO hp) (fun q=>q.upd hO hp) (fun q=>q.updM hO hp trivial) (fun q=>q.updM hO hp trivial) (fun a ys ea _ q=>by
    have:a ≠ p:=fun z=>hn j (z ▸ ea)
    rw [upd_ne this];exact q) (F.sl j) (upd_map (K:=K) hO hp trivial).1
  inj:=F.inj
  same:=fun b o hb=>by rw [upd_ne (fun z=>by rw [z,h0] at hb;cases hb)];exact F.same b o hb
  sub:=F.sub
  trk0:=F.trk0
  trk:=fun a ha=>by
    by_cases h:a = p
    · subst h;exact ⟨_,upd_same⟩
    · obtain ⟨ys,q⟩:=F.trk a ha
      exact ⟨ys,by rw [upd_ne h];exact q⟩
  new:=F.new
theorem Fm.back (F:Fm K H₀ O₀ H O own e σ) (hl:e'.length = e.length) (h:∀ j,e'.at j = .no ∨ e'.at j = e.at j):Fm K H₀ O₀ H O own e' σ where
  len:=hl.trans F.len
  sl:=fun j=>by
    rcases h j with z | z
    · rw [z];trivial
    · rw [z];exact F.sl j
  inj:=F.inj
  same:=F.same
  sub:=F.sub
  trk0:=F.trk0
  trk:=F.trk
  new:=F.new
theorem compEnv_at {n:Nat} {caps:List Nat} {e:Nv} (j:Nat):(compEnv n caps e).at j = .no ∨ ∃ k i,j = n + k ∧ caps[k]? = some i ∧ (compEnv n caps e).at j = e.at i:=by
  unfold compEnv
  by_cases hj:j < n
  · left
    unfold Nv.at
    rw [List.getElem?_append_left (by rw [List.length_replicate];exact hj),List.getElem?_replicate,if_pos hj];rfl
  · cases q:caps[j - n]? with
    | none =>
      left
      unfold Nv.at
      rw [List.getElem?_append_right (by rw [List.length_replicate];(first | lia | omega)),List.length_replicate,List.getElem?_map,q];rfl
    | some i =>
      right
      refine ⟨j - n,i,by (first | lia | omega),q,?_⟩
      show (((List.replicate n Sl.no ++ caps.map fun i=>e.at i))[j]?).getD .no = _
      rw [List.getElem?_append_right (by rw [List.length_replicate];(first | lia | omega)),List.length_replicate,List.getElem?_map,q];rfl
theorem nodup_get {l:List Nat} (h:l.Nodup) {j k i:Nat} (h1:l[j]? = some i) (h2:l[k]? = some i):j = k:=by
  obtain ⟨a,e1⟩:=List.getElem?_eq_some_iff.mp h1
  obtain ⟨b,e2⟩:=List.getElem?_eq_some_iff.mp h2
  exact (List.getElem_inj h).mp (e1.trans e2.symm)
theorem Fm.comp (F:Fm K H₀ O₀ H O own e σ) (n:Nat) {caps:List Nat} (hc:caps.Nodup) {p:Addr} (hp:H p = none) {xs:List V} :
    ∃ own',Fm K H₀ O₀ (upd H p (.lst xs)) (plus O p) own' (compEnv n caps e) (stC n caps σ) ∧ ∀ j,own' j ≠ some p:=by
  have np:∀ j,own j ≠ some p:=fun j q=>by
    obtain ⟨ys,w⟩:=F.trk p (F.new j p q).1
    rw [hp] at w;cases w
  have sm:=same_upd hp (.lst xs)
  refine ⟨fun j=>if j < n then none else (caps[j - n]?).bind own,⟨?_,fun j=>?_,fun j k a h1 h2=>?_,F.same.trans sm,fun a h=>.inl (F.sub a h),F.trk0,fun a h=>?_,fun j a h1=>?_⟩,fun j h1=>?_⟩
  · unfold compEnv stC
    simp
  · rcases compEnv_at (n:=n) (caps:=caps) (e:=e) j with z | ⟨k,i,rfl,hk,z⟩
    · rw [z];trivial
    · rw [z,if_neg (by (first | lia | omega)),show n + k - n = k by (first | lia | omega),hk]
      have e1:stAt (stC n caps σ) (n + k) = stAt σ i:=by
        unfold stC
        unfold stAt
        rw [List.getElem?_append_right (by rw [List.length_replicate];(first | lia | omega)),List.length_replicate,List.getElem?_map,show n + k - n = k by (first | lia | omega),hk]
        rfl
      rw [e1]
      exact RS.map (fun q=>(q.new hp).same sm) (fun q=>(q.new hp).same sm) (fun q=>(q.new hp).same sm) (fun q=>(q.new hp).same sm) (fun a ys _ _ q=>sm _ _ q) (F.sl i)
  · by_cases hj:j < n
    · rw [if_pos hj] at h1;cases h1
    · by_cases hk:k < n
      · rw [if_pos hk] at h2;cases h2
      · rw [if_neg hj] at h1
        rw [if_neg hk] at h2
        cases q1:caps[j - n]? with
        | none=>rw [q1] at h1;cases h1
        | some i1 =>
          cases q2:caps[k - n]? with
          | none=>rw [q2] at h2;cases h2
          | some i2 =>
            rw [q1] at h1
            rw [q2] at h2
            have:=F.inj i1 i2 a h1 h2
            subst this
            have:=nodup_get hc q1 q2
            (first | lia | omega)
  · rcases h with h | h
    · obtain ⟨ys,q⟩:=F.trk a h
      exact ⟨ys,sm _ _ q⟩
    · subst h;exact ⟨_,upd_same⟩
  · by_cases hj:j < n
    · rw [if_pos hj] at h1;cases h1
    · rw [if_neg hj] at h1
      cases q1:caps[j - n]? with
      | none=>rw [q1] at h1;cases h1
      | some i1 =>
        rw [q1] at h1
        exact ⟨.inl (F.new i1 a h1).1,(F.new i1 a h1).2⟩
  · dsimp only at h1
    by_cases hj:j < n
    · rw [if_pos hj] at h1;cases h1
    · rw [if_neg hj] at h1
      cases q1:caps[j - n]? with
      | none=>rw [q1] at h1;cases h1
      | some i1 =>
        rw [q1] at h1
        exact np i1 h1
noncomputable def G.below (n:Nat):G → Bool
  | .one i=>decide (i < n)
  | .many is=>is.all fun i=>decide (i < n)
theorem puts_back {n:Nat}:∀ {is:List Nat} {ds:List D} {e e':Nv},(is.all fun i=>decide (i < n)) = true → puts is ds e = .ok e' → e'.length = e.length ∧ ∀ j,n ≤ j → e'.at j = e.at j
  | [],[],e,e',_,h=>by rw [puts] at h;cases h;exact ⟨rfl,fun _ _=>rfl⟩
  | [],_ :: _,_,_,_,h=>by simp only [puts] at h;cases h
  | _ :: _,[],_,_,_,h=>by simp only [puts] at h;cases h
  | i :: is,d :: ds,e,e',hb,h=>by
    rw [puts] at h
    rw [List.all_cons,Bool.and_eq_true] at hb
    obtain ⟨h1,h2⟩:=puts_back hb.2 h
    have hi:=of_decide_eq_true hb.1
    exact ⟨by rw [h1,List.length_set],fun j hj=>by rw [h2 j hj,at_set_ne (by (first | lia | omega))]⟩
theorem put_back {n:Nat} {g:G} {d:D} {e e':Nv} (hb:g.below n = true) (h:g.put d e = .ok e'):e'.length = e.length ∧ ∀ j,n ≤ j → e'.at j = e.at j:=by
  cases g with
  | one i =>
    have h:Res.ok (e.set i (.v d)) = .ok e':=h
    cases h
    have hi:i < n:=of_decide_eq_true hb
    exact ⟨List.length_set,fun j hj=>at_set_ne (by (first | lia | omega))⟩
  | many is =>
    cases d with
    | tup ds=>exact puts_back hb h
    | non=>cases h
    | bl _=>cases h
    | int _=>cases h
    | str _=>cases h
    | lst _=>cases h
    | dct _=>cases h
    | tdc _=>cases h
end
end Tr
namespace Tr
open PySem PySem.Spec PyProof.Rows L2
section
variable {T:Tab} {cf:Nat → List D → Res D} {X:Cx} {x y z:E} {p q r tg iter:Expr} {pos:Pos}
noncomputable def Src (K:PySem.W.Frag) (H:Hp) (O:Addr → Prop) (p:Addr) (d:D) (v:V):Prop:=RD K H O d v ∨ ∃ a,v = .ref a ∧ a ≠ p ∧ OwnAt K H O a d
theorem Src.rr {K:PySem.W.Frag} {H:Hp} {O:Addr → Prop} {p:Addr} {d:D} {v:V} (h:Src K H O p d v):RR K H O d v:=by
  rcases h with z | ⟨al,z1,z2,z3⟩
  · exact .inl z
  · exact .inr ⟨al,z1,z3⟩
theorem Src.same {K:PySem.W.Frag} {H H':Hp} {O:Addr → Prop} {p:Addr} {d:D} {v:V} (h:Src K H O p d v) (s:Same H H'):Src K H' O p d v:=by
  rcases h with z | ⟨al,z1,z2,z3⟩
  · exact .inl (z.same s)
  · exact .inr ⟨al,z1,z2,z3.same s⟩
theorem Src.upd {K:PySem.W.Frag} {H:Hp} {O:Addr → Prop} {p:Addr} {d:D} {v:V} {ys zs:List V} (h:Src K H O p d v) (hO:O p) (hp:H p = some (.lst ys)):Src K (L2.upd H p (.lst zs)) O p d v:=by
  rcases h with z | ⟨al,z1,z2,z3⟩
  · exact .inl (z.upd hO hp)
  · exact .inr ⟨al,z1,z2,z3.updM hO hp trivial z2⟩
noncomputable def testsIs (ifs:List Expr) (cond:E) (P:Expr → Prop):Prop:=(ifs = [] ∧ cond = .con (.bl true)) ∨ ∃ c,ifs = [c] ∧ P c
theorem comp_run {n:Nat} {caps:List Nat} {g:G} {elt src cond:E} {pe:Expr} {ifs:List Expr} {scope:Scope} {Nc:List Str} (hc:X.calm = true) (S:ScopeC X scope) (P:CapsOk X scope n caps Nc) (hb:g.below n = true)
    (hplain:plainX iter = true) (hsrc:SI T cf X tg src true iter)
    (body:∀ C s2 H2 fp,(cxC X scope C Nc s2 H2 fp).Ok → SG (cxC X scope C Nc s2 H2 fp) g tg ∧ SE T cf (cxC X scope C Nc s2 H2 fp) elt pe ∧ testsIs ifs cond (ST T cf (cxC X scope C Nc s2 H2 fp) cond))
    {use:Option (Value → Sem Unit)} {H₀:Hp} {O₀:Addr → Prop} {pins:List (Addr × Obj)} {s:Shared} {σ:L2.St} {H:Hp} {O:Addr → Prop} {own:Nat → Option Addr} {e:Nv} {d:D} {Q:Value → Shared → Prop} (I:Inv X pins σ H s) (F:Fm X.K H₀ O₀ H O own e σ)
    (ev:evE T cf (.comp n caps g elt src cond) e = .ok d)
    (fin:∀ C s2 H2 Hi s' a,Inv X pins σ H2 s2 → Same H H2 → s2.heap.objs.size < C → (∀ h',Heap.SameBut C s'.heap h' → Inv X pins σ Hi { s' with heap:=h' }) → (∃ m,s'.heap.Ns C m) → Hi C = none → Same H Hi → Fm X.K H₀ O₀ Hi O own e σ → RD X.K Hi O d (.ref a) → NewL X.K H Hi O d (.ref a) → a ≠ C →
      compPost (model X.prog X.w) X.A X.xe use Q (.ref a) C (.ok .next) s') :
    wpAny (model X.prog X.w) X.A (comprehension (.ListComp pe [⟨tg,iter,ifs,0⟩] scope pos) scope X.env (firstIterPos [⟨tg,iter,ifs,0⟩] pos) (newList []) false (eval iter X.env) use) Q X.xe s:=by
  (first | rw [xE_var] at ev | rw [xE_rd] at ev | rw [xE_con] at ev | rw [xE_glob] at ev | rw [xE_bin] at ev | rw [xE_cmp] at ev | rw [xE_chain] at ev | rw [xE_and] at ev | rw [xE_or] at ev | rw [xE_not] at ev | rw [xE_neg] at ev | rw [xE_ife] at ev | rw [xE_ix] at ev | rw [xE_sl] at ev | rw [xE_omit] at ev | rw [xE_tup] at ev | rw [xE_lst] at ev | rw [xE_call] at ev | rw [xE_callB] at ev | rw [xE_bt] at ev | rw [xE_isi] at ev | rw [xE_dnew] at ev | rw [xE_mth] at ev | rw [xE_callT] at ev | rw [xE_gidx] at ev | rw [xE_lset] at ev | rw [xE_maxd] at ev | rw [xE_lrng] at ev | rw [xE_sset] at ev | rw [xE_dnewT] at ev | rw [xE_getT] at ev | rw [xE_comp] at ev | rw [xE_look] at ev)
  obtain ⟨ds,e1,ev⟩:=Res.bind_ok ev
  obtain ⟨ys,e2,ev⟩:=Res.bind_ok ev
  obtain ⟨cz,ev⟩:=when_ok ev
  cases ev
  have hz:=of_decide_eq_true cz
  refine wpAny_comprehension_free rfl (plain_fold hplain) (closure_eq (S.cells I.ok)) S.kind S.names ?_
  refine thn (hsrc H₀ O₀ pins s σ H (fun J H2=>∃ srs,Same H H2 ∧ (∀ t ∈ srs,RR X.K H2 O t.1 t.2) ∧ Wk X.K J srs ds) I ⟨O,own,e,ds,F,e1,fun J H' srs s' rr _ wk=>⟨srs,s',rr,wk⟩⟩) fun v s1 h1=>thn h1 fun itv s2 h2=>?_
  obtain ⟨it,fp,tn,J,H2,rfl,I2,Tn,tn0,hfp,srs,s12,rr0,wk⟩:=h2
  refine wpAny_newObj_type (wpAny_newFunctionEnv S.cell (by intro y hy;simp at hy) (fun h₁ hns₁ hsb₁=>?_) S.kind)
  dsimp only at hns₁ hsb₁ ⊢
  generalize hH2:s2.heap.push { cls:=.type "list", dict:=none,data:=.seq ([]:List Value).toArray } = HP at hns₁ hsb₁ ⊢
  have hC:HP.objs.size = s2.heap.objs.size + 1:=by rw [← hH2,Heap.size_push]
  have hCl:s2.heap.objs.size < HP.objs.size:=by rw [hC];exact Nat.lt_succ_self _
  have below:∀ b,b < s2.heap.objs.size → b ≠ HP.objs.size:=fun b hb=>by rw [hC];exact Nat.ne_of_lt (Nat.lt_succ_of_lt hb)
  have old:∀ b o,s2.heap.get? b = some o → h₁.get? b = some o:=fun b o e=>hsb₁.extBut b o (below b (Heap.lt_size e)) (Heap.get?_push_of_some _ (hH2 ▸ Heap.get?_push_of_some _ e))
  have hacc:h₁.get? s2.heap.objs.size = some { cls:=.type "list", data:=.seq #[] }:=hsb₁.extBut _ _ (Nat.ne_of_lt hCl) (Heap.get?_push_of_some _ (hH2 ▸ Heap.get?_push_size _ rfl))
  have hfo:∀ b ∈ fp,b < s2.heap.objs.size:=fun b hb=>let ⟨o,q,_⟩:=Tn.obj 0 _ tn0 b hb;Heap.lt_size q
  have ok:=cxC_ok (Nc:=Nc) I2 S hfp hfo (Nat.le_of_lt hCl)
  have fr:H2 s2.heap.objs.size = none:=I2.hok.fresh (Nat.le_refl _)
  have F2:=F.grow s12
  obtain ⟨ownc,Fc,nown⟩:=F2.comp n (caps:=caps) P.nd fr (xs:=[])
  obtain ⟨bg,be,bt⟩:=body HP.objs.size s2 H2 fp ok
  have I0:=invC (t1:=s2.toks + ([]:List (Str × Value)).length) (fp:=fp) I2 S P ok old hCl (by simpa using hns₁) hacc
  have fpn:∀ {Hi:Hp} {pins':List (Addr × Obj)},(∀ b ∈ fp,Hi b = none) → (∀ b ∈ fp,∀ p ∈ pins',p.1 ≠ b) → ∀ b ∈ fp,FpOk (cxC X scope HP.objs.size Nc s2 H2 fp) pins' Hi b:=fun hn hpp b hb=>by
    refine ⟨hn b hb,(ok.exf b hb).1,ok.exfs b hb,.inl hb,(ok.exf b hb).2,fun p hp=>hpp b hb p (by simpa [cxC] using hp)⟩
  let f : D → Res (Option D) := fun d => do
      let e1 ← g.put d (compEnv n caps e)
      let c ← evE T cf cond e1
      let k ← c.truth
      if k then do let y ← evE T cf elt e1;.ok (some y) else .ok none
  have loop:∀ s₃:Shared,s₃ = { s2 with heap:=h₁,toks:=s2.toks + ([]:List (Str × Value)).length } →
      codeAny (model X.prog X.w) X.A (.compLoop (.ListComp pe [⟨tg,iter,ifs,0⟩] scope pos) 0 (.ref it) (.ref s2.heap.objs.size) (compEnvC scope (freeCells X.env.cells scope.names []) HP.objs.size X.env))
        (compPost (model X.prog X.w) X.A X.xe use Q (.ref s2.heap.objs.size) HP.objs.size) s₃:=by
    rintro s₃ rfl
    refine compLoop_gen (fun k s'=>∃ i σi Hi own' as bs,k = ds.length + 1 - i ∧ i ≤ ds.length ∧ Inv (cxC X scope HP.objs.size Nc s2 H2 fp) [] σi Hi s' ∧ tn i s'.heap ∧ (∀ b ∈ fp,Hi b = none) ∧ Same H2 Hi ∧
      Fm X.K H₀ O₀ Hi (plus O s2.heap.objs.size) own' (compEnv n caps e) σi ∧ (∀ j,own' j ≠ some s2.heap.objs.size) ∧ compL f (ds.drop i) = .ok bs ∧ ys = as ++ bs ∧ as.length ≤ i ∧
      (∃ xs,Hi s2.heap.objs.size = some (.lst xs) ∧ RDs X.K Hi (plus O s2.heap.objs.size) as xs) ∧ ∀ t ∈ srs,Src X.K Hi (plus O s2.heap.objs.size) s2.heap.objs.size t.1 t.2) ?_ (ds.length + 1) ?_
    · rintro k s' ⟨i,σi,Hi,own',as,bs,rfl,hi,Ii,tni,fri,smi,Fi,noi,evd,rfl,hal,⟨xs,hx,wx⟩,rri⟩
      have stat:∀ b ∈ fp,FpOk (cxC X scope HP.objs.size Nc s2 H2 fp) [] Hi b:=fpn fri (fun b _ p hp=>by cases hp)
      obtain ⟨w1,w2,w3⟩:=wk i Hi (plus O s2.heap.objs.size) fun t ht=>(rri t ht).rr
      by_cases hlt:i < ds.length
      · refine thn (Tn.item (cxC X scope HP.objs.size Nc s2 H2 fp) rfl rfl rfl hc i [] s' σi Hi (fun _ _=>False) Ii stat tni (w1 hlt)) fun r s4 ⟨u,hr,h4⟩=>?_
        subst hr
        refine thn h4 fun _ s5 ⟨v,H5,I5,r5,y5,tn5,fr5⟩=>?_
        obtain ⟨s35,rv⟩:=w3 v H5 _ (List.getElem?_eq_getElem hlt) y5
        have I5':=I5.pinned (fpn fr5 (fun b _ p hp=>by cases hp)) (Tn.obj _ _ tn5)
        rw [List.drop_eq_getElem_cons hlt,compL] at evd
        obtain ⟨o,ef,evd⟩:=Res.bind_ok evd
        obtain ⟨b',eb,evd⟩:=Res.bind_ok evd
        obtain ⟨e3,ep,ef⟩:=Res.bind_ok ef
        obtain ⟨dc,ec,ef⟩:=Res.bind_ok ef
        obtain ⟨kc,et,ef⟩:=Res.bind_ok ef
        have F5:=Fi.grow s35
        refine thn (bg H₀ O₀ _ s5 σi H5 v u (fun σ' H'=>H' = H5 ∧ ∃ own'',Fm X.K H₀ O₀ H5 (plus O s2.heap.objs.size) own'' e3 σ' ∧ ∀ j,own'' j ≠ some s2.heap.objs.size) I5' r5 ⟨_,own',_,_,e3,F5,rv,ep,fun σ' own'' hle F'=>⟨rfl,own'',F',fun j q=>noi j (hle j _ q)⟩⟩) fun _ s6 ⟨σ6,H6,I6,q6⟩=>?_
        obtain ⟨rfl,own6,F6,no6⟩:=q6
        have tests:wpAny (model X.prog X.w) X.A (forIn ifs true fun c r=>if r = true then do let ok ← isTrue c (compEnvC scope (freeCells X.env.cells scope.names []) HP.objs.size X.env) (eval c (compEnvC scope (freeCells X.env.cells scope.names []) HP.objs.size X.env));pure (ForInStep.yield ok) else pure (ForInStep.yield r))
            (fun ok s7=>ok = kc ∧ ∃ H7,Inv (cxC X scope HP.objs.size Nc s2 H2 fp) ([] ++ pinsAt fp s5.heap) σ6 H7 s7 ∧ Same H6 H7) (fun _ _=>False) s6:=by
          rcases bt with ⟨hi0,hc0⟩ | ⟨c0,hi0,st0⟩
          · subst hi0 hc0
            (first | rw [xE_var] at ec | rw [xE_rd] at ec | rw [xE_con] at ec | rw [xE_glob] at ec | rw [xE_bin] at ec | rw [xE_cmp] at ec | rw [xE_chain] at ec | rw [xE_and] at ec | rw [xE_or] at ec | rw [xE_not] at ec | rw [xE_neg] at ec | rw [xE_ife] at ec | rw [xE_ix] at ec | rw [xE_sl] at ec | rw [xE_omit] at ec | rw [xE_tup] at ec | rw [xE_lst] at ec | rw [xE_call] at ec | rw [xE_callB] at ec | rw [xE_bt] at ec | rw [xE_isi] at ec | rw [xE_dnew] at ec | rw [xE_mth] at ec | rw [xE_callT] at ec | rw [xE_gidx] at ec | rw [xE_lset] at ec | rw [xE_maxd] at ec | rw [xE_lrng] at ec | rw [xE_sset] at ec | rw [xE_dnewT] at ec | rw [xE_getT] at ec | rw [xE_comp] at ec | rw [xE_look] at ec);cases ec;cases et
            exact wpAny_tests_nil ⟨rfl,H6,I6,Same.refl _⟩
          · subst hi0
            refine wpAny_tests_one (thn (st0 H₀ O₀ _ s6 σ6 H6 (fun b H'=>b = kc ∧ Same H6 H') I6 ⟨_,own6,e3,dc,kc,F6,ec,et,fun H' s=>⟨rfl,s⟩⟩) fun b s7 ⟨H7,I7,q1,q2⟩=>⟨q1,H7,I7,q2⟩)
        refine thn tests fun ok s7 ⟨hok,H7,I7,s57⟩=>?_
        subst hok
        have F7:=F6.grow s57
        obtain ⟨pl1,pl2⟩:=put_back hb ep
        have bk:∀ j,(compEnv n caps e).at j = .no ∨ (compEnv n caps e).at j = e3.at j:=fun j=>by
          by_cases hj:n ≤ j
          · exact .inr (pl2 j hj).symm
          · rcases compEnv_at (n:=n) (caps:=caps) (e:=e) j with z | ⟨k,i,rfl,_,_⟩
            · exact .inl z
            · exact absurd (Nat.le_add_right n k) hj
        have keepT:∀ {H8:Hp} {s8:Shared} {σ8:L2.St},Inv (cxC X scope HP.objs.size Nc s2 H2 fp) ([] ++ pinsAt fp s5.heap) σ8 H8 s8 → tn (i + 1) s8.heap ∧ ∀ b ∈ fp,H8 b = none:=fun I8 =>
          ⟨Tn.keep _ _ _ tn5 fun b hb o q=>(I8.pin (b,o) (List.mem_append_right _ (List.mem_append_right _ (mem_pinsAt hb q)))).1,fun b hb=>by
            obtain ⟨o,q,_⟩:=Tn.obj _ _ tn5 b hb
            exact (I8.pin (b,o) (List.mem_append_right _ (List.mem_append_right _ (mem_pinsAt hb q)))).2.1⟩
        cases ok with
        | false =>
          rw [if_neg Bool.false_ne_true] at ef ⊢
          cases ef
          cases evd
          obtain ⟨t1,t2⟩:=keepT I7
          exact ⟨ds.length + 1 - (i + 1),by (first | lia | omega),i + 1,σ6,H7,own6,as,bs,rfl,hlt,I7.unpinned,t1,t2,smi.trans (s35.trans s57),F7.back pl1.symm bk,no6,eb,rfl,Nat.le_succ_of_le hal,⟨xs,s57 _ _ (s35 _ _ hx),(wx.same s35).same s57⟩,fun t ht=>((rri t ht).same s35).same s57⟩
        | true =>
          rw [if_pos rfl] at ef ⊢
          obtain ⟨dy,ey,ef⟩:=Res.bind_ok ef
          cases ef
          cases evd
          refine thn (be H₀ O₀ _ s7 σ6 H7 (fun v H'=>Same H7 H' ∧ RD X.K H' (plus O s2.heap.objs.size) dy v) I7 ⟨_,own6,e3,dy,F7,ey,fun v H' s r _=>⟨s,r⟩⟩) fun wv s8 ⟨vy,H8,I8,r8,s78,rd8⟩=>?_
          have sm8:=s35.trans (s57.trans s78)
          have hx8:=sm8 _ _ hx
          have F8:=F7.grow s78
          have wx8:=wx.same sm8
          have h0:H₀ s2.heap.objs.size = none:=(F.same.trans s12).free fr
          refine thn (mt_append (X:=cxC X scope HP.objs.size Nc s2 H2 fp) _ s8 σ6 H8 (.ref s2.heap.objs.size) [vy] (.ref s2.heap.objs.size) [wv] (fun _ H'=>H' = upd H8 s2.heap.objs.size (.lst (xs ++ [vy]))) I8 rfl (.cons r8 .nil) ⟨_,xs,vy,rfl,rfl,hx8,by rw [wx.length,← big_line];(first | lia | omega),rfl⟩) fun _ s9 ⟨v9,H9,I9,r9,e9⟩=>?_
          subst e9
          obtain ⟨t1,t2⟩:=keepT I9
          have smU:Same H2 (upd H8 s2.heap.objs.size (.lst (xs ++ [vy]))):=fun b o q=>by
            rw [upd_ne (ne_of_none q fr)]
            exact sm8 _ _ (smi _ _ q)
          refine ⟨ds.length + 1 - (i + 1),by (first | lia | omega),i + 1,σ6,_,own6,as ++ [dy],b',rfl,hlt,I9.unpinned,t1,t2,smU,(F8.updO (.inr rfl) hx8 h0 no6).back pl1.symm bk,no6,eb,by simp,?_,⟨xs ++ [vy],upd_same,?_⟩,fun t ht=>((rri t ht).same sm8).upd (.inr rfl) hx8⟩
          · rw [List.length_append,List.length_singleton];(first | lia | omega)
          · exact (wx8.append (RDs.cons rd8 RDs.nil)).upd (.inr rfl) hx8
      · have hii:i = ds.length:=by (first | lia | omega)
        subst hii
        refine thn (Tn.done (cxC X scope HP.objs.size Nc s2 H2 fp) rfl rfl rfl hc _ [] s' σi Hi (fun _ _=>False) Ii stat tni (w2 (Nat.le_refl _))) fun r s4 ⟨hr,I4⟩=>?_
        subst hr
        rw [List.drop_length,compL] at evd
        cases evd
        have nO:¬ O s2.heap.objs.size:=fun z=>by
          obtain ⟨o,q⟩:=F2.trk _ z
          rw [fr] at q;cases q
        refine fin HP.objs.size s2 H2 Hi s4 s2.heap.objs.size I2 s12 hCl (fun h' sb=>outC I2 I4 hfp (Nat.le_of_lt hCl) sb) ?_ I4.free (s12.trans smi) (F.grow (s12.trans smi)) ?_ ?_ (Nat.ne_of_lt hCl)
        · obtain ⟨m,hn,_⟩:=I4.loc
          exact ⟨m,hn⟩
        · exact ⟨_,xs,rfl,.inl ⟨nO,.inl hx⟩,by rw [List.append_nil];exact wx.weak fun _ z=>.inl z⟩
        · exact fun _=>⟨_,rfl,s12.free fr,xs,hx,by rw [List.append_nil];exact wx⟩
    · refine ⟨0,_,_,ownc,[],ys,rfl,Nat.zero_le _,I0,Tn.keep _ _ _ tn0 fun b _ o q=>old b o q,fun b hb=>?_,same_upd fr _,Fc,nown,by simpa using e2,rfl,Nat.le_refl _,⟨[],upd_same,rfl⟩,?_⟩
      · rw [upd_ne (Nat.ne_of_lt (hfo b hb))];exact (hfp b hb).1
      · intro t ht
        rcases rr0 t ht with z | ⟨al,z1,z2⟩
        · exact .inl ((z.new fr).same (same_upd fr _))
        · obtain ⟨ob,hob,_⟩:=z2.obj
          exact .inr ⟨al,z1,ne_of_none hob fr,(z2.new fr).same (same_upd fr _)⟩
  exact codeAny_compStart_list (loop _ rfl) (Tn.self _ 0 _ _ _ (Tn.keep _ _ _ tn0 fun b _ o q=>old b o q) (loop _ rfl))
end
end Tr
namespace Tr
open PySem PySem.Spec PyProof.Rows L2
section
variable {T:Tab} {cf:Nat → List D → Res D} {X:Cx} {x y z:E} {p q r tg iter:Expr} {pos pos' pos'':Pos}
theorem se_comp {n:Nat} {caps:List Nat} {g:G} {elt src cond:E} {pe:Expr} {ifs:List Expr} {scope:Scope} {Nc:List Str} (hc:X.calm = true) (S:ScopeC X scope) (P:CapsOk X scope n caps Nc) (hb:g.below n = true)
    (hplain:plainX iter = true) (hsrc:SI T cf X tg src true iter)
    (body:∀ C s2 H2 fp,(cxC X scope C Nc s2 H2 fp).Ok → SG (cxC X scope C Nc s2 H2 fp) g tg ∧ SE T cf (cxC X scope C Nc s2 H2 fp) elt pe ∧ testsIs ifs cond (ST T cf (cxC X scope C Nc s2 H2 fp) cond)) :
    SE T cf X (.comp n caps g elt src cond) (.ListComp pe [⟨tg,iter,ifs,0⟩] scope pos):=by
  intro H₀ O₀ pins s σ H Q I ⟨O,own,e,d,F,ev,k⟩
  rw [eval_ListComp]
  refine comp_run (use:=none) hc S P hb hplain hsrc body I F ev ?_
  intro C s2 H2 Hi s' a I2 s12 hC hI ns hn sm Fi rd nl hne
  obtain ⟨m,ns⟩:=ns
  exact ⟨m,ns,fun h' sb=>⟨.ref a,Hi,hI h' sb,rfl,k _ Hi sm rd fun _=>nl⟩⟩
theorem comp_asg {i:Nat} {nm:Str} {n:Nat} {caps:List Nat} {g:G} {elt src cond:E} {pe:Expr} {ifs:List Expr} {scope:Scope} {Nc:List Str} (hN:X.N.Nodup) (hi:X.N[i]? = some nm) (hl:Loc X.env.scope nm) (hf:X.fn nm = true ∨ X.env.scope.names.lookup nm = some .local)
    (hsw:swapsWith (.ListComp pe [⟨tg,iter,ifs,0⟩] scope pos) (some (.Name nm pos')) pos''.line X.env = pure true)
    (hc:X.calm = true) (S:ScopeC X scope) (P:CapsOk X scope n caps Nc) (hb:g.below n = true)
    (hplain:plainX iter = true) (hsrc:SI T cf X tg src true iter)
    (body:∀ C s2 H2 fp,(cxC X scope C Nc s2 H2 fp).Ok → SG (cxC X scope C Nc s2 H2 fp) g tg ∧ SE T cf (cxC X scope C Nc s2 H2 fp) elt pe ∧ testsIs ifs cond (ST T cf (cxC X scope C Nc s2 H2 fp) cond)) :
    ∀ H₀ O₀,PS X (.Assign [.Name nm pos'] (.ListComp pe [⟨tg,iter,ifs,0⟩] scope pos) pos'') (fun D' σ H=>∃ O own e d,Fm X.K H₀ O₀ H O own e σ ∧ evE T cf (.comp n caps g elt src cond) e = .ok d ∧ ∀ v H',Same H H' → RD X.K H' O d v → NewL X.K H H' O d v → D'.nx (σ.set i (some v)) H'):=by
  intro H₀ O₀ pins s σ H D' I ⟨O,own,e,d,F,ev,k⟩
  rw [exec_Assign_Name_used _ _ _ _ hsw]
  refine wpAny_bind (wpAny_standAt (wpAny_bind ?_))
  show wpAny _ X.A (do let _ ← comprehension (.ListComp pe [⟨tg,iter,ifs,0⟩] scope pos) scope X.env _ (newList []) false (eval iter X.env) (some (assign (.Name nm pos') X.env))) _ _ s
  refine wpAny_bind (wpAny_mono (comp_run (use:=some (assign (.Name nm pos') X.env)) (Q:=fun _ s'=>SP X pins D' .next s') hc S P hb hplain hsrc body I F ev ?_) (fun _ s' hq=>wpAny_pure (wpAny_pure hq)) fun _ _ e=>e)
  intro C s2 H2 Hi s' a I2 s12 hC hI ns hn sm Fi rd nl hne
  obtain ⟨m,ns⟩:=ns
  have I':Inv X pins σ Hi s':=by
    have:=hI s'.heap (.refl ..)
    exact this
  show wpAny _ X.A (assign (.Name nm pos') X.env (.ref a)) _ _ _
  refine wpAny_assign_Name (store_ok2 (v:=.ref a) I' hN hi hl rfl (fun s'' I'' ⟨a0,sb,ha0⟩=>?_) hf)
  have lt0:a0 < s2.heap.objs.size:=by
    rcases ha0 with z | z
    · rw [z];exact I2.lt
    · obtain ⟨v,w⟩:=I2.cell nm a0 z
      exact w.lt
  have neC:C ≠ a0:=Nat.ne_of_gt (Nat.lt_trans lt0 hC)
  refine ⟨m,ns.sameBut sb neC,fun h' sb'=>?_⟩
  refine ⟨σ.set i (some (.ref a)),Hi,?_,k _ Hi sm rd nl⟩
  refine I''.turned (t':=s''.toks) (it:=C) (fun b o hb' e=>(sb'.2 b hb').trans e) hn (Nat.ne_of_gt (Nat.lt_trans I2.lt hC)) (.inr (Nat.le_trans I2.sz (Nat.le_of_lt hC))) (fun x c e z=>?_) (fun p hp z=>?_)
  · obtain ⟨v,w⟩:=I2.cell x c e
    exact absurd (Nat.lt_trans w.lt hC) (by rw [z];exact Nat.lt_irrefl _)
  · exact absurd (Nat.lt_trans (Heap.lt_size (I2.pin p hp).1) hC) (by rw [z];exact Nat.lt_irrefl _)
theorem ss_asg_comp {i:Nat} {nm:Str} {n:Nat} {caps:List Nat} {g:G} {elt src cond:E} {pe:Expr} {ifs:List Expr} {scope:Scope} {Nc:List Str} (hN:X.N.Nodup) (hi:X.N[i]? = some nm) (hl:Loc X.env.scope nm) (hf:X.fn nm = true ∨ X.env.scope.names.lookup nm = some .local)
    (hc:X.calm = true) (S:ScopeC X scope) (P:CapsOk X scope n caps Nc) (hb:g.below n = true)
    (hplain:plainX iter = true) (hsrc:SI T cf X tg src true iter) (o:Bool)
    (body:∀ C s2 H2 fp,(cxC X scope C Nc s2 H2 fp).Ok → SG (cxC X scope C Nc s2 H2 fp) g tg ∧ SE T cf (cxC X scope C Nc s2 H2 fp) elt pe ∧ testsIs ifs cond (ST T cf (cxC X scope C Nc s2 H2 fp) cond)) :
    SS T cf X (if o then .asgO i (.comp n caps g elt src cond) else .asg (.one i) (.comp n caps g elt src cond)) (.Assign [.Name nm pos'] (.ListComp pe [⟨tg,iter,ifs,0⟩] scope pos) pos''):=by
  intro H₀ O₀
  have main:PS X (.Assign [.Name nm pos'] (.ListComp pe [⟨tg,iter,ifs,0⟩] scope pos) pos'') (fun D' σ H=>∃ O own e d,Fm X.K H₀ O₀ H O own e σ ∧ evE T cf (.comp n caps g elt src cond) e = .ok d ∧ ∀ v H',Same H H' → RD X.K H' O d v → NewL X.K H H' O d v → D'.nx (σ.set i (some v)) H'):=by
    have hsw:∃ b:Bool,swapsWith (.ListComp pe [⟨tg,iter,ifs,0⟩] scope pos) (some (.Name nm pos')) pos''.line X.env = pure b:=⟨_,rfl⟩
    obtain ⟨b,hsw⟩:=hsw
    cases b with
    | true=>exact comp_asg hN hi hl hf hsw hc S P hb hplain hsrc body H₀ O₀
    | false =>
      refine PS.imp (fun D' σ H hq=>?_) (ps_set hN hi hl (se_comp hc S P hb hplain hsrc body H₀ O₀) hsw hf)
      obtain ⟨O,own,e,d,F,ev,k⟩:=hq
      exact ⟨O,own,e,d,F,ev,fun v H' s' r n=>k v H' s' r (n rfl)⟩
  refine PS.imp (fun D' σ H hq=>?_) main
  obtain ⟨ts,e,out,⟨O,own,F,tt⟩,ev,k⟩:=hq
  cases o with
  | true =>
    rw [if_pos rfl] at ev
    (first | rw [xS_nil] at ev | rw [xS_cons] at ev | rw [xS_pass] at ev | rw [xS_ret] at ev | rw [xS_retO] at ev | rw [xS_retN] at ev | rw [xS_asg] at ev | rw [xS_asgO] at ev | rw [xS_sealed] at ev | rw [xS_ite] at ev | rw [xS_forS] at ev | rw [xS_whl] at ev | rw [xS_app] at ev | rw [xS_rev] at ev | rw [xS_dput] at ev | rw [xS_dputT] at ev | rw [xS_ext] at ev | rw [xS_never] at ev | rw [xS_asgP] at ev | rw [xS_appP] at ev | rw [xS_aug] at ev | rw [xS_lput] at ev | rw [xS_exp] at ev | rw [xS_ins] at ev | rw [xS_rais] at ev | rw [xS_asgT] at ev | rw [xS_appT] at ev | rw [xS_retT] at ev | rw [xS_brk] at ev | rw [xS_cnt] at ev)
    obtain ⟨d,e1,ev⟩:=Res.bind_ok ev
    split at ev
    · obtain ⟨c,ev⟩:=when_ok ev
      cases ev
      refine ⟨O,own,e,_,F,e1,fun v H' s' r n=>?_⟩
      obtain ⟨p,rfl,h2,h3⟩:=n rfl
      exact k _ H' ⟨_,_,F.setO s' i h2 h3,fun t ht=>((tt t ht).new h2).same s'⟩
    · obtain ⟨c,ev⟩:=when_ok ev
      cases ev
      refine ⟨O,own,e,_,F,e1,fun v H' s' r n=>?_⟩
      obtain ⟨p,rfl,h2,h3⟩:=n rfl
      exact k _ H' ⟨_,_,F.setO s' i h2 h3,fun t ht=>((tt t ht).new h2).same s'⟩
    · obtain ⟨c,ev⟩:=when_ok ev
      cases ev
      refine ⟨O,own,e,_,F,e1,fun v H' s' r n=>?_⟩
      obtain ⟨p,rfl,h2,h3⟩:=n rfl
      exact k _ H' ⟨_,_,F.setO s' i h2 h3,fun t ht=>((tt t ht).new h2).same s'⟩
    · cases ev
  | false =>
    rw [if_neg Bool.false_ne_true] at ev
    (first | rw [xS_nil] at ev | rw [xS_cons] at ev | rw [xS_pass] at ev | rw [xS_ret] at ev | rw [xS_retO] at ev | rw [xS_retN] at ev | rw [xS_asg] at ev | rw [xS_asgO] at ev | rw [xS_sealed] at ev | rw [xS_ite] at ev | rw [xS_forS] at ev | rw [xS_whl] at ev | rw [xS_app] at ev | rw [xS_rev] at ev | rw [xS_dput] at ev | rw [xS_dputT] at ev | rw [xS_ext] at ev | rw [xS_never] at ev | rw [xS_asgP] at ev | rw [xS_appP] at ev | rw [xS_aug] at ev | rw [xS_lput] at ev | rw [xS_exp] at ev | rw [xS_ins] at ev | rw [xS_rais] at ev | rw [xS_asgT] at ev | rw [xS_appT] at ev | rw [xS_retT] at ev | rw [xS_brk] at ev | rw [xS_cnt] at ev)
    obtain ⟨d,e1,ev⟩:=Res.bind_ok ev
    obtain ⟨e2,e3,ev⟩:=Res.bind_ok ev
    cases ev
    cases e3
    exact ⟨O,own,e,d,F,e1,fun v H' s' r n=>k _ H' ⟨O,_,(F.grow s').setV i r,fun t ht=>(tt t ht).same s'⟩⟩
theorem turned2 {pins:List (Addr × Obj)} {σ:L2.St} {H:Hp} {s:Shared} {h':Heap} {t':Nat} {a b:Addr} (I:Inv X pins σ H s) (k:∀ c o,c ≠ a → c ≠ b → s.heap.get? c = some o → h'.get? c = some o) (na:H a = none) (nb:H b = none)
    (fa:a ≠ X.env.locals ∧ (a ∈ X.ex ∨ X.s₀.heap.objs.size ≤ a) ∧ (∀ x c,X.env.cells.lookup x = some c → c ≠ a) ∧ ∀ p ∈ X.pn ++ pins,p.1 ≠ a)
    (fb:b ≠ X.env.locals ∧ (b ∈ X.ex ∨ X.s₀.heap.objs.size ≤ b) ∧ (∀ x c,X.env.cells.lookup x = some c → c ≠ b) ∧ ∀ p ∈ X.pn ++ pins,p.1 ≠ b):Inv X pins σ H { s with heap:=h',toks:=t' }:=by
  have nn:∀ c u,H c = some u → c ≠ a ∧ c ≠ b:=fun c u e=>⟨fun z=>(by rw [z,na] at e;cases e),fun z=>(by rw [z,nb] at e;cases e)⟩
  have no2:∀ {c},c ∉ [a,b] → c ≠ a ∧ c ≠ b:=fun hc=>⟨fun z=>hc (by simp [z]),fun z=>hc (by simp [z])⟩
  refine I.step (g':=s.gens) (d':=s.drawn) (ch:=[a,b]) (fun c hc=>?_) (fun c o _ _ hc e _=>k c o (no2 hc).1 (no2 hc).2 e) (fun c o _ _ hc e _=>⟨o.slots,k c o (no2 hc).1 (no2 hc).2 e⟩) (fun _ _ _ _ n=>n)
    (fun c o hc e=>⟨o,k c o (no2 hc).1 (no2 hc).2 e⟩) (fun _ _ e=>e) (fun _ _ _ e=>e) (fun b ps e=>⟨#[],by rw [e];simp⟩) (fun m hm=>?_) (fun c u e=>?_) I.bare
  · rcases List.mem_cons.mp hc with rfl | hc
    · exact ⟨fa.2.1,fa.1,fa.2.2.1,fa.2.2.2⟩
    · have e:c = b:=by simpa using hc
      subst e
      exact ⟨fb.2.1,fb.1,fb.2.2.1,fb.2.2.2⟩
  · obtain ⟨o,es,ep,ho,r⟩:=hm
    exact ⟨o,es,ep,k _ o (Ne.symm fa.1) (Ne.symm fb.1) ho,r⟩
  · refine (I.hok c u e).stay (fun c' v hc q=>?_) (fun _ q=>q) fun _ _ q=>q
    have:c' ≠ a ∧ c' ≠ b:=by
      rcases hc with z | z
      · rw [z];exact nn c u e
      · exact nn c' _ z
    exact k c' v this.1 this.2 q
noncomputable def Ite (K:PySem.W.Frag) (a:Addr):It :=
  ⟨fun i H=>∃ xs x,SqL K H a xs ∧ xs[i]? = some x,fun i H x H'=>∃ p y,H p = none ∧ x = .ref p ∧ H' = upd H p (.tup [.int i,y]) ∧ ∀ xs,SqL K H a xs → xs[i]? = some y,fun i H=>∃ xs,SqL K H a xs ∧ xs.length ≤ i⟩
theorem turn_enum {Pg:Program} {w:World} {K:PySem.W.Frag} {es:List Expr} {kk:Nat} {pos:Pos} (a en it:Addr) (hne:en ≠ it):Turn Pg w K (.Tuple es kk pos) (Ite K a) [en,it] en (fun i h=>∃ old,IsEnum h en it i old ∧ h.IsListIter it a i) where
  mem:=by simp
  obj:=fun i h st b hb=>by
    obtain ⟨old,st1,o,e,c,d⟩:=st
    rcases List.mem_cons.mp hb with rfl | hb
    · exact ⟨_,st1,fun v z=>by
        have z':Data.fields _ = Data.cell v:=z
        cases z'⟩
    · have e':b = it:=by simpa using hb
      subst e'
      exact ⟨o,e,fun v z=>by rw [d] at z;cases z⟩
  keep:=fun i h h' st k=>by
    obtain ⟨old,st1,st2⟩:=st
    exact ⟨old,k en (by simp) _ st1,st2.at fun o e=>k it (by simp) o e⟩
  item:=by
    intro X hP hw hK hc i pins s σ H E I hf st hg
    subst hP hw hK
    obtain ⟨xs,x,hq,hx⟩:=hg
    obtain ⟨old,st1,st2⟩:=st
    obtain ⟨its,rv,p,hz⟩:=I.list hq
    obtain ⟨u,hu,ru⟩:=rv.get hx
    obtain ⟨f0,f1,f2,f3,f4,f5⟩:=hf en (by simp)
    obtain ⟨g0,g1,g2,g3,g4,g5⟩:=hf it (by simp)
    refine wpAny_pyNext_enum_item st1 st2 p.isList (x:=u) (by simpa using hu) hne fun h₁ heo hit₁ ht₁ hz₁ hk₁=>?_
    refine ⟨_,rfl,wpAny_letOwnedTupleGo_enum heo fun h₂ he₂ hs₂=>?_⟩
    replace hs₂:Heap.SameBut en h₁ h₂:=hs₂
    have enl:en < s.heap.objs.size:=Heap.lt_size st1
    have itl:it < s.heap.objs.size:=by
      obtain ⟨o,q,_⟩:=id st2
      exact Heap.lt_size q
    have fr:H s.heap.objs.size = none:=I.hok.fresh (Nat.le_refl _)
    have hm:∃ hm:Heap,hm = s.heap.push { cls:=.type "tuple", data:=.seq #[.int i s.toks,u] }:=⟨_,rfl⟩
    obtain ⟨hm,ehm⟩:=hm
    have I1:Inv X pins σ (upd H s.heap.objs.size (.tup [.int i,x])) { s with heap:=hm }:=by
      rw [ehm]
      refine I.laid (t':=s.toks) (fun b o q=>Heap.get?_push_of_some _ q) (Nat.le_refl _) ?_
      exact ⟨by show 2 ≤ sizeLine;decide,[.int i s.toks,u],.cons ⟨_,rfl⟩ (.cons ru .nil),⟨_,Heap.get?_push_size _ rfl,rfl,_,rfl⟩⟩
    have kept:∀ b o,b ≠ en → b ≠ it → hm.get? b = some o → h₂.get? b = some o:=fun b o hb1 hb2 q=>by
      refine (hs₂.2 b hb1).trans ?_
      rw [ehm] at q
      rcases Heap.get?_push_cases q with ⟨e1,e2⟩ | q
      · rw [e1,e2];exact ht₁
      · exact hk₁ b o hb1 hb2 q
    have up:∀ {c:Addr},c < s.heap.objs.size → H c = none → upd H s.heap.objs.size (.tup [.int i,x]) c = none:=fun hl hn=>by rw [upd_ne (Nat.ne_of_lt hl)];exact hn
    have I2:Inv X pins σ (upd H s.heap.objs.size (.tup [.int i,x])) { s with heap:=h₂,toks:=s.toks + 1 }:=turned2 (s:={ s with heap:=hm }) (t':=s.toks + 1) I1 kept (up enl f0) (up itl g0) ⟨f1,f3,f4,f5⟩ ⟨g1,g3,g4,g5⟩
    refine ⟨.ref s.heap.objs.size,_,I2,rfl,⟨_,x,fr,rfl,rfl,fun ys hy=>by rw [I.list_inj hy hq];exact hx⟩,⟨u,?_,hit₁.extBut hs₂.extBut (Ne.symm hne)⟩,fun b hb=>?_⟩
    · have:((i + 1:Nat):Int) = (i:Int) + 1:=by push_cast;rfl
      rw [this];exact he₂
    · rcases List.mem_cons.mp hb with rfl | hb
      · exact up enl f0
      · have e':b = it:=by simpa using hb
        subst e'
        exact up itl g0
  done:=by
    intro X hP hw hK hc i pins s σ H E I hf st hg
    subst hP hw hK
    obtain ⟨xs,hq,hx⟩:=hg
    obtain ⟨old,st1,st2⟩:=st
    obtain ⟨its,rv,p,hz⟩:=I.list hq
    obtain ⟨g0,g1,g2,g3,g4,g5⟩:=hf it (by simp)
    have hl:=rv.length
    exact wpAny_pyNext_enum_end (I.ok.hd hc) st1 st2 p.isList (by simp;(first | lia | omega)) fun h' eb=>⟨rfl,I.turned (t':=s.toks) (fun b o hb e=>eb b o hb e) g0 g1 g3 g4 g5⟩
  self:=fun _ _ _ _ _ st h=>by
    obtain ⟨old,st1,_⟩:=st
    exact wpAny_pyIter_enum st1 h
noncomputable def IteT (K:PySem.W.Frag) (a:Addr):It :=
  ⟨fun i H=>∃ xs x,SqT K H a xs ∧ xs[i]? = some x,fun i H x H'=>∃ p y,H p = none ∧ x = .ref p ∧ H' = upd H p (.tup [.int i,y]) ∧ ∀ xs,SqT K H a xs → xs[i]? = some y,fun i H=>∃ xs,SqT K H a xs ∧ xs.length ≤ i⟩
theorem apart_tup {h:Heap} {a b:Addr} {its:Array Value} {o:Obj} (ht:h.IsTuple a its) (ho:h.get? b = some o) (hc:o.cls ≠ .type "tuple"):a ≠ b:=fun e=>by
  subst e
  obtain ⟨o',h1,h2,_⟩:=ht
  rw [ho] at h1;cases h1
  exact hc h2
theorem turn_enumT {Pg:Program} {w:World} {K:PySem.W.Frag} {es:List Expr} {kk:Nat} {pos:Pos} (a en it:Addr) (hne:en ≠ it):Turn Pg w K (.Tuple es kk pos) (IteT K a) [en,it] en (fun i h=>∃ old,IsEnum h en it i old ∧ h.IsTupleIter it a i) where
  mem:=by simp
  obj:=fun i h st b hb=>by
    obtain ⟨old,st1,o,e,c,d⟩:=st
    rcases List.mem_cons.mp hb with rfl | hb
    · exact ⟨_,st1,fun v z=>by
        have z':Data.fields _ = Data.cell v:=z
        cases z'⟩
    · have e':b = it:=by simpa using hb
      subst e'
      exact ⟨o,e,fun v z=>by rw [d] at z;cases z⟩
  keep:=fun i h h' st k=>by
    obtain ⟨old,st1,st2⟩:=st
    exact ⟨old,k en (by simp) _ st1,st2.at fun o e=>k it (by simp) o e⟩
  item:=by
    intro X hP hw hK hc i pins s σ H E I hf st hg
    subst hP hw hK
    obtain ⟨xs,x,hq,hx⟩:=hg
    obtain ⟨old,st1,st2⟩:=st
    obtain ⟨its,rv,p,hz⟩:=I.tuple hq
    obtain ⟨u,hu,ru⟩:=rv.get hx
    obtain ⟨f0,f1,f2,f3,f4,f5⟩:=hf en (by simp)
    obtain ⟨g0,g1,g2,g3,g4,g5⟩:=hf it (by simp)
    have n1:a ≠ it:=by
      obtain ⟨o,q1,q2,_⟩:=id st2
      exact apart_tup p q1 (by rw [q2];show Value.type "tuple_iterator" ≠ Value.type "tuple"; decide)
    have n2:a ≠ en:=apart_tup p st1 (show Value.type "enumerate" ≠ Value.type "tuple" by decide)
    have hlt:i < its.toArray.size:=by rw [List.size_toArray];exact (List.getElem?_eq_some_iff.mp hu).1
    refine wpAny_pyNext_enum_itemD (draws_tup (A:=X.A.in1) (I.ok.hd hc) it a n1 its.toArray) st1 ⟨st2,p⟩ hlt hne (by simp [hne,Ne.symm n2]) fun u' h₁ tk hu' heo hit₁ ht₁ hz₁ hk₁=>?_
    have eu:u' = u:=by
      have h1:its[i]? = some u':=by simpa using hu'
      rw [hu] at h1;cases h1;rfl
    subst eu
    refine ⟨_,rfl,wpAny_letOwnedTupleGo_enum heo fun h₂ he₂ hs₂=>?_⟩
    replace hs₂:Heap.SameBut en h₁ h₂:=hs₂
    have enl:en < s.heap.objs.size:=Heap.lt_size st1
    have itl:it < s.heap.objs.size:=by
      obtain ⟨o,q,_⟩:=id st2
      exact Heap.lt_size q
    have fr:H s.heap.objs.size = none:=I.hok.fresh (Nat.le_refl _)
    have hm:∃ hm:Heap,hm = s.heap.push { cls:=.type "tuple", data:=.seq #[.int i tk,u'] }:=⟨_,rfl⟩
    obtain ⟨hm,ehm⟩:=hm
    have I1:Inv X pins σ (upd H s.heap.objs.size (.tup [.int i,x])) { s with heap:=hm }:=by
      rw [ehm]
      refine I.laid (t':=s.toks) (fun b o q=>Heap.get?_push_of_some _ q) (Nat.le_refl _) ?_
      exact ⟨by show 2 ≤ sizeLine;decide,[.int i tk,u'],.cons ⟨_,rfl⟩ (.cons ru .nil),⟨_,Heap.get?_push_size _ rfl,rfl,_,rfl⟩⟩
    have kept:∀ b o,b ≠ en → b ≠ it → hm.get? b = some o → h₂.get? b = some o:=fun b o hb1 hb2 q=>by
      refine (hs₂.2 b hb1).trans ?_
      rw [ehm] at q
      rcases Heap.get?_push_cases q with ⟨e1,e2⟩ | q
      · rw [e1,e2];exact ht₁
      · exact hk₁ b o hb1 hb2 q
    have up:∀ {c:Addr},c < s.heap.objs.size → H c = none → upd H s.heap.objs.size (.tup [.int i,x]) c = none:=fun hl hn=>by rw [upd_ne (Nat.ne_of_lt hl)];exact hn
    have I2:Inv X pins σ (upd H s.heap.objs.size (.tup [.int i,x])) { s with heap:=h₂,toks:=tk + 1 }:=turned2 (s:={ s with heap:=hm }) (t':=tk + 1) I1 kept (up enl f0) (up itl g0) ⟨f1,f3,f4,f5⟩ ⟨g1,g3,g4,g5⟩
    refine ⟨.ref s.heap.objs.size,_,I2,rfl,⟨_,x,fr,rfl,rfl,fun ys hy=>by rw [I.tuple_inj hy hq];exact hx⟩,⟨u',?_,hit₁.1.extBut hs₂.extBut (Ne.symm hne)⟩,fun b hb=>?_⟩
    · have:((i + 1:Nat):Int) = (i:Int) + 1:=by push_cast;rfl
      rw [this];exact he₂
    · rcases List.mem_cons.mp hb with rfl | hb
      · exact up enl f0
      · have e':b = it:=by simpa using hb
        subst e'
        exact up itl g0
  done:=by
    intro X hP hw hK hc i pins s σ H E I hf st hg
    subst hP hw hK
    obtain ⟨xs,hq,hx⟩:=hg
    obtain ⟨old,st1,st2⟩:=st
    obtain ⟨its,rv,p,hz⟩:=I.tuple hq
    obtain ⟨g0,g1,g2,g3,g4,g5⟩:=hf it (by simp)
    have hl:=rv.length
    have hT:s.TypeIs (.ref en) "enumerate" := ⟨_,st1,rfl⟩
    unfold pyNext
    refine wpAny_bind (wpAny_attempt (wpAny_callSpecial?_slot (name:=Str.ofString "__next__") hT F.slot_enumerate_next
      (wpAny_call_entry F.slot_enumerate_next hT F.entry_enumerate_next ?_ (F.args_enumerate_next_1 _))))
    show wpAny _ _ (field (.ref en) 2 >>= _) _ _ _
    refine wpAny_bind (wpAny_field st1 rfl (x:=.ref it) rfl ?_)
    refine wpAny_bind (nextOf_tup_end (I.ok.hd hc) st2 p (by simp;(first | lia | omega)) fun h' x he' hx'=>?_)
    obtain ⟨o,ho,hc'⟩:=hx'
    refine wpAny_bind (wpAny_isInstance (T := "StopIteration") (b:=true) ⟨o,ho,hc'⟩ isSubtype_stop ?_)
    exact wpAny_pure ⟨rfl,I.turned (t':=s.toks) (fun b o hb e=>he' b o hb e) g0 g1 g3 g4 g5⟩
  self:=fun _ _ _ _ _ st h=>by
    obtain ⟨old,st1,_⟩:=st
    exact wpAny_pyIter_enum st1 h
theorem enumD_len (k:Int):∀ ds:List D,(enumD k ds).length = ds.length
  | []=>rfl
  | d :: ds=>by rw [enumD,List.length_cons,List.length_cons,enumD_len (k + 1) ds]
theorem enumD_get:∀ (k:Int) (ds:List D) (i:Nat) (d:D),ds[i]? = some d → (enumD k ds)[i]? = some (.tup [.int (k + i),d])
  | k,[],i,d,h=>by simp at h
  | k,d0 :: ds,0,d,h=>by simp at h;subst h;rw [enumD];simp
  | k,d0 :: ds,i + 1,d,h=>by
    rw [enumD,List.getElem?_cons_succ,enumD_get (k + 1) ds i d (by simpa using h)]
    congr 4
    push_cast
    (first | lia | omega)
theorem wk_enum {K:PySem.W.Frag} {a:Addr} {ds:List D}:Wk1 K (Ite K a) (.lst ds) (.ref a) (enumD 0 ds):=by
  intro i H O r
  obtain ⟨a',xs,e,q,w⟩:=r.lst
  cases e
  have hl:=w.length
  rw [enumD_len]
  refine ⟨fun h=>?_,fun h=>⟨xs,q,by (first | lia | omega)⟩,fun x H' d hd y=>?_⟩
  · obtain ⟨v,h1,h2⟩:=w.get (List.getElem?_eq_getElem h)
    exact ⟨xs,v,q,h1⟩
  · obtain ⟨p,yv,hp,rfl,rfl,hy⟩:=y
    refine ⟨same_upd hp _,?_⟩
    have hi:i < ds.length:=by
      have:=(List.getElem?_eq_some_iff.mp hd).1
      rwa [enumD_len] at this
    obtain ⟨v,h1,h2⟩:=w.get (List.getElem?_eq_getElem hi)
    have:=(hy xs q).symm.trans h1
    cases this
    rw [enumD_get 0 ds i _ (List.getElem?_eq_getElem hi)] at hd
    cases hd
    refine new_tup (RDs.cons ?_ (RDs.cons h2 RDs.nil)) hp
    show V.int (i:Int) = V.int (0 + (i:Int))
    rw [Int.zero_add]
theorem wk_enumT {K:PySem.W.Frag} {a:Addr} {ds:List D}:Wk1 K (IteT K a) (.tup ds) (.ref a) (enumD 0 ds):=by
  intro i H O r
  obtain ⟨a',xs,e,q,w⟩:=r.tup
  cases e
  have hl:=w.length
  rw [enumD_len]
  refine ⟨fun h=>?_,fun h=>⟨xs,q,by (first | lia | omega)⟩,fun x H' d hd y=>?_⟩
  · obtain ⟨v,h1,h2⟩:=w.get (List.getElem?_eq_getElem h)
    exact ⟨xs,v,q,h1⟩
  · obtain ⟨p,yv,hp,rfl,rfl,hy⟩:=y
    refine ⟨same_upd hp _,?_⟩
    have hi:i < ds.length:=by
      have:=(List.getElem?_eq_some_iff.mp hd).1
      rwa [enumD_len] at this
    obtain ⟨v,h1,h2⟩:=w.get (List.getElem?_eq_getElem hi)
    have:=(hy xs q).symm.trans h1
    cases this
    rw [enumD_get 0 ds i _ (List.getElem?_eq_getElem hi)] at hd
    cases hd
    refine new_tup (RDs.cons ?_ (RDs.cons h2 RDs.nil)) hp
    show V.int (i:Int) = V.int (0 + (i:Int))
    rw [Int.zero_add]
theorem si_enum {rd:Bool} {n:Str} {pn:Pos} {es:List Expr} {kk:Nat} {tpos:Pos} (hn:n = "enumerate") (hg:Gl X n) (hm:X.mg "enumerate" = none) (hp:plainX p = true) (ha:SR T cf X x p) (hv:rd = false → SE T cf X x p) :
    SI T cf X (.Tuple es kk tpos) (.enum x) rd (.Call (.Name n pn) [p] [] pos):=by
  intro H₀ O₀ pins s σ H R I h
  subst hn
  obtain ⟨O,own,e,ds,F,ev,k⟩:=h
  replace k:=k1_of k
  (first | rw [xI_seq] at ev | rw [xI_rng] at ev | rw [xI_rng2] at ev | rw [xI_enum] at ev | rw [xI_zip] at ev)
  obtain ⟨d1,e1,ev⟩:=Res.bind_ok ev
  have main:∀ {u:Value} {s1:Shared} {v:V} {H1:Hp},Inv X pins σ H1 s1 → RelV v u → Same H H1 → RR X.K H1 O d1 v → (rd = false → RD X.K H1 O d1 v) → wpAny (model X.prog X.w) X.A (call (.type "enumerate") [u]) (fun v s1=>wpAny (model X.prog X.w) X.A (pyIter v) (PIE X pins σ (.Tuple es kk tpos) R) X.xe s1) X.xe s1:=by
    intro u s1 v H1 I1 r1 s1' rr rv
    cases d1 with
    | lst dl =>
      cases ev
      obtain ⟨a,xs,e,q1,w1⟩:=rr.lst
      subst e
      cases r1
      obtain ⟨its,r',pl,hz⟩:=I1.list q1
      refine call_enumerate_list pl.isList fun h' he hit hz' hk=>?_
      refine wpAny_pyIter_enum he ?_
      have I2:Inv X pins σ H1 { s1 with heap:=h' }:=I1.kept (t':=s1.toks) hk
      refine ⟨s1.heap.objs.size + 1,[s1.heap.objs.size + 1,s1.heap.objs.size],_,Ite X.K a,H1,rfl,I2,turn_enum a _ _ (Nat.succ_ne_self _),⟨_,he,hit⟩,fun b hb=>?_,k _ H1 _ _ s1' rr rv wk_enum⟩
      rcases List.mem_cons.mp hb with rfl | hb
      · exact I1.fpOk (Nat.le_succ _) (I1.hok.fresh (Nat.le_succ _))
      · have e':b = s1.heap.objs.size:=by simpa using hb
        subst e'
        exact I1.fpOk (Nat.le_refl _) (I1.hok.fresh (Nat.le_refl _))
    | tup dl =>
      cases ev
      obtain ⟨a,xs,e,q1,w1⟩:=rr.tup
      subst e
      cases r1
      obtain ⟨its,r',pl,hz⟩:=I1.tuple q1
      refine call_enum_tup pl fun h' he hit hz' hk=>?_
      refine wpAny_pyIter_enum he ?_
      have I2:Inv X pins σ H1 { s1 with heap:=h' }:=I1.kept (t':=s1.toks) hk
      refine ⟨s1.heap.objs.size + 1,[s1.heap.objs.size + 1,s1.heap.objs.size],_,IteT X.K a,H1,rfl,I2,turn_enumT a _ _ (Nat.succ_ne_self _),⟨_,he,hit⟩,fun b hb=>?_,k _ H1 _ _ s1' rr rv wk_enumT⟩
      rcases List.mem_cons.mp hb with rfl | hb
      · exact I1.fpOk (Nat.le_succ _) (I1.hok.fresh (Nat.le_succ _))
      · have e':b = s1.heap.objs.size:=by simpa using hb
        subst e'
        exact I1.fpOk (Nat.le_refl _) (I1.hok.fresh (Nat.le_refl _))
    | non=>cases ev
    | bl _=>cases ev
    | int _=>cases ev
    | str _=>cases ev
    | dct _=>cases ev
    | tdc _=>cases ev
  cases rd with
  | true =>
    refine Call_ (ld_blt I hg hm PyProof.Rows.boot_enumerate (PyProof.Rows.callWith_type1 (thn (pa_cons (ha H₀ O₀) pa_nil (plain_star hp) pos pins s σ H (fun vs H1=>∃ v,vs = [v] ∧ Same H H1 ∧ RR X.K H1 O d1 v) I ⟨O,own,e,d1,F,e1,fun v H' s' r=>⟨v,rfl,s',r⟩⟩) fun us s1 ⟨vs,H1,I1,r1,v,ev1,s1',rr⟩=>?_) (plain_star hp) rfl))
    subst ev1
    obtain ⟨u,rfl,ru⟩:=vals1 r1
    exact main I1 ru s1' rr (fun z=>by cases z)
  | false =>
    refine Call_ (ld_blt I hg hm PyProof.Rows.boot_enumerate (PyProof.Rows.callWith_type1 (thn (pa_cons (hv rfl H₀ O₀) pa_nil (plain_star hp) pos pins s σ H (fun vs H1=>∃ v,vs = [v] ∧ Same H H1 ∧ RD X.K H1 O d1 v) I ⟨O,own,e,d1,F,e1,fun v H' s' r _=>⟨v,rfl,s',r⟩⟩) fun us s1 ⟨vs,H1,I1,r1,v,ev1,s1',rr⟩=>?_) (plain_star hp) rfl))
    subst ev1
    obtain ⟨u,rfl,ru⟩:=vals1 r1
    exact main I1 ru s1' rr.rr (fun _=>rr)
end
end Tr
namespace Tr
open PySem PySem.Spec PyProof.Rows L2
section
variable {K:PySem.W.Frag} {H₀ H H':Hp} {O₀ O O':Addr → Prop} {own:Nat → Option Addr} {e:Nv} {σ:L2.St}
theorem own_no {i:Nat} {p:Addr} (F:Fm K H₀ O₀ H O own e σ) (e1:own i = some p):(∀ j k a,(if j = i then none else own j) = some a → (if k = i then none else own k) = some a → j = k) ∧ (∀ j a,(if j = i then none else own j) = some a → own j = some a ∧ a ≠ p):=by
  have two:∀ j a,(if j = i then none else own j) = some a → own j = some a ∧ a ≠ p:=fun j a q1=>by
    by_cases h:j = i
    · rw [if_pos h] at q1;cases q1
    · rw [if_neg h] at q1
      exact ⟨q1,fun z=>h (F.inj j i p (z ▸ q1) e1)⟩
  exact ⟨fun j k a q1 q2=>F.inj j k a (two j a q1).1 (two k a q2).1,two⟩
theorem Fm.lookT (F:Fm K H₀ O₀ H O own e σ) (i:Nat) {ds:List D} (hi:e.at i = .t ds):∃ O' own',Fm K H₀ O₀ H O' own' (e.set i (.v (.tup ds))) σ:=by
  have q:=F.sl i
  rw [hi] at q
  obtain ⟨t,p,ys,vs,a,r,e1,e2,rfl,h1,h2,h3,h4⟩:=q
  have hn:=F.new i p e1
  have hlen:i < e.length:=by
    by_cases h:i < e.length
    · exact h
    · rw [at_out h] at hi;cases hi
  refine ⟨minus O p,fun j=>if j = i then none else own j,⟨by rw [List.length_set];exact F.len,fun j=>?_,(own_no F e1).1,F.same,fun a ha=>⟨F.sub a ha,fun z=>?_⟩,F.trk0,fun a ha=>F.trk a ha.1,fun j a q1=>?_⟩⟩
  · by_cases h:i = j
    · subst h
      rw [at_set_same hlen,e2]
      exact ⟨.ref t,rfl,t,_,rfl,h1,.ref p,vs,rfl,⟨p,ys,rfl,.inl ⟨fun z=>z.2 rfl,.inl h2⟩,h3.weak fun _ z=>z.1⟩,h4.weak fun _ z=>z.1⟩
    · rw [at_set_ne h,if_neg (Ne.symm h)]
      exact RS.map (fun q=>q.weak fun _ z=>z.1) (fun q=>q.weak fun _ z=>z.1) (fun q=>q.weak fun _ z=>z.1) (fun q=>q.weak fun _ z=>z.1) (fun a ys _ _ q=>q) (F.sl j)
  · obtain ⟨o,w⟩:=F.trk0 a ha
    rw [z,hn.2] at w;cases w
  · obtain ⟨q2,q3⟩:=(own_no F e1).2 j a q1
    exact ⟨⟨(F.new j a q2).1,q3⟩,(F.new j a q2).2⟩
theorem Fm.setT (F:Fm K H₀ O₀ H O own e σ) (s:Same H H') (i:Nat) {a r:List D} {t p:Addr} {ys vs:List V} (hp:H p = none) (h1:SqT K H' t (.ref p :: vs)) (h2:H' p = some (.lst ys)) (h3:RDs K H' (plus O p) a ys) (h4:RDs K H' (plus O p) r vs) :
    Fm K H₀ O₀ H' (plus O p) (fun j=>if j = i then some p else own j) (e.set i (.t (.lst a :: r))) (σ.set i (some (.ref t))) where
  len:=by rw [List.length_set,List.length_set];exact F.len
  sl:=fun j=>by
    by_cases h:i = j
    · subst h
      rw [if_pos rfl]
      by_cases hi:i < e.length
      · rw [at_set_same hi,st_set_same (by rw [← F.len];exact hi)];exact ⟨t,p,ys,vs,a,r,rfl,rfl,rfl,h1,h2,h3,h4⟩
      · rw [at_out (by rw [List.length_set];exact hi)];trivial
    · rw [at_set_ne h,st_set_ne h,if_neg (Ne.symm h)]
      exact RS.map (fun q=>(q.new hp).same s) (fun q=>(q.new hp).same s) (fun q=>(q.new hp).same s) (fun q=>(q.new hp).same s) (fun a u _ _ q=>s _ _ q) (F.sl j)
  inj:=fun j k a h1 h2=>by
    have no:∀ j,own j ≠ some p:=fun j q=>by
      obtain ⟨xs,w⟩:=F.trk p (F.new j p q).1
      rw [hp] at w;cases w
    by_cases h:j = i
    · rw [if_pos h] at h1
      cases h1
      by_cases h':k = i
      · rw [h,h']
      · rw [if_neg h'] at h2;exact absurd h2 (no k)
    · rw [if_neg h] at h1
      by_cases h':k = i
      · rw [if_pos h'] at h2;cases h2;exact absurd h1 (no j)
      · rw [if_neg h'] at h2;exact F.inj j k a h1 h2
  same:=F.same.trans s
  sub:=fun a h=>.inl (F.sub a h)
  trk0:=F.trk0
  trk:=fun a h=>by
    rcases h with h | h
    · obtain ⟨ys,q⟩:=F.trk a h
      exact ⟨ys,s _ _ q⟩
    · subst h
      exact ⟨_,h2⟩
  new:=fun j a h1=>by
    by_cases h:j = i
    · rw [if_pos h] at h1;cases h1;exact ⟨.inr rfl,F.same.free hp⟩
    · rw [if_neg h] at h1;exact ⟨.inl (F.new j a h1).1,(F.new j a h1).2⟩
theorem Fm.plusO (F:Fm K H₀ O₀ H O own e σ) (s:Same H H') {p:Addr} {o:HO} (hp:H p = none) (ho:H' p = some o):Fm K H₀ O₀ H' (plus O p) own e σ where
  len:=F.len
  sl:=fun j=>RS.map (fun q=>(q.new hp).same s) (fun q=>(q.new hp).same s) (fun q=>(q.new hp).same s) (fun q=>(q.new hp).same s) (fun a u _ _ q=>s _ _ q) (F.sl j)
  inj:=F.inj
  same:=F.same.trans s
  sub:=fun a h=>.inl (F.sub a h)
  trk0:=F.trk0
  trk:=fun a h=>by
    rcases h with h | h
    · obtain ⟨ys,q⟩:=F.trk a h
      exact ⟨ys,s _ _ q⟩
    · subst h
      exact ⟨_,ho⟩
  new:=fun j a h1=>⟨.inl (F.new j a h1).1,(F.new j a h1).2⟩
theorem Fm.killT (F:Fm K H₀ O₀ H O own e σ) (i:Nat) {ds:List D} (hi:e.at i = .t ds):∃ t p ys vs a r,ds = .lst a :: r ∧ stAt σ i = some (.ref t) ∧ SqT K H t (.ref p :: vs) ∧ H p = some (.lst ys) ∧ ys.length = a.length ∧ O p ∧
    ∀ H' zs,Same H H' → ∃ own',Fm K H₀ O₀ (upd H' p (.lst zs)) O own' (e.set i .no) σ:=by
  have q:=F.sl i
  rw [hi] at q
  obtain ⟨t,p,ys,vs,a,r,e1,e2,rfl,h1,h2,h3,h4⟩:=q
  have hn:=F.new i p e1
  refine ⟨t,p,ys,vs,a,r,rfl,e2,h1,h2,h3.length,hn.1,fun H' zs s=>?_⟩
  have G:=F.grow s
  have g2:=s _ _ h2
  refine ⟨fun j=>if j = i then none else own j,⟨by rw [List.length_set];exact F.len,fun j=>?_,(own_no F e1).1,fun b u hb=>?_,F.sub,F.trk0,fun b hb=>?_,fun j a q1=>F.new j a ((own_no F e1).2 j a q1).1⟩⟩
  · by_cases h:i = j
    · subst h
      by_cases hl:i < e.length
      · rw [at_set_same hl];trivial
      · rw [at_out (by rw [List.length_set];exact hl)];trivial
    · rw [at_set_ne h,if_neg (Ne.symm h)]
      refine RS.map (fun q=>q.upd hn.1 g2) (fun q=>q.upd hn.1 g2) (fun q=>q.updM hn.1 g2 trivial) (fun q=>q.updM hn.1 g2 trivial) (fun b u eb _ q=>?_) (G.sl j) (upd_map (K:=K) hn.1 g2 trivial).1
      have:b ≠ p:=fun z=>h (F.inj i j p e1 (z ▸ eb))
      rw [upd_ne this];exact q
  · rw [upd_ne (fun z=>by rw [z,hn.2] at hb;cases hb)];exact G.same b u hb
  · by_cases h:b = p
    · subst h;exact ⟨_,upd_same⟩
    · obtain ⟨ys,q⟩:=G.trk b hb
      exact ⟨ys,by rw [upd_ne h];exact q⟩
theorem flat_still {d:D} (h:d.flat = true):d.still = true:=by
  cases d with
  | lst _=>rw [D.flat] at h;cases h
  | dct _=>rw [D.flat] at h;cases h
  | tdc _=>rw [D.flat] at h;cases h
  | _=>rfl
end
section
variable {T:Tab} {cf:Nat → List D → Res D} {X:Cx} {x y z:E} {p q r tg:Expr} {pos pos':Pos} {es:List Expr}
theorem look_open {i:Nat} {e:Nv} {d:D} (ev:evE T cf (.look i x) e = .ok d):∃ ds,e.at i = .t ds ∧ evE T cf x (e.set i (.v (.tup ds))) = .ok d ∧ (d.flat || (freshE T x && d.flatL)) = true:=by
  (first | rw [xE_var] at ev | rw [xE_rd] at ev | rw [xE_con] at ev | rw [xE_glob] at ev | rw [xE_bin] at ev | rw [xE_cmp] at ev | rw [xE_chain] at ev | rw [xE_and] at ev | rw [xE_or] at ev | rw [xE_not] at ev | rw [xE_neg] at ev | rw [xE_ife] at ev | rw [xE_ix] at ev | rw [xE_sl] at ev | rw [xE_omit] at ev | rw [xE_tup] at ev | rw [xE_lst] at ev | rw [xE_call] at ev | rw [xE_callB] at ev | rw [xE_bt] at ev | rw [xE_isi] at ev | rw [xE_dnew] at ev | rw [xE_mth] at ev | rw [xE_callT] at ev | rw [xE_gidx] at ev | rw [xE_lset] at ev | rw [xE_maxd] at ev | rw [xE_lrng] at ev | rw [xE_sset] at ev | rw [xE_dnewT] at ev | rw [xE_getT] at ev | rw [xE_comp] at ev | rw [xE_look] at ev)
  obtain ⟨ds,e1,ev⟩:=Res.bind_ok ev
  obtain ⟨d',e2,ev⟩:=Res.bind_ok ev
  obtain ⟨c,ev⟩:=when_ok ev
  cases ev
  exact ⟨ds,Sl.ownP_ok e1,e2,c⟩
theorem se_look {i:Nat} (h:SE T cf X x p):SE T cf X (.look i x) p:=fun H₀ O₀=>by
  refine PE.imp (fun σ H Q hq=>?_) (h H₀ O₀)
  obtain ⟨O,own,e,d,F,ev,k⟩:=hq
  obtain ⟨ds,e1,e2,c⟩:=look_open ev
  obtain ⟨O',own',F'⟩:=F.lookT i e1
  refine ⟨O',own',_,d,F',e2,fun v H' s r n=>?_⟩
  rw [Bool.or_eq_true,Bool.and_eq_true] at c
  rcases c with c | ⟨c1,c2⟩
  · exact k v H' s (r.flat c) fun _=>NewL.still (flat_still c)
  · cases d with
    | lst zs =>
      have c2:D.flats zs = true:=c2
      obtain ⟨a,rfl,ha,xs,hx,hr⟩:=n c1 rfl
      have hO:¬ O a:=fun z=>by
        obtain ⟨o,w⟩:=F.trk a z
        rw [ha] at w;cases w
      exact k _ H' s ⟨a,xs,rfl,.inl ⟨hO,.inl hx⟩,hr.flat c2⟩ fun _ _=>⟨a,rfl,ha,xs,hx,hr.flat c2⟩
    | _=>cases c2
theorem tt_look {i:Nat} {H₀:Hp} {O₀:Addr → Prop} (σ:L2.St) (H:Hp) (Q:Bool → Hp → Prop) (h:tT T cf X.K H₀ O₀ (.look i x) σ H Q):tT T cf X.K H₀ O₀ x σ H Q:=by
  obtain ⟨O,own,e,d,b,F,ev,ht,k⟩:=h
  obtain ⟨ds,e1,e2,c⟩:=look_open ev
  obtain ⟨O',own',F'⟩:=F.lookT i e1
  exact ⟨O',own',_,d,b,F',e2,ht,k⟩
theorem st_look {i:Nat} (h:ST T cf X x p):ST T cf X (.look i x) p:=fun H₀ O₀=>PT.imp tt_look (h H₀ O₀)
theorem sw_look {i:Nat} (h:SW T cf X x p):SW T cf X (.look i x) p:=fun H₀ O₀=>by
  have h0:=h H₀ O₀
  unfold PW at h0 ⊢
  intros
  apply h0 <;> first | assumption | (apply tt_look;assumption)
theorem ss_asgT {i f:Nat} {n m:Str} {pm cpos:Pos} (hN:X.N.Nodup) (hi:X.N[i]? = some n) (hl:Loc X.env.scope n) (hf:X.fn n = true ∨ X.env.scope.names.lookup n = some .local) (hd:DefIs T cf X f m) (hg:Gl X m) (hdb:(m == ("__debug__" : Str)) = false) (hp:(p :: es).all plainX = true) (ha:SAv T cf X x (p :: es)) :
    SS T cf X (.asgT i (.call f x)) (.Assign [.Name n pos'] (.Call (.Name m pm) (p :: es) [] cpos) pos):=fun H₀ O₀=>by
  obtain ⟨k0,a0,fd,ps,Fk,hr,hm,hk,hb⟩:=hd
  rw [List.all_cons,Bool.and_eq_true] at hp
  refine PS.imp (fun D' σ H hq=>?_) (ps_set hN hi hl (pe_call Fk hr hg hm hk hb .nil passE0 (ha H₀ O₀) hdb (plain_star hp.1) (plain_any hp.2)) (swaps_no rfl) hf)
  obtain ⟨ts,e,out,⟨O,own,F,tt⟩,ev,k⟩:=hq
  (first | rw [xS_nil] at ev | rw [xS_cons] at ev | rw [xS_pass] at ev | rw [xS_ret] at ev | rw [xS_retO] at ev | rw [xS_retN] at ev | rw [xS_asg] at ev | rw [xS_asgO] at ev | rw [xS_sealed] at ev | rw [xS_ite] at ev | rw [xS_forS] at ev | rw [xS_whl] at ev | rw [xS_app] at ev | rw [xS_rev] at ev | rw [xS_dput] at ev | rw [xS_dputT] at ev | rw [xS_ext] at ev | rw [xS_never] at ev | rw [xS_asgP] at ev | rw [xS_appP] at ev | rw [xS_aug] at ev | rw [xS_lput] at ev | rw [xS_exp] at ev | rw [xS_ins] at ev | rw [xS_rais] at ev | rw [xS_asgT] at ev | rw [xS_appT] at ev | rw [xS_retT] at ev | rw [xS_brk] at ev | rw [xS_cnt] at ev)
  obtain ⟨d,e1,ev⟩:=Res.bind_ok ev
  (first | rw [xE_var] at e1 | rw [xE_rd] at e1 | rw [xE_con] at e1 | rw [xE_glob] at e1 | rw [xE_bin] at e1 | rw [xE_cmp] at e1 | rw [xE_chain] at e1 | rw [xE_and] at e1 | rw [xE_or] at e1 | rw [xE_not] at e1 | rw [xE_neg] at e1 | rw [xE_ife] at e1 | rw [xE_ix] at e1 | rw [xE_sl] at e1 | rw [xE_omit] at e1 | rw [xE_tup] at e1 | rw [xE_lst] at e1 | rw [xE_call] at e1 | rw [xE_callB] at e1 | rw [xE_bt] at e1 | rw [xE_isi] at e1 | rw [xE_dnew] at e1 | rw [xE_mth] at e1 | rw [xE_callT] at e1 | rw [xE_gidx] at e1 | rw [xE_lset] at e1 | rw [xE_maxd] at e1 | rw [xE_lrng] at e1 | rw [xE_sset] at e1 | rw [xE_dnewT] at e1 | rw [xE_getT] at e1 | rw [xE_comp] at e1 | rw [xE_look] at e1)
  obtain ⟨ds,e2,e3⟩:=Res.bind_ok e1
  split at ev
  · obtain ⟨c,ev⟩:=when_ok ev
    cases ev
    refine ⟨O,own,e,ds,F,e2,fun vs H1 s1 r1=>?_⟩
    dsimp only
    rw [List.append_nil]
    refine ⟨O,ds,(F.grow s1).trk,r1,.inl ⟨_,e3,fun v H' s2 r2 n2=>?_⟩⟩
    obtain ⟨t,p,ys,vs,rfl,h1,h2,h3,h4,h5⟩:=(n2 c).2 _ _ rfl
    have h2':H p = none:=s1.free h2
    exact k _ H' ⟨_,_,F.setT (s1.trans s2) i h2' h1 h3 h4 h5,fun t ht=>((tt t ht).new h2').same (s1.trans s2)⟩
  · cases ev
theorem ss_appT {i:Nat} {n nm:Str} {c:Const} {kk:Nat} {px kpos spos apos cpos:Pos} (hN:X.N[i]? = some n) (hv:Vis X.env.scope n) (hd:(n == ("__debug__" : Str)) = false) (hc:(n == ("__classdict__" : Str)) = false) (h0:cstIs (.int 0) c = true) (hnm:nm = "append") (hline:(apos.endLine == cpos.line) = true) (hp:plainX p = true) (h:SE T cf X x p) :
    SS T cf X (.appT i x) (.Expr (.Call (.Attribute (.Subscript (.Name n px) (.Constant c kk kpos) spos) nm apos) [p] [] cpos) pos):=fun H₀ O₀=>by
  subst hnm
  have ec:c = .int 0:=by
    cases c with
    | int j=>rw [← (eq_of_beq (show ((0:Int) == j) = true from h0))]
    | _=>cases h0
  subst ec
  refine PS.imp (fun D' σ H hq=>?_) (ps_expr (pe_bm PySem.F.plainAttrs_list PySem.F.slot_list_append PySem.F.type_list_append mt_append (pe_ix ix_tup (pe_var hN hv hd hc) pe_int (plain_ix rfl)) (pa_cons (h H₀ O₀) pa_nil (plain_star hp)) rfl (by rw [plain_star hp];rfl) hline (plain_star hp) rfl) rfl)
  obtain ⟨ts,e,out,⟨O,own,F,tt⟩,ev,k⟩:=hq
  (first | rw [xS_nil] at ev | rw [xS_cons] at ev | rw [xS_pass] at ev | rw [xS_ret] at ev | rw [xS_retO] at ev | rw [xS_retN] at ev | rw [xS_asg] at ev | rw [xS_asgO] at ev | rw [xS_sealed] at ev | rw [xS_ite] at ev | rw [xS_forS] at ev | rw [xS_whl] at ev | rw [xS_app] at ev | rw [xS_rev] at ev | rw [xS_dput] at ev | rw [xS_dputT] at ev | rw [xS_ext] at ev | rw [xS_never] at ev | rw [xS_asgP] at ev | rw [xS_appP] at ev | rw [xS_aug] at ev | rw [xS_lput] at ev | rw [xS_exp] at ev | rw [xS_ins] at ev | rw [xS_rais] at ev | rw [xS_asgT] at ev | rw [xS_appT] at ev | rw [xS_retT] at ev | rw [xS_brk] at ev | rw [xS_cnt] at ev)
  obtain ⟨d,e1,ev⟩:=Res.bind_ok ev
  obtain ⟨l,e2,ev⟩:=Res.bind_ok ev
  obtain ⟨t,p1,ys,vs,a,r,rfl,f1,f2,f3,f4,f5,f6⟩:=F.killT i (Sl.ownP_ok e2)
  obtain ⟨c,ev⟩:=when_ok ev
  cases ev
  have f7:L2.atI (V.ref p1 :: vs) 0 = some (V.ref p1):=by
    unfold L2.atI L2.ixN
    rw [if_pos (by decide),if_pos (by rw [List.length_cons];(first | lia | omega))];rfl
  refine ⟨.ref t,st_get f1,t,_,0,.ref p1,rfl,rfl,f2,f7,.inl ⟨rfl,ys,.of f3⟩,O,own,e,d,F,e1,fun v H' s' r _=>?_⟩
  obtain ⟨own',F'⟩:=f6 H' (ys ++ [v]) s'
  refine ⟨p1,ys,v,rfl,rfl,s' _ _ f3,by rw [f4,← big_line];exact of_decide_eq_true c,?_⟩
  exact k _ _ ⟨O,own',F',fun t ht=>((tt t ht).same s').upd f5 (s' _ _ f3)⟩
theorem ss_retT {k:Nat} {tpos:Pos} (hp:plainX p = true) (hq:plainX q = true) (hx:SE T cf X x p) (hy:SE T cf X y q):SS T cf X (.retT x y) (.Return (some (.Tuple [p,q] k tpos)) pos):=fun H₀ O₀=>by
  refine PS.imp (fun D' σ H hq=>?_) (ps_ret (pe_tup (pa_cons (hx H₀ O₀) (pa_cons (hy H₀ O₀) pa_nil (plain_star hq)) (plain_star hp))))
  obtain ⟨ts,e,out,⟨O,own,F,tt⟩,ev,kk⟩:=hq
  (first | rw [xS_nil] at ev | rw [xS_cons] at ev | rw [xS_pass] at ev | rw [xS_ret] at ev | rw [xS_retO] at ev | rw [xS_retN] at ev | rw [xS_asg] at ev | rw [xS_asgO] at ev | rw [xS_sealed] at ev | rw [xS_ite] at ev | rw [xS_forS] at ev | rw [xS_whl] at ev | rw [xS_app] at ev | rw [xS_rev] at ev | rw [xS_dput] at ev | rw [xS_dputT] at ev | rw [xS_ext] at ev | rw [xS_never] at ev | rw [xS_asgP] at ev | rw [xS_appP] at ev | rw [xS_aug] at ev | rw [xS_lput] at ev | rw [xS_exp] at ev | rw [xS_ins] at ev | rw [xS_rais] at ev | rw [xS_asgT] at ev | rw [xS_appT] at ev | rw [xS_retT] at ev | rw [xS_brk] at ev | rw [xS_cnt] at ev)
  obtain ⟨d1,e1,ev⟩:=Res.bind_ok ev
  split at ev
  · obtain ⟨d2,e2,ev⟩:=Res.bind_ok ev
    obtain ⟨c,ev⟩:=when_ok ev
    cases ev
    refine ⟨O,own,e,_,F,e1,fun v1 H1 s1 r1 n1=>?_⟩
    obtain ⟨p1,rfl,hp1,ys,hy1,hy2⟩:=n1 c rfl
    refine ⟨plus O p1,own,e,d2,F.plusO s1 hp1 hy1,e2,fun v2 H2 s2 r2 _=>?_⟩
    have up:∀ b,plus O₀ p1 b → plus O p1 b:=fun b hb=>hb.imp (F.sub b) id
    refine ⟨by show 2 ≤ sizeLine;decide,fun t ht=>?_⟩
    refine kk (.ref t) _ (F.same.trans (s1.trans (s2.trans (same_upd ht _)))) ?_ fun _=>⟨NewL.still rfl,fun a' r' z=>?_⟩
    · exact new_tup (RDs.cons ((r1.same s2).weak F.sub) (RDs.cons (r2.weak fun b hb=>.inl (F.sub b hb)) RDs.nil)) ht
    · cases z
      refine ⟨t,p1,ys,[v2],rfl,.of upd_same,F.same.free hp1,same_upd ht _ _ _ (s2 _ _ hy1),((hy2.same s2).same (same_upd ht _)).weak up,?_⟩
      exact RDs.cons ((r2.same (same_upd ht _)).weak up) RDs.nil
  · cases ev
end
end Tr
namespace Tr
open PySem PySem.Spec PyProof.Rows L2
set_option genInjectivity false in
structure Txt where
  gn:List Str
  dn:List Str
  tf:List (Str × List Nat):=[]
  ts:List (Str × List Str):=[]
  cls:List Str:=[]
noncomputable def nodupB {α:Type} [BEq α]:List α → Bool
  | []=>true
  | a :: r=>!r.contains a && nodupB r
theorem nodup_of {α:Type} [BEq α] [LawfulBEq α]:∀ {l:List α},nodupB l = true → l.Nodup
  | [],_=>List.nodup_nil
  | a :: r,h=>by
    rw [nodupB,Bool.and_eq_true] at h
    refine List.nodup_cons.mpr ⟨fun m=>?_,nodup_of h.2⟩
    have:r.contains a = true:=List.contains_iff_mem.mpr m
    rw [this] at h
    exact absurd h.1 (by simp)
noncomputable def isRd:E → Bool
  | .rd _=>true
  | _=>false
noncomputable def visB (sc:Scope) (n:Str):Bool:=(sc.names.lookup n == some .local) || (sc.names.lookup n == some .cell) || (sc.names.lookup n == some .free)
noncomputable def glB (sc:Scope) (n:Str):Bool:=sc.names.lookup n == some .globalImplicit
noncomputable def dbgB (n:Str):Bool:=!(n == ("__debug__" : Str)) && !(n == ("__classdict__" : Str))
noncomputable def nameB (N:List Str) (sc:Scope) (i:Nat) (n:Str):Bool:=(N[i]? == some n) && visB sc n && dbgB n
noncomputable def relS (scope sc:Scope):Scope:={ scope with names:=scope.names.map fun (n,k)=>if (k == .free && sc.kind == .function && sc.names.lookup n == some .cell) then (n,.cell) else (n,k) }
noncomputable def tgNames:Expr → List Str
  | .Name n _=>[n]
  | .Tuple es _ _=>es.filterMap fun | .Name n _=>some n | _=>none
  | _=>[]
noncomputable def mGs (loc:Bool) (N:List Str) (sc:Scope):List Nat → List Expr → Bool
  | [],[]=>true
  | i :: is,.Name n _ :: es=>(N[i]? == some n) && ((sc.names.lookup n == some .local) || (!loc && sc.names.lookup n == some .cell)) && mGs loc N sc is es
  | _,_=>false
noncomputable def mG (loc:Bool) (N:List Str) (sc:Scope):G → Expr → Bool
  | .one i,.Name n _=>(N[i]? == some n) && ((sc.names.lookup n == some .local) || (!loc && sc.names.lookup n == some .cell))
  | .many is,.Tuple es _ _=>mGs loc N sc is es
  | _,_=>false
noncomputable def scB (sc scope:Scope):Bool:=(scope.kind == .function) && scope.names.all (fun x=>!(x.2 == .cell)) && scope.names.all (fun x=>!(x.2 == .local) || (scope.names.lookup x.1 == some .local)) &&
  scope.names.all (fun x=>!(x.2 == .free) || (!(scope.names.lookup x.1 == some .local) && ((sc.names.lookup x.1 == some .cell) || (sc.names.lookup x.1 == some .free))))
noncomputable def capNames (N:List Str) (caps:List Nat):List Str:=caps.map fun i=>(N[i]?).getD ""
noncomputable def capB (N:List Str) (scope:Scope) (caps:List Nat):Bool:=caps.all fun i=>match N[i]? with | some n=>scope.names.contains (n,.free) | none=>false
noncomputable def isTrueC:E → Bool
  | .con (.bl true)=>true
  | _=>false
noncomputable def isOmit:E → Bool
  | .omit=>true
  | _=>false
noncomputable def isTupX:Expr → Bool
  | .Tuple _ _ _=>true
  | _=>false
section
variable (Tx:Txt)
mutual
noncomputable def mE:E → List Str → Scope → Expr → Bool
  | .var i,N,sc,.Name n _=>nameB N sc i n
  | .rd i,N,sc,.Name n _=>nameB N sc i n
  | .con d,_,_,.Constant c _ _=>cstIs d c
  | .glob g,_,sc,.Name n _=>(Tx.gn[g]? == some n) && glB sc n && dbgB n
  | .bin o a b,N,sc,.BinOp l o' r _=>(o == o') && mE a N sc l && mE b N sc r
  | .cmp o a b,N,sc,.Compare l [o'] [r] _=>(o == o') && mE a N sc l && mE b N sc r
  | .chain o p a b c,N,sc,.Compare l [o',p'] [m,r] _=>(o == o') && (p == p') && mE a N sc l && mE b N sc m && mE c N sc r
  | .neg a,N,sc,.UnaryOp .USub l _=>mE a N sc l
  | .and a b,N,sc,.BoolOp .And [l,r] _=>!isRd a && !isRd b && mE a N sc l && mE b N sc r
  | .and a b,N,sc,.BoolOp .And (l :: r :: r' :: rest) pos=>!isRd a && !isRd b && mE a N sc l && mE b N sc (.BoolOp .And (r :: r' :: rest) pos)
  | .or a b,N,sc,.BoolOp .Or [l,r] _=>!isRd a && !isRd b && mE a N sc l && mE b N sc r
  | .or a b,N,sc,.BoolOp .Or (l :: r :: r' :: rest) pos=>!isRd a && !isRd b && mE a N sc l && mE b N sc (.BoolOp .Or (r :: r' :: rest) pos)
  | .not a,N,sc,.UnaryOp .Not l _=>mE a N sc l
  | .ix a b,N,sc,.Subscript l r _=>mE a N sc l && mE b N sc r
  | .sl a lo hi,N,sc,.Subscript l (.Slice p q none _) _=>mE a N sc l && (match p with | none=>isOmit lo | some p'=>!isRd lo && mE lo N sc p') && (match q with | none=>isOmit hi | some q'=>!isRd hi && mE hi N sc q')
  | .tup a,N,sc,.Tuple es _ _=>mA a false N sc es
  | .lst a,N,sc,.List es _=>mA a false N sc es
  | .call f a,N,sc,.Call (.Name n _) es [] _=>(Tx.dn[f]? == some n) && glB sc n && dbgB n && mA a false N sc es
  | .bt b a,N,sc,.Call (.Name n _) (e :: es) [] _=>b.use && (n == b.nm) && glB sc n && mA a true N sc (e :: es)
  | .lset a,N,sc,.Call (.Name n _) [.Call (.Name m _) [q] [] _] [] _=>(n == "len") && (m == "set") && glB sc n && glB sc m && mE a N sc q
  | .look _ a,N,sc,p=>notComp p && !isRd a && mE a N sc p
  | .isi a t,N,sc,.Call (.Name n _) [l,.Name m _] [] _=>(n == "isinstance") && (m == Str.ofString t.nm) && glB sc n && glB sc m && mE a N sc l
  | .comp own caps g elt src cond,N,sc,.ListComp pe [⟨tg,iter,ifs,isa⟩] scope _ =>
    (isa == 0) && scB sc scope && capB N scope caps && nodupB caps && nodupB (tgNames tg ++ capNames N caps) && (own == (tgNames tg).length) && g.below own && mG true (tgNames tg ++ capNames N caps) (relS scope sc) g tg &&
    mI src true N sc tg iter && !isRd elt && mE elt (tgNames tg ++ capNames N caps) (relS scope sc) pe &&
    (match ifs with
      | []=>isTrueC cond
      | [c]=>mE cond (tgNames tg ++ capNames N caps) (relS scope sc) c
      | _=>false)
  | _,_,_,_=>false
termination_by structural x=>x
noncomputable def mA:E → Bool → List Str → Scope → List Expr → Bool
  | .anil,_,_,_,[]=>true
  | .acons a r,rd,N,sc,p :: ps=>(rd || !isRd a) && mE a N sc p && mA r rd N sc ps
  | _,_,_,_,_=>false
termination_by structural x=>x
noncomputable def mI:E → Bool → List Str → Scope → Expr → Expr → Bool
  | .seq a,rd,N,sc,_,p=>(rd || !isRd a) && mE a N sc p
  | .rng a,_,N,sc,_,.Call (.Name n _) [p] [] _=>(n == "range") && glB sc n && !isRd a && mE a N sc p
  | .rng2 a b,_,N,sc,_,.Call (.Name n _) [p,q] [] _=>(n == "range") && glB sc n && !isRd a && !isRd b && mE a N sc p && mE b N sc q
  | .enum a,rd,N,sc,tg,.Call (.Name n _) [p] [] _=>(n == "enumerate") && glB sc n && isTupX tg && (rd || !isRd a) && mE a N sc p
  | _,_,_,_,_,_=>false
termination_by structural x=>x
end
end
end Tr
namespace Tr
open PySem PySem.Spec PyProof.Rows L2
section
variable {Tx:Txt} {N:List Str} {sc:Scope} {p tg:Expr}
theorem nof {P:Prop} (h:false = true):P:=absurd h Bool.false_ne_true
theorem and2 {a b:Bool} (h:(a && b) = true):a = true ∧ b = true:=by rw [Bool.and_eq_true] at h;exact h
theorem not1 {a:Bool} (h:(!a) = true):a = false:=by rw [Bool.not_eq_true'] at h;exact h
theorem beq1 {α:Type} [BEq α] [LawfulBEq α] {a b:α} (h:(a == b) = true):a = b:=eq_of_beq h
theorem i_var {i:Nat} (h:mE Tx (.var i) N sc p = true):∃ n pos,p = .Name n pos ∧ nameB N sc i n = true:=by
  cases p <;> first | exact nof h | exact ⟨_,_,rfl,h⟩
theorem i_rd {i:Nat} (h:mE Tx (.rd i) N sc p = true):∃ n pos,p = .Name n pos ∧ nameB N sc i n = true:=by
  cases p <;> first | exact nof h | exact ⟨_,_,rfl,h⟩
theorem i_con {d:D} (h:mE Tx (.con d) N sc p = true):∃ c k pos,p = .Constant c k pos ∧ cstIs d c = true:=by
  cases p <;> first | exact nof h | exact ⟨_,_,_,rfl,h⟩
theorem i_glob {g:Nat} (h:mE Tx (.glob g) N sc p = true):∃ n pos,p = .Name n pos ∧ (Tx.gn[g]? == some n && glB sc n && dbgB n) = true:=by
  cases p <;> first | exact nof h | exact ⟨_,_,rfl,h⟩
theorem i_bin {o:Operator} {a b:E} (h:mE Tx (.bin o a b) N sc p = true):∃ l r pos,p = .BinOp l o r pos ∧ mE Tx a N sc l = true ∧ mE Tx b N sc r = true:=by
  cases p with
  | BinOp l o' r pos =>
    have h:=and2 (show ((o == o') && mE Tx a N sc l && mE Tx b N sc r) = true from h)
    have h1:=and2 h.1
    have e:o = o':=beq1 h1.1
    subst e
    exact ⟨l,r,pos,rfl,h1.2,h.2⟩
  | _=>exact nof h
theorem i_cmp {o:CmpOp} {a b:E} (h:mE Tx (.cmp o a b) N sc p = true):∃ l r pos,p = .Compare l [o] [r] pos ∧ mE Tx a N sc l = true ∧ mE Tx b N sc r = true:=by
  cases p with
  | Compare l os rs pos =>
    rcases os with _ | ⟨o',_ | ⟨o'',os⟩⟩
    · exact nof h
    · rcases rs with _ | ⟨r,_ | ⟨r',rs⟩⟩
      · exact nof h
      · have h:=and2 (show ((o == o') && mE Tx a N sc l && mE Tx b N sc r) = true from h)
        have h1:=and2 h.1
        have e:o = o':=beq1 h1.1
        subst e
        exact ⟨l,r,pos,rfl,h1.2,h.2⟩
      · exact nof h
    · exact nof h
  | _=>exact nof h
theorem i_chain {o o':CmpOp} {a b c:E} (h:mE Tx (.chain o o' a b c) N sc p = true):∃ l m r pos,p = .Compare l [o,o'] [m,r] pos ∧ mE Tx a N sc l = true ∧ mE Tx b N sc m = true ∧ mE Tx c N sc r = true:=by
  cases p with
  | Compare l os rs pos =>
    rcases os with _ | ⟨p1,_ | ⟨p2,_ | ⟨p3,os⟩⟩⟩
    · exact nof h
    · exact nof h
    · rcases rs with _ | ⟨r1,_ | ⟨r2,_ | ⟨r3,rs⟩⟩⟩
      · exact nof h
      · exact nof h
      · have h:=and2 (show ((o == p1) && (o' == p2) && mE Tx a N sc l && mE Tx b N sc r1 && mE Tx c N sc r2) = true from h)
        have h1:=and2 h.1
        have h2:=and2 h1.1
        have h3:=and2 h2.1
        have e:o = p1:=beq1 h3.1
        have e2:o' = p2:=beq1 h3.2
        subst e e2
        exact ⟨l,r1,r2,pos,rfl,h2.2,h1.2,h.2⟩
      · exact nof h
    · exact nof h
  | _=>exact nof h
theorem i_neg {a:E} (h:mE Tx (.neg a) N sc p = true):∃ l pos,p = .UnaryOp .USub l pos ∧ mE Tx a N sc l = true:=by
  cases p with
  | UnaryOp op l pos=>cases op <;> first | exact nof h | exact ⟨_,_,rfl,h⟩
  | _=>exact nof h
theorem i_and {a b:E} (h:mE Tx (.and a b) N sc p = true):∃ l r rest pos,p = .BoolOp .And (l :: r :: rest) pos ∧ isRd a = false ∧ isRd b = false ∧ mE Tx a N sc l = true ∧ ((rest = [] ∧ mE Tx b N sc r = true) ∨ (∃ r' rs,rest = r' :: rs ∧ mE Tx b N sc (.BoolOp .And (r :: rest) pos) = true)):=by
  cases p with
  | BoolOp op vs pos =>
    cases op with
    | Or=>exact nof h
    | And =>
      rcases vs with _ | ⟨l,_ | ⟨r,_ | ⟨r',rest⟩⟩⟩
      · exact nof h
      · exact nof h
      · have h:=and2 (show (!isRd a && !isRd b && mE Tx a N sc l && mE Tx b N sc r) = true from h)
        have h1:=and2 h.1
        have h2:=and2 h1.1
        exact ⟨l,r,[],pos,rfl,not1 h2.1,not1 h2.2,h1.2,.inl ⟨rfl,h.2⟩⟩
      · have h:=and2 (show (!isRd a && !isRd b && mE Tx a N sc l && mE Tx b N sc (.BoolOp .And (r :: r' :: rest) pos)) = true from h)
        have h1:=and2 h.1
        have h2:=and2 h1.1
        exact ⟨l,r,r' :: rest,pos,rfl,not1 h2.1,not1 h2.2,h1.2,.inr ⟨r',rest,rfl,h.2⟩⟩
  | _=>exact nof h
theorem i_or {a b:E} (h:mE Tx (.or a b) N sc p = true):∃ l r rest pos,p = .BoolOp .Or (l :: r :: rest) pos ∧ isRd a = false ∧ isRd b = false ∧ mE Tx a N sc l = true ∧ ((rest = [] ∧ mE Tx b N sc r = true) ∨ (∃ r' rs,rest = r' :: rs ∧ mE Tx b N sc (.BoolOp .Or (r :: rest) pos) = true)):=by
  cases p with
  | BoolOp op vs pos =>
    cases op with
    | And=>exact nof h
    | Or =>
      rcases vs with _ | ⟨l,_ | ⟨r,_ | ⟨r',rest⟩⟩⟩
      · exact nof h
      · exact nof h
      · have h:=and2 (show (!isRd a && !isRd b && mE Tx a N sc l && mE Tx b N sc r) = true from h)
        have h1:=and2 h.1
        have h2:=and2 h1.1
        exact ⟨l,r,[],pos,rfl,not1 h2.1,not1 h2.2,h1.2,.inl ⟨rfl,h.2⟩⟩
      · have h:=and2 (show (!isRd a && !isRd b && mE Tx a N sc l && mE Tx b N sc (.BoolOp .Or (r :: r' :: rest) pos)) = true from h)
        have h1:=and2 h.1
        have h2:=and2 h1.1
        exact ⟨l,r,r' :: rest,pos,rfl,not1 h2.1,not1 h2.2,h1.2,.inr ⟨r',rest,rfl,h.2⟩⟩
  | _=>exact nof h
theorem i_not {a:E} (h:mE Tx (.not a) N sc p = true):∃ l pos,p = .UnaryOp .Not l pos ∧ mE Tx a N sc l = true:=by
  cases p with
  | UnaryOp op l pos=>cases op <;> first | exact nof h | exact ⟨_,_,rfl,h⟩
  | _=>exact nof h
theorem i_ix {a b:E} (h:mE Tx (.ix a b) N sc p = true):∃ l r pos,p = .Subscript l r pos ∧ mE Tx a N sc l = true ∧ mE Tx b N sc r = true:=by
  cases p with
  | Subscript l r pos =>
    have h:=and2 (show (mE Tx a N sc l && mE Tx b N sc r) = true from h)
    exact ⟨l,r,pos,rfl,h.1,h.2⟩
  | _=>exact nof h
theorem i_sl {a lo hi:E} (h:mE Tx (.sl a lo hi) N sc p = true):∃ l pl ph pos pos',p = .Subscript l (.Slice pl ph none pos') pos ∧ mE Tx a N sc l = true ∧ ((pl = none ∧ isOmit lo = true) ∨ ∃ q,pl = some q ∧ isRd lo = false ∧ mE Tx lo N sc q = true) ∧ ((ph = none ∧ isOmit hi = true) ∨ ∃ q,ph = some q ∧ isRd hi = false ∧ mE Tx hi N sc q = true):=by
  cases p with
  | Subscript l r pos =>
    cases r with
    | Slice pl ph st pos' =>
      cases st with
      | some _=>exact nof h
      | none =>
        refine ⟨l,pl,ph,pos,pos',rfl,?_⟩
        cases pl with
        | none =>
          cases ph with
          | none =>
            have h:=and2 (show (mE Tx a N sc l && isOmit lo && isOmit hi) = true from h)
            exact ⟨(and2 h.1).1,.inl ⟨rfl,(and2 h.1).2⟩,.inl ⟨rfl,h.2⟩⟩
          | some q =>
            have h:=and2 (show (mE Tx a N sc l && isOmit lo && (!isRd hi && mE Tx hi N sc q)) = true from h)
            exact ⟨(and2 h.1).1,.inl ⟨rfl,(and2 h.1).2⟩,.inr ⟨q,rfl,not1 (and2 h.2).1,(and2 h.2).2⟩⟩
        | some q0 =>
          cases ph with
          | none =>
            have h:=and2 (show (mE Tx a N sc l && (!isRd lo && mE Tx lo N sc q0) && isOmit hi) = true from h)
            exact ⟨(and2 h.1).1,.inr ⟨q0,rfl,not1 (and2 (and2 h.1).2).1,(and2 (and2 h.1).2).2⟩,.inl ⟨rfl,h.2⟩⟩
          | some q =>
            have h:=and2 (show (mE Tx a N sc l && (!isRd lo && mE Tx lo N sc q0) && (!isRd hi && mE Tx hi N sc q)) = true from h)
            exact ⟨(and2 h.1).1,.inr ⟨q0,rfl,not1 (and2 (and2 h.1).2).1,(and2 (and2 h.1).2).2⟩,.inr ⟨q,rfl,not1 (and2 h.2).1,(and2 h.2).2⟩⟩
    | _=>exact nof h
  | _=>exact nof h
theorem i_tup {a:E} (h:mE Tx (.tup a) N sc p = true):∃ es k pos,p = .Tuple es k pos ∧ mA Tx a false N sc es = true:=by
  cases p <;> first | exact nof h | exact ⟨_,_,_,rfl,h⟩
theorem i_lst {a:E} (h:mE Tx (.lst a) N sc p = true):∃ es pos,p = .List es pos ∧ mA Tx a false N sc es = true:=by
  cases p <;> first | exact nof h | exact ⟨_,_,rfl,h⟩
theorem i_call {f:Nat} {a:E} (h:mE Tx (.call f a) N sc p = true):∃ n pn es pos,p = .Call (.Name n pn) es [] pos ∧ (Tx.dn[f]? == some n && glB sc n && dbgB n && mA Tx a false N sc es) = true:=by
  cases p with
  | Call fn es ks pos =>
    cases fn with
    | Name n pn=>cases ks with
      | nil=>exact ⟨n,pn,es,pos,rfl,h⟩
      | cons _ _=>exact nof h
    | _=>exact nof h
  | _=>exact nof h
theorem i_bt {b:Bt} {a:E} (h:mE Tx (.bt b a) N sc p = true):∃ n pn e es pos,p = .Call (.Name n pn) (e :: es) [] pos ∧ (b.use && (n == b.nm) && glB sc n && mA Tx a true N sc (e :: es)) = true:=by
  cases p with
  | Call fn es ks pos =>
    cases fn with
    | Name n pn=>cases es with
      | nil=>exact nof h
      | cons e es=>cases ks with
        | nil=>exact ⟨n,pn,e,es,pos,rfl,h⟩
        | cons _ _=>exact nof h
    | _=>exact nof h
  | _=>exact nof h
theorem i_lset {a:E} (h:mE Tx (.lset a) N sc p = true):∃ n pn m pm q pos2 pos,p = .Call (.Name n pn) [.Call (.Name m pm) [q] [] pos2] [] pos ∧ ((n == "len") && (m == "set") && glB sc n && glB sc m && mE Tx a N sc q) = true:=by
  cases p with
  | Call fn es ks pos =>
    cases fn with
    | Name n pn =>
      rcases es with _ | ⟨c,_ | ⟨c',es⟩⟩
      · exact nof h
      · cases c with
        | Call f2 es2 ks2 pos2=>cases f2 with
          | Name m pm =>
            rcases es2 with _ | ⟨q,_ | ⟨q',es2⟩⟩
            · exact nof h
            · cases ks2 with
              | nil=>cases ks with
                | nil=>exact ⟨n,pn,m,pm,q,pos2,pos,rfl,h⟩
                | cons _ _=>exact nof h
              | cons _ _=>exact nof h
            · exact nof h
          | _=>exact nof h
        | _=>exact nof h
      · exfalso
        cases c with
        | Call f2 es2 ks2 pos2 =>
          cases f2 <;> first | exact nof h | (rcases es2 with _ | ⟨q,_ | ⟨q',es2⟩⟩ <;> first | exact nof h | (cases ks2 <;> exact nof h))
        | _=>exact nof h
    | _=>exact nof h
  | _=>exact nof h
theorem i_isi {a:E} {t:Ty} (h:mE Tx (.isi a t) N sc p = true):∃ n pn l m pm pos,p = .Call (.Name n pn) [l,.Name m pm] [] pos ∧ ((n == "isinstance") && (m == Str.ofString t.nm) && glB sc n && glB sc m && mE Tx a N sc l) = true:=by
  cases p with
  | Call fn es ks pos =>
    cases fn with
    | Name n pn =>
      rcases es with _ | ⟨l,_ | ⟨m,_ | ⟨m',es⟩⟩⟩
      · exact nof h
      · exact nof h
      · cases m with
        | Name m pm=>cases ks with
          | nil=>exact ⟨n,pn,l,m,pm,pos,rfl,h⟩
          | cons _ _=>exact nof h
        | _=>exact nof h
      · cases m <;> exact nof h
    | _=>exact nof h
  | _=>exact nof h
end
end Tr
namespace Tr
open PySem PySem.Spec PyProof.Rows L2
noncomputable def bltNames:List Str:=["len", "sum", "tuple", "list", "int", "str", "isinstance", "range", "enumerate", "bool", "abs", "min", "max", "all", "any", "set", "zip", "sorted"]
set_option genInjectivity false in
structure OkX (T:Tab) (cf:Nat → List D → Res D) (Tx:Txt) (X:Cx):Prop where
  calm:X.calm = true
  roomy:Roomy X
  defs:∀ f n,Tx.dn[f]? = some n → DefIs T cf X f n
  globs:∀ g n,Tx.gn[g]? = some n → GlobIs X n (T.glob g)
  blt:∀ n ∈ bltNames,X.mg n = none
  nd:X.N.Nodup
  tf:∀ q ∈ Tx.tf,TabF T cf X q.1 q.2
  ts:∀ q ∈ Tx.ts,TabS X q.1 q.2
section
variable {T:Tab} {cf:Nat → List D → Res D} {Tx:Txt} {X:Cx}
theorem name_of {i:Nat} {n:Str} {N:List Str} {sc:Scope} (h:nameB N sc i n = true):N[i]? = some n ∧ Vis sc n ∧ (n == ("__debug__" : Str)) = false ∧ (n == ("__classdict__" : Str)) = false:=by
  simp only [nameB,visB,dbgB,Bool.and_eq_true,Bool.or_eq_true,Bool.not_eq_true',beq_iff_eq] at h
  refine ⟨h.1.1,?_,h.2.1,h.2.2⟩
  rcases h.1.2 with (z | z) | z
  · exact .inl z
  · exact .inr (.inl z)
  · exact .inr (.inr z)
theorem gl_of {n:Str} (h:glB X.env.scope n = true):Gl X n:=by
  have h':X.env.scope.names.lookup n = some .globalImplicit:=by simpa [glB] using h
  exact h'
noncomputable def isBoolX:Expr → Bool
  | .BoolOp _ _ _=>true
  | _=>false
theorem dbg_of {n:Str} (h:dbgB n = true):(n == ("__debug__" : Str)) = false:=by
  simp only [dbgB,Bool.and_eq_true,Bool.not_eq_true'] at h
  exact h.1
theorem sgs_of {loc:Bool} (hN:X.N.Nodup) (hf:∀ n,loc = false → X.fn n = true):∀ {is:List Nat} {es:List Expr},mGs loc X.N X.env.scope is es = true → SGs X is es ∧ names1 es = true ∧ es.length = is.length
  | [],[],_=>⟨sgs_nil,rfl,rfl⟩
  | [],_ :: _,h=>by exact nof h
  | _ :: _,[],h=>by exact nof h
  | i :: is,e :: es,h=>by
    cases e with
    | Name n pos =>
      simp only [mGs,Bool.and_eq_true,Bool.or_eq_true,beq_iff_eq,Bool.not_eq_true'] at h
      obtain ⟨⟨h1,h2⟩,h3⟩:=h
      obtain ⟨a1,a2,a3⟩:=sgs_of hN hf h3
      refine ⟨sgs_cons hN h1 ?_ ?_ a1,a2,by rw [List.length_cons,List.length_cons,a3]⟩
      · rcases h2 with z | z
        · exact .inl z
        · exact .inr z.2
      · rcases h2 with z | z
        · exact .inr z
        · exact .inl (hf n z.1)
    | _=>exact nof h
theorem sg_of {loc:Bool} {g:G} {tg:Expr} (hc:X.calm = true) (hN:X.N.Nodup) (hf:∀ n,loc = false → X.fn n = true) (h:mG loc X.N X.env.scope g tg = true):SG X g tg ∧ plainX tg = true:=by
  cases g with
  | one i =>
    cases tg with
    | Name n pos =>
      simp only [mG,Bool.and_eq_true,Bool.or_eq_true,beq_iff_eq,Bool.not_eq_true'] at h
      refine ⟨sg_one hN h.1 ?_ ?_,rfl⟩
      · rcases h.2 with z | z
        · exact .inl z
        · exact .inr z.2
      · rcases h.2 with z | z
        · exact .inr z
        · exact .inl (hf n z.1)
    | _=>exact nof h
  | many is =>
    cases tg with
    | Tuple es k pos =>
      obtain ⟨a1,a2,a3⟩:=sgs_of hN hf h
      exact ⟨sg_many hc a2 a3 a1,rfl⟩
    | _=>exact nof h
noncomputable def PEx (T:Tab) (cf:Nat → List D → Res D) (Tx:Txt) (x:E):Prop:=∀ X p,OkX T cf Tx X → mE Tx x X.N X.env.scope p = true → SR T cf X x p ∧ (isRd x = false → SE T cf X x p) ∧ ST T cf X x p ∧ plainX p = true ∧ (isBoolX p = true → SW T cf X x p)
noncomputable def PAx (T:Tab) (cf:Nat → List D → Res D) (Tx:Txt) (x:E):Prop:=∀ X rd ps,OkX T cf Tx X → mA Tx x rd X.N X.env.scope ps = true → SAr T cf X x ps ∧ (rd = false → SAv T cf X x ps) ∧ ps.all plainX = true
noncomputable def PIx (T:Tab) (cf:Nat → List D → Res D) (Tx:Txt) (x:E):Prop:=∀ X rd tg p,OkX T cf Tx X → mI Tx x rd X.N X.env.scope tg p = true → SI T cf X tg x rd p ∧ plainX p = true
theorem noA {x:E} (h:∀ rd N sc ps,mA Tx x rd N sc ps = false):PAx T cf Tx x:=fun X rd ps _ m=>by rw [h] at m;cases m
theorem noI {x:E} (h:∀ rd N sc tg p,mI Tx x rd N sc tg p = false):PIx T cf Tx x:=fun X rd tg p _ m=>by rw [h] at m;cases m
theorem noE {x:E} (h:∀ N sc p,mE Tx x N sc p = false):PEx T cf Tx x:=fun X p _ m=>by rw [h] at m;cases m
theorem of_se {x:E} {p:Expr} (h:SE T cf X x p) (he:∀ whole,isTrue p X.env whole = (do let v ← whole;standAt p.pos;holding [v] (truthy v))) (hp:plainX p = true) (hb:isBoolX p = false:=by rfl):SR T cf X x p ∧ (isRd x = false → SE T cf X x p) ∧ ST T cf X x p ∧ plainX p = true ∧ (isBoolX p = true → SW T cf X x p) :=
  ⟨h.sr,fun _=>h,st_gen h.sr he,hp,fun z=>by rw [hb] at z;cases z⟩
theorem okC (ok:OkX T cf Tx X) {scope:Scope} {C:Addr} {Nc:List Str} {s2:Shared} {H2:Hp} {fp:List Addr} (h:Nc.Nodup):OkX T cf Tx (cxC X scope C Nc s2 H2 fp) :=
  ⟨ok.calm,ok.roomy,ok.defs,ok.globs,ok.blt,h,ok.tf,ok.ts⟩
theorem scC_of {scope:Scope} (h:scB X.env.scope scope = true):ScopeC X scope:=by
  simp only [scB,Bool.and_eq_true,List.all_eq_true,Bool.or_eq_true,Bool.not_eq_true',beq_iff_eq,beq_eq_false_iff_ne,ne_eq] at h
  obtain ⟨⟨⟨h1,h2⟩,h3⟩,h4⟩:=h
  refine ⟨h1,h2,fun x hx e=>?_,fun x hx e=>?_,fun x hx e=>?_⟩
  · rcases h3 x hx with z | z
    · exact absurd e z
    · exact z
  · rcases h4 x hx with z | z
    · exact absurd e z
    · exact z.1
  · rcases h4 x hx with z | z
    · exact absurd e z
    · exact z.2
theorem capsOk {scope:Scope} {caps:List Nat} {own:Nat} {tn:List Str} (h:capB X.N scope caps = true) (hn:nodupB caps = true) (ho:own = tn.length):CapsOk X scope own caps (tn ++ capNames X.N caps):=by
  refine ⟨by rw [List.length_append,ho,capNames,List.length_map],nodup_of hn,fun j i hj=>?_⟩
  simp only [capB,List.all_eq_true] at h
  have:=h i (List.mem_of_getElem? hj)
  cases e:X.N[i]? with
  | none=>rw [e] at this;cases this
  | some n =>
    rw [e] at this
    refine ⟨n,rfl,?_,by simpa using this⟩
    rw [ho,List.getElem?_append_right (by (first | lia | omega)),show tn.length + j - tn.length = j by (first | lia | omega),capNames,List.getElem?_map,hj]
    simp [e]
theorem i_rng {a:E} {rd:Bool} {N:List Str} {sc:Scope} {tg p:Expr} (h:mI Tx (.rng a) rd N sc tg p = true):∃ n pn q pos,p = .Call (.Name n pn) [q] [] pos ∧ ((n == "range") && glB sc n && !isRd a && mE Tx a N sc q) = true:=by
  cases p with
  | Call fn es ks pos =>
    cases fn with
    | Name n pn =>
      rcases es with _ | ⟨q,_ | ⟨q',es⟩⟩
      · exact nof h
      · cases ks with
        | nil=>exact ⟨n,pn,q,pos,rfl,h⟩
        | cons _ _=>exact nof h
      · exact nof h
    | _=>exact nof h
  | _=>exact nof h
theorem i_rng2 {a b:E} {rd:Bool} {N:List Str} {sc:Scope} {tg p:Expr} (h:mI Tx (.rng2 a b) rd N sc tg p = true):∃ n pn q r pos,p = .Call (.Name n pn) [q,r] [] pos ∧ ((n == "range") && glB sc n && !isRd a && !isRd b && mE Tx a N sc q && mE Tx b N sc r) = true:=by
  cases p with
  | Call fn es ks pos =>
    cases fn with
    | Name n pn =>
      rcases es with _ | ⟨q,_ | ⟨r,_ | ⟨q',es⟩⟩⟩
      · exact nof h
      · exact nof h
      · cases ks with
        | nil=>exact ⟨n,pn,q,r,pos,rfl,h⟩
        | cons _ _=>exact nof h
      · exact nof h
    | _=>exact nof h
  | _=>exact nof h
theorem i_enum {a:E} {rd:Bool} {N:List Str} {sc:Scope} {tg p:Expr} (h:mI Tx (.enum a) rd N sc tg p = true):∃ n pn q pos,p = .Call (.Name n pn) [q] [] pos ∧ ((n == "enumerate") && glB sc n && isTupX tg && (rd || !isRd a) && mE Tx a N sc q) = true:=by
  cases p with
  | Call fn es ks pos =>
    cases fn with
    | Name n pn =>
      rcases es with _ | ⟨q,_ | ⟨q',es⟩⟩
      · exact nof h
      · cases ks with
        | nil=>exact ⟨n,pn,q,pos,rfl,h⟩
        | cons _ _=>exact nof h
      · exact nof h
    | _=>exact nof h
  | _=>exact nof h
theorem i_comp {own:Nat} {caps:List Nat} {g:G} {elt src cond:E} {N:List Str} {sc:Scope} {p:Expr} (h:mE Tx (.comp own caps g elt src cond) N sc p = true):∃ pe tg iter ifs scope pos,p = .ListComp pe [⟨tg,iter,ifs,0⟩] scope pos ∧
    scB sc scope = true ∧ capB N scope caps = true ∧ nodupB caps = true ∧ nodupB (tgNames tg ++ capNames N caps) = true ∧ own = (tgNames tg).length ∧ g.below own = true ∧ mG true (tgNames tg ++ capNames N caps) (relS scope sc) g tg = true ∧
    mI Tx src true N sc tg iter = true ∧ isRd elt = false ∧ mE Tx elt (tgNames tg ++ capNames N caps) (relS scope sc) pe = true ∧
    ((ifs = [] ∧ isTrueC cond = true) ∨ ∃ c,ifs = [c] ∧ mE Tx cond (tgNames tg ++ capNames N caps) (relS scope sc) c = true):=by
  cases p with
  | ListComp pe gens scope pos =>
    rcases gens with _ | ⟨⟨tg,iter,ifs,isa⟩,_ | ⟨g2,gens⟩⟩
    · exact nof h
    · change (_ && _) = true at h;simp only [Bool.and_eq_true,Bool.not_eq_true',beq_iff_eq] at h
      obtain ⟨⟨⟨⟨⟨⟨⟨⟨⟨⟨⟨a1,a2⟩,a3⟩,a4⟩,a5⟩,a6⟩,a7⟩,a8⟩,a9⟩,a10⟩,a11⟩,a12⟩:=h
      subst a1
      refine ⟨pe,tg,iter,ifs,scope,pos,rfl,a2,a3,a4,a5,a6,a7,a8,a9,a10,a11,?_⟩
      rcases ifs with _ | ⟨c,_ | ⟨c',ifs⟩⟩
      · exact .inl ⟨rfl,a12⟩
      · exact .inr ⟨c,rfl,a12⟩
      · cases a12
    · exact nof h
  | _=>exact nof h
theorem comp_parts {own:Nat} {caps:List Nat} {g:G} {elt src cond:E} {pe tg iter:Expr} {ifs:List Expr} {scope:Scope} (ok:OkX T cf Tx X) (ie:PEx T cf Tx elt) (is:PIx T cf Tx src) (ic:PEx T cf Tx cond)
    (a2:scB X.env.scope scope = true) (a3:capB X.N scope caps = true) (a4:nodupB caps = true) (a5:nodupB (tgNames tg ++ capNames X.N caps) = true) (a6:own = (tgNames tg).length) (a8:mG true (tgNames tg ++ capNames X.N caps) (relS scope X.env.scope) g tg = true)
    (a9:mI Tx src true X.N X.env.scope tg iter = true) (a10:isRd elt = false) (a11:mE Tx elt (tgNames tg ++ capNames X.N caps) (relS scope X.env.scope) pe = true)
    (a12:(ifs = [] ∧ isTrueC cond = true) ∨ ∃ c,ifs = [c] ∧ mE Tx cond (tgNames tg ++ capNames X.N caps) (relS scope X.env.scope) c = true) :
    ScopeC X scope ∧ CapsOk X scope own caps (tgNames tg ++ capNames X.N caps) ∧ plainX iter = true ∧ SI T cf X tg src true iter ∧
    ∀ C s2 H2 fp,(cxC X scope C (tgNames tg ++ capNames X.N caps) s2 H2 fp).Ok → SG (cxC X scope C (tgNames tg ++ capNames X.N caps) s2 H2 fp) g tg ∧ SE T cf (cxC X scope C (tgNames tg ++ capNames X.N caps) s2 H2 fp) elt pe ∧ testsIs ifs cond (ST T cf (cxC X scope C (tgNames tg ++ capNames X.N caps) s2 H2 fp) cond):=by
  obtain ⟨s1,s2⟩:=is X true tg iter ok a9
  refine ⟨scC_of a2,capsOk a3 a4 a6,s2,s1,fun C s2 H2 fp _=>?_⟩
  have okc:OkX T cf Tx (cxC X scope C (tgNames tg ++ capNames X.N caps) s2 H2 fp):=okC ok (nodup_of a5)
  refine ⟨(sg_of (X:=cxC X scope C (tgNames tg ++ capNames X.N caps) s2 H2 fp) ok.calm okc.nd (fun n z=>by cases z) a8).1,(ie _ _ okc a11).2.1 a10,?_⟩
  rcases a12 with ⟨z1,z2⟩ | ⟨c,z1,z2⟩
  · refine .inl ⟨z1,?_⟩
    unfold isTrueC at z2
    split at z2
    · rfl
    · cases z2
  · exact .inr ⟨c,z1,(ic _ _ okc z2).2.2.1⟩
theorem wholeE:∀ x:E,PEx T cf Tx x ∧ PAx T cf Tx x ∧ PIx T cf Tx x:=by
  intro x
  induction x with
  | var i =>
    refine ⟨fun X p ok h=>?_,noA fun rd N sc ps=>rfl,noI fun rd N sc tg p=>rfl⟩
    obtain ⟨n,pos,rfl,hn⟩:=i_var h
    obtain ⟨a1,a2,a3,a4⟩:=name_of hn
    exact of_se (se_var a1 a2 a3 a4) (fun _=>rfl) rfl
  | rd i =>
    refine ⟨fun X p ok h=>?_,noA fun rd N sc ps=>rfl,noI fun rd N sc tg p=>rfl⟩
    obtain ⟨n,pos,rfl,hn⟩:=i_rd h
    obtain ⟨a1,a2,a3,a4⟩:=name_of hn
    exact ⟨sr_rd a1 a2 a3 a4,(fun z=>by cases z),st_gen (sr_rd a1 a2 a3 a4) (fun _=>rfl),rfl,fun z=>by cases z⟩
  | con d =>
    refine ⟨fun X p ok h=>?_,noA fun rd N sc ps=>rfl,noI fun rd N sc tg p=>rfl⟩
    obtain ⟨c,k,pos,rfl,hn⟩:=i_con h
    exact of_se (se_con hn) (fun _=>rfl) rfl
  | glob g =>
    refine ⟨fun X p ok h=>?_,noA fun rd N sc ps=>rfl,noI fun rd N sc tg p=>rfl⟩
    obtain ⟨n,pos,rfl,hn⟩:=i_glob h
    simp only [Bool.and_eq_true,beq_iff_eq] at hn
    exact of_se (se_glob (gl_of hn.1.2) (ok.globs g n hn.1.1) (dbg_of hn.2)) (fun _=>rfl) rfl
  | bin o a b iha ihb =>
    refine ⟨fun X p ok h=>?_,noA fun rd N sc ps=>rfl,noI fun rd N sc tg p=>rfl⟩
    obtain ⟨l,r,pos,rfl,h1,h2⟩:=i_bin h
    exact of_se (se_bin (iha.1 X l ok h1).1 (ihb.1 X r ok h2).1) (fun _=>rfl) rfl
  | cmp o a b iha ihb =>
    refine ⟨fun X p ok h=>?_,noA fun rd N sc ps=>rfl,noI fun rd N sc tg p=>rfl⟩
    obtain ⟨l,r,pos,rfl,h1,h2⟩:=i_cmp h
    have hb:=ihb.1 X r ok h2
    have se:=se_cmp (o:=o) (pos:=pos) ok.roomy hb.2.2.2.1 (iha.1 X l ok h1).1 hb.1
    exact ⟨se.sr,fun _=>se,st_cmp ok.roomy hb.2.2.2.1 (iha.1 X l ok h1).1 hb.1,rfl,fun z=>by cases z⟩
  | chain o o' a b c iha ihb ihc =>
    refine ⟨fun X p ok h=>?_,noA fun rd N sc ps=>rfl,noI fun rd N sc tg p=>rfl⟩
    obtain ⟨l,m,r,pos,rfl,h1,h2,h3⟩:=i_chain h
    have hc:=ihc.1 X r ok h3
    have se:=se_chain (o:=o) (o':=o') (pos:=pos) ok.roomy hc.2.2.2.1 (iha.1 X l ok h1).1 (ihb.1 X m ok h2).1 hc.1
    exact ⟨se.sr,fun _=>se,st_chain ok.roomy hc.2.2.2.1 (iha.1 X l ok h1).1 (ihb.1 X m ok h2).1 hc.1,rfl,fun z=>by cases z⟩
  | dnew=>exact ⟨noE fun N sc p=>rfl,noA fun rd N sc ps=>rfl,noI fun rd N sc tg p=>rfl⟩
  | dnewT=>exact ⟨noE fun N sc p=>rfl,noA fun rd N sc ps=>rfl,noI fun rd N sc tg p=>rfl⟩
  | getT i a b iha ihb=>exact ⟨noE fun N sc p=>rfl,noA fun rd N sc ps=>rfl,noI fun rd N sc tg p=>rfl⟩
  | and a b iha ihb =>
    refine ⟨fun X p ok h=>?_,noA fun rd N sc ps=>rfl,noI fun rd N sc tg p=>rfl⟩
    obtain ⟨l,r,rest,pos,rfl,ra,rb,h1,h2⟩:=i_and h
    obtain ⟨_,sa,ta,_⟩:=iha.1 X l ok h1
    have sb:SE T cf X b (.BoolOp .And (r :: rest) pos) ∧ SW T cf X b (.BoolOp .And (r :: rest) pos):=by
      rcases h2 with ⟨rfl,h2⟩ | ⟨r',rs,rfl,h2⟩
      · obtain ⟨_,b1,b2,_⟩:=ihb.1 X r ok h2
        exact ⟨se_one (b1 rb),sw_and1 b2⟩
      · obtain ⟨_,b1,b2,_,b5⟩:=ihb.1 X _ ok h2
        exact ⟨b1 rb,b5 rfl⟩
    exact ⟨(se_and (sa ra) sb.1).sr,fun _=>se_and (sa ra) sb.1,(sw_and ta sb.2).st,rfl,fun _=>sw_and ta sb.2⟩
  | or a b iha ihb =>
    refine ⟨fun X p ok h=>?_,noA fun rd N sc ps=>rfl,noI fun rd N sc tg p=>rfl⟩
    obtain ⟨l,r,rest,pos,rfl,ra,rb,h1,h2⟩:=i_or h
    obtain ⟨_,sa,ta,_⟩:=iha.1 X l ok h1
    have sb:SE T cf X b (.BoolOp .Or (r :: rest) pos) ∧ SW T cf X b (.BoolOp .Or (r :: rest) pos):=by
      rcases h2 with ⟨rfl,h2⟩ | ⟨r',rs,rfl,h2⟩
      · obtain ⟨_,b1,b2,_⟩:=ihb.1 X r ok h2
        exact ⟨se_one (b1 rb),sw_or1 b2⟩
      · obtain ⟨_,b1,b2,_,b5⟩:=ihb.1 X _ ok h2
        exact ⟨b1 rb,b5 rfl⟩
    exact ⟨(se_or (sa ra) sb.1).sr,fun _=>se_or (sa ra) sb.1,(sw_or ta sb.2).st,rfl,fun _=>sw_or ta sb.2⟩
  | not a iha =>
    refine ⟨fun X p ok h=>?_,noA fun rd N sc ps=>rfl,noI fun rd N sc tg p=>rfl⟩
    obtain ⟨l,pos,rfl,h1⟩:=i_not h
    obtain ⟨a1,_,a3,_,_⟩:=iha.1 X l ok h1
    exact ⟨(se_not a3 a1).sr,fun _=>se_not a3 a1,st_not a3,rfl,fun z=>by cases z⟩
  | neg a iha =>
    refine ⟨fun X p ok h=>?_,noA fun rd N sc ps=>rfl,noI fun rd N sc tg p=>rfl⟩
    obtain ⟨l,pos,rfl,h1⟩:=i_neg h
    exact of_se (se_neg (iha.1 X l ok h1).1) (fun _=>rfl) rfl
  | ife c a b ihc iha ihb=>exact ⟨noE fun N sc p=>rfl,noA fun rd N sc ps=>rfl,noI fun rd N sc tg p=>rfl⟩
  | ix a b iha ihb =>
    refine ⟨fun X p ok h=>?_,noA fun rd N sc ps=>rfl,noI fun rd N sc tg p=>rfl⟩
    obtain ⟨l,r,pos,rfl,h1,h2⟩:=i_ix h
    have hb:=ihb.1 X r ok h2
    exact of_se (se_ix ok.roomy hb.2.2.2.1 (iha.1 X l ok h1).1 hb.1) (fun _=>rfl) rfl
  | sl a lo hi iha ihl ihh =>
    refine ⟨fun X p ok h=>?_,noA fun rd N sc ps=>rfl,noI fun rd N sc tg p=>rfl⟩
    obtain ⟨l,pl,ph,pos,pos',rfl,h1,h2,h3⟩:=i_sl h
    have part:∀ {y:E} {q:Option Expr},PEx T cf Tx y → ((q = none ∧ isOmit y = true) ∨ ∃ r,q = some r ∧ isRd y = false ∧ mE Tx y X.N X.env.scope r = true) → SO T cf X y q:=by
      intro y q ih hq
      rcases hq with ⟨rfl,z⟩ | ⟨r,rfl,z1,z2⟩
      · unfold isOmit at z
        split at z
        · exact so_omit
        · cases z
      · exact so_some ((ih X r ok z2).2.1 z1)
    exact of_se (se_sl (iha.1 X l ok h1).1 (part ihl.1 h2) (part ihh.1 h3)) (fun _=>rfl) rfl
  | «omit»=>exact ⟨noE fun N sc p=>rfl,noA fun rd N sc ps=>rfl,noI fun rd N sc tg p=>rfl⟩
  | tup a iha =>
    refine ⟨fun X p ok h=>?_,noA fun rd N sc ps=>rfl,noI fun rd N sc tg p=>rfl⟩
    obtain ⟨es,k,pos,rfl,h1⟩:=i_tup h
    exact of_se (se_tup ((iha.2.1 X false es ok h1).2.1 rfl)) (fun _=>rfl) rfl
  | lst a iha =>
    refine ⟨fun X p ok h=>?_,noA fun rd N sc ps=>rfl,noI fun rd N sc tg p=>rfl⟩
    obtain ⟨es,pos,rfl,h1⟩:=i_lst h
    exact of_se (se_lst ((iha.2.1 X false es ok h1).2.1 rfl)) (fun _=>rfl) rfl
  | anil =>
    refine ⟨noE fun N sc p=>rfl,fun X rd ps ok h=>?_,noI fun rd N sc tg p=>rfl⟩
    cases ps with
    | nil=>exact ⟨sar_nil,fun _=>sav_nil,rfl⟩
    | cons _ _=>exact nof h
  | acons a r iha ihr =>
    refine ⟨noE fun N sc p=>rfl,fun X rd ps ok h=>?_,noI fun rd N sc tg p=>rfl⟩
    cases ps with
    | nil=>exact nof h
    | cons p ps =>
      change (_ && _) = true at h;simp only [Bool.and_eq_true,Bool.or_eq_true,Bool.not_eq_true'] at h
      obtain ⟨a1,a2,_,a4,_⟩:=iha.1 X p ok h.1.2
      obtain ⟨b1,b2,b3⟩:=ihr.2.1 X rd ps ok h.2
      refine ⟨sar_cons a4 a1 b1,fun z=>sav_cons a4 (a2 ?_) (b2 z),by rw [List.all_cons,a4,b3];rfl⟩
      rcases h.1.1 with q | q
      · rw [z] at q;cases q
      · exact q
  | call f a iha =>
    refine ⟨fun X p ok h=>?_,noA fun rd N sc ps=>rfl,noI fun rd N sc tg p=>rfl⟩
    obtain ⟨n,pn,es,pos,rfl,hn⟩:=i_call h
    simp only [Bool.and_eq_true,beq_iff_eq] at hn
    obtain ⟨_,b2,b3⟩:=iha.2.1 X false es ok hn.2
    cases es with
    | nil =>
      cases a with
      | anil=>exact of_se (se_call0 (ok.defs f n hn.1.1.1) (gl_of hn.1.1.2) (dbg_of hn.1.2)) (fun _=>rfl) rfl
      | _=>exact nof hn.2
    | cons e es=>exact of_se (se_call (ok.defs f n hn.1.1.1) (gl_of hn.1.1.2) (dbg_of hn.1.2) b3 (b2 rfl)) (fun _=>rfl) rfl
  | callB f a iha=>exact ⟨noE fun N sc p=>rfl,noA fun rd N sc ps=>rfl,noI fun rd N sc tg p=>rfl⟩
  | bt b a iha =>
    refine ⟨fun X p ok h=>?_,noA fun rd N sc ps=>rfl,noI fun rd N sc tg p=>rfl⟩
    obtain ⟨n,pn,e,es,pos,rfl,hn⟩:=i_bt h
    simp only [Bool.and_eq_true,beq_iff_eq] at hn
    obtain ⟨b1,_,b3⟩:=iha.2.1 X true (e :: es) ok hn.2
    exact of_se (se_bt hn.1.1.1 ok.calm hn.1.1.2 (ok.blt _ (by cases b <;> decide)) (gl_of hn.1.2) b3 b1) (fun _=>rfl) rfl
  | mth m a b iha ihb=>exact ⟨noE fun N sc p=>rfl,noA fun rd N sc ps=>rfl,noI fun rd N sc tg p=>rfl⟩
  | callT fs k a ihk iha=>exact ⟨noE fun N sc p=>rfl,noA fun rd N sc ps=>rfl,noI fun rd N sc tg p=>rfl⟩
  | gidx ss a iha=>exact ⟨noE fun N sc p=>rfl,noA fun rd N sc ps=>rfl,noI fun rd N sc tg p=>rfl⟩
  | lset a iha =>
    refine ⟨fun X p ok h=>?_,noA fun rd N sc ps=>rfl,noI fun rd N sc tg p=>rfl⟩
    obtain ⟨n,pn,m,pm,q,pos2,pos,rfl,hn⟩:=i_lset h
    simp only [Bool.and_eq_true] at hn
    obtain ⟨⟨⟨⟨h1,h2⟩,h3⟩,h4⟩,h5⟩:=hn
    obtain ⟨a1,_,_,a4,_⟩:=iha.1 X q ok h5
    cases eq_of_beq h1
    cases eq_of_beq h2
    exact of_se (se_lset ok.calm ok.roomy (ok.blt _ (by decide)) (ok.blt _ (by decide)) (gl_of h3) (gl_of h4) a4 a1) (fun _=>rfl) rfl
  | sset a iha=>exact ⟨noE fun N sc p=>rfl,noA fun rd N sc ps=>rfl,noI fun rd N sc tg p=>rfl⟩
  | lrng a iha=>exact ⟨noE fun N sc p=>rfl,noA fun rd N sc ps=>rfl,noI fun rd N sc tg p=>rfl⟩
  | maxd a b iha ihb=>exact ⟨noE fun N sc p=>rfl,noA fun rd N sc ps=>rfl,noI fun rd N sc tg p=>rfl⟩
  | isi a t iha =>
    refine ⟨fun X p ok h=>?_,noA fun rd N sc ps=>rfl,noI fun rd N sc tg p=>rfl⟩
    obtain ⟨n,pn,l,m,pm,pos,rfl,hn⟩:=i_isi h
    simp only [Bool.and_eq_true,beq_iff_eq] at hn
    obtain ⟨a1,_,_,a4,_⟩:=iha.1 X l ok hn.2
    exact of_se (se_isi hn.1.1.1.1 hn.1.1.1.2 (ok.blt _ (by simp [bltNames])) (ok.blt _ (by cases t <;> simp [bltNames,Ty.nm])) (gl_of hn.1.1.2) (gl_of hn.1.2) a4 a1) (fun _=>rfl) rfl
  | comp own caps g elt src cond ihe ihs ihc =>
    refine ⟨fun X p ok h=>?_,noA fun rd N sc ps=>rfl,noI fun rd N sc tg p=>rfl⟩
    obtain ⟨pe,tg,iter,ifs,scope,pos,rfl,a2,a3,a4,a5,a6,a7,a8,a9,a10,a11,a12⟩:=i_comp h
    obtain ⟨c1,c2,c3,c4,c5⟩:=comp_parts ok ihe.1 ihs.2.2 ihc.1 a2 a3 a4 a5 a6 a8 a9 a10 a11 a12
    exact of_se (se_comp ok.calm c1 c2 a7 c3 c4 c5) (fun _=>rfl) rfl
  | look i a iha =>
    refine ⟨fun X p ok h=>?_,noA fun rd N sc ps=>rfl,noI fun rd N sc tg p=>rfl⟩
    change (notComp p && !isRd a && mE Tx a X.N X.env.scope p) = true at h
    simp only [Bool.and_eq_true,Bool.not_eq_true'] at h
    obtain ⟨_,b2,b3,b4,b5⟩:=iha.1 X p ok h.2
    exact ⟨(se_look (b2 h.1.2)).sr,fun _=>se_look (b2 h.1.2),st_look b3,b4,fun z=>sw_look (b5 z)⟩
  | seq a iha =>
    refine ⟨noE fun N sc p=>rfl,noA fun rd N sc ps=>rfl,fun X rd tg p ok h=>?_⟩
    change (_ && _) = true at h;simp only [Bool.and_eq_true,Bool.or_eq_true,Bool.not_eq_true'] at h
    obtain ⟨a1,a2,_,a4,_⟩:=iha.1 X p ok h.2
    refine ⟨si_seq a1 fun z=>a2 ?_,a4⟩
    rcases h.1 with q | q
    · rw [z] at q;cases q
    · exact q
  | rng a iha =>
    refine ⟨noE fun N sc p=>rfl,noA fun rd N sc ps=>rfl,fun X rd tg p ok h=>?_⟩
    obtain ⟨n,pn,q,pos,rfl,hn⟩:=i_rng h
    simp only [Bool.and_eq_true,beq_iff_eq,Bool.not_eq_true'] at hn
    obtain ⟨_,a2,_,a4,_⟩:=iha.1 X q ok hn.2
    exact ⟨si_rng hn.1.1.1 (gl_of hn.1.1.2) (ok.blt _ (by simp [bltNames])) a4 (a2 hn.1.2),rfl⟩
  | rng2 a b iha ihb =>
    refine ⟨noE fun N sc p=>rfl,noA fun rd N sc ps=>rfl,fun X rd tg p ok h=>?_⟩
    obtain ⟨n,pn,q,r,pos,rfl,hn⟩:=i_rng2 h
    simp only [Bool.and_eq_true,beq_iff_eq,Bool.not_eq_true'] at hn
    obtain ⟨_,a2,_,a4,_⟩:=iha.1 X q ok hn.1.2
    obtain ⟨_,b2,_,b4,_⟩:=ihb.1 X r ok hn.2
    exact ⟨si_rng2 hn.1.1.1.1.1 (gl_of hn.1.1.1.1.2) (ok.blt _ (by simp [bltNames])) a4 b4 (a2 hn.1.1.1.2) (b2 hn.1.1.2),rfl⟩
  | enum a iha =>
    refine ⟨noE fun N sc p=>rfl,noA fun rd N sc ps=>rfl,fun X rd tg p ok h=>?_⟩
    obtain ⟨n,pn,q,pos,rfl,hn⟩:=i_enum h
    simp only [Bool.and_eq_true,beq_iff_eq,Bool.not_eq_true',Bool.or_eq_true] at hn
    obtain ⟨a1,a2,_,a4,_⟩:=iha.1 X q ok hn.2
    cases tg with
    | Tuple es kk tpos =>
      refine ⟨si_enum hn.1.1.1.1 (gl_of hn.1.1.1.2) (ok.blt _ (by simp [bltNames])) a4 a1 fun z=>a2 ?_,rfl⟩
      rcases hn.1.2 with q | q
      · rw [z] at q;cases q
      · exact q
    | _=>exact absurd hn.1.1.2 (by simp [isTupX])
  | zip a b iha ihb=>exact ⟨noE fun N sc p=>rfl,noA fun rd N sc ps=>rfl,noI fun rd N sc tg p=>rfl⟩
end
end Tr
namespace Tr
open PySem PySem.Spec PyProof.Rows L2
section
variable (Tx:Txt)
noncomputable def hasArg:Expr → Bool
  | .Call _ (_ :: _) _ _=>true
  | _=>false
noncomputable def isCallE:E → Bool
  | .call _ _=>true
  | _=>false
mutual
noncomputable def qB:S → List Stmt → Bool
  | .nil,[]=>true
  | .cons a r,p :: ps=>qS a p && qB r ps
  | _,_=>false
termination_by structural x=>x
noncomputable def qS:S → Stmt → Bool
  | .ret _,_=>true
  | .asg _ _,.Assign [_] p _=>notComp p && notTup p
  | .ite _ a b,.If _ ps qs _=>qB a ps && qB b qs
  | .exp _,_=>true
  | _,_=>false
termination_by structural x=>x
end
mutual
noncomputable def mB:S → List Str → Scope → List Stmt → Bool
  | .nil,_,_,[]=>true
  | .cons (.sealed _) r,N,sc,ps=>mB r N sc ps
  | .cons a r,N,sc,p :: ps=>mS a N sc p && mB r N sc ps
  | _,_,_,_=>false
termination_by structural x=>x
noncomputable def mS:S → List Str → Scope → Stmt → Bool
  | .ret x,N,sc,.Return (some p) _=>!isRd x && mE Tx x N sc p
  | .retO i,N,sc,.Return (some (.Name n _)) _=>nameB N sc i n
  | .asg g x,N,sc,.Assign [tg] p _=>!isRd x && mG false N sc g tg && mE Tx x N sc p && ((notComp p && notTup p) || (match g,tg with | .one _,.Name _ _=>true | _,_=>false))
  | .asgO i x,N,sc,.Assign [.Name n pn] p _=>!isRd x && mG false N sc (.one i) (.Name n pn) && mE Tx x N sc p
  | .ite c a b,N,sc,.If p ps qs _=>mE Tx c N sc p && mB a N sc ps && mB b N sc qs
  | .forS g src b,N,sc,.For tg p ps [] _=>mI Tx src false N sc tg p && mG false N sc g tg && mB b N sc ps
  | .app i x,N,sc,.Expr (.Call (.Attribute (.Name n _) nm apos) [p] [] cpos) _=>nameB N sc i n && (nm == "append") && (apos.endLine == cpos.line) && !isRd x && mE Tx x N sc p
  | .ext i x,N,sc,.Expr (.Call (.Attribute (.Name n _) nm apos) [p] [] cpos) _=>nameB N sc i n && (nm == "extend") && (apos.endLine == cpos.line) && !isRd x && mE Tx x N sc p
  | .never,_,_,_=>true
  | .exp x,N,sc,.Expr p _=>isCallE x && mE Tx x N sc p
  | .rais c a,N,sc,.Raise (some (.Call (.Name n _) es [] _)) none _=>(n == c) && Tx.cls.contains n && glB sc n && dbgB n && !es.isEmpty && mA Tx a false N sc es
  | .asgT i x,N,sc,.Assign [.Name n pn] p _=>isCallE x && hasArg p && mG false N sc (.one i) (.Name n pn) && mE Tx x N sc p
  | .appT i x,N,sc,.Expr (.Call (.Attribute (.Subscript (.Name n _) (.Constant c _ _) _) nm apos) [p] [] cpos) _=>nameB N sc i n && cstIs (.int 0) c && (nm == "append") && (apos.endLine == cpos.line) && !isRd x && mE Tx x N sc p
  | .retT x y,N,sc,.Return (some (.Tuple [p,q] _ _)) _=>!isRd x && !isRd y && mE Tx x N sc p && mE Tx y N sc q
  | _,_,_,_=>false
termination_by structural x=>x
end
end
set_option genInjectivity false in
structure OkS (T:Tab) (cf:Nat → List D → Res D) (Tx:Txt) (X:Cx):Prop where
  ok:OkX T cf Tx X
  xe:X.xe = fun _ _=>False
  fn:∀ n,X.fn n = true
section
variable {T:Tab} {cf:Nat → List D → Res D} {Tx:Txt} {X:Cx}
theorem OkS.pass (o:OkS T cf Tx X):PassesOwn (model X.prog X.w) X.A X.env X.xe:=by rw [o.xe];exact PassesOwn.never
noncomputable def PSx (T:Tab) (cf:Nat → List D → Res D) (Tx:Txt) (x:S):Prop:=∀ X p,OkS T cf Tx X → mS Tx x X.N X.env.scope p = true → SS T cf X x p
noncomputable def PBx (T:Tab) (cf:Nat → List D → Res D) (Tx:Txt) (x:S):Prop:=∀ X ps,OkS T cf Tx X → mB Tx x X.N X.env.scope ps = true → SB T cf X x ps
theorem noB {x:S} (h:∀ N sc ps,mB Tx x N sc ps = false):PBx T cf Tx x:=fun X ps _ m=>by rw [h] at m;cases m
theorem noS {x:S} (h:∀ N sc p,mS Tx x N sc p = false):PSx T cf Tx x:=fun X ps _ m=>by rw [h] at m;cases m
theorem x_comp {x:E} {N:List Str} {sc:Scope} {p:Expr} (hp:notComp p = false) (h:mE Tx x N sc p = true):∃ own caps g elt src cond,x = .comp own caps g elt src cond:=by
  cases x with
  | comp own caps g elt src cond=>exact ⟨_,_,_,_,_,_,rfl⟩
  | var i=>obtain ⟨n,pos,rfl,_⟩:=i_var h;cases hp
  | rd i=>obtain ⟨n,pos,rfl,_⟩:=i_rd h;cases hp
  | con d=>obtain ⟨c,k,pos,rfl,_⟩:=i_con h;cases hp
  | glob d=>obtain ⟨c,pos,rfl,_⟩:=i_glob h;cases hp
  | bin o a b=>obtain ⟨c,_,pos,rfl,_⟩:=i_bin h;cases hp
  | cmp o a b=>obtain ⟨c,_,pos,rfl,_⟩:=i_cmp h;cases hp
  | and a b=>obtain ⟨c,_,_,pos,rfl,_⟩:=i_and h;cases hp
  | or a b=>obtain ⟨c,_,_,pos,rfl,_⟩:=i_or h;cases hp
  | not a=>obtain ⟨c,pos,rfl,_⟩:=i_not h;cases hp
  | ife c a b=>exact nof h
  | ix a b=>obtain ⟨c,_,pos,rfl,_⟩:=i_ix h;cases hp
  | sl a b c=>obtain ⟨c,_,_,_,pos,rfl,_⟩:=i_sl h;cases hp
  | tup a=>obtain ⟨c,_,pos,rfl,_⟩:=i_tup h;cases hp
  | lst a=>obtain ⟨c,pos,rfl,_⟩:=i_lst h;cases hp
  | call f a=>obtain ⟨c,_,_,pos,rfl,_⟩:=i_call h;cases hp
  | callB f a=>exact nof h
  | bt f a=>obtain ⟨c,_,_,_,pos,rfl,_⟩:=i_bt h;cases hp
  | callT fs k a=>exact nof h
  | gidx ss a=>exact nof h
  | lset a=>obtain ⟨_,_,_,_,_,_,pos,rfl,_⟩:=i_lset h;cases hp
  | sset a=>exact nof h
  | lrng a=>exact nof h
  | maxd a b=>exact nof h
  | mth m a b=>exact nof h
  | isi a t=>obtain ⟨c,_,_,_,_,pos,rfl,_⟩:=i_isi h;cases hp
  | chain o o' a b c=>obtain ⟨c,_,_,pos,rfl,_⟩:=i_chain h;cases hp
  | neg a=>obtain ⟨c,pos,rfl,_⟩:=i_neg h;cases hp
  | look i a=>exact absurd ((Bool.and_eq_true _ _ ▸ ((Bool.and_eq_true _ _ ▸ (show (notComp p && !isRd a && mE Tx a N sc p) = true from h)).1)).1) (by rw [hp];exact Bool.false_ne_true)
  | dnew=>exact nof h
  | dnewT=>exact nof h
  | getT i a b=>exact nof h
  | _=>exact nof h
theorem i_asgT {i:Nat} {x:E} {N:List Str} {sc:Scope} {p:Stmt} (h:mS Tx (.asgT i x) N sc p = true):∃ n pn v pos,p = .Assign [.Name n pn] v pos ∧ (isCallE x && hasArg v && mG false N sc (.one i) (.Name n pn) && mE Tx x N sc v) = true:=by
  cases p with
  | Assign tgs v pos =>
    rcases tgs with _ | ⟨tg,_ | ⟨t2,tgs⟩⟩
    · exact nof h
    · cases tg with
      | Name n pn=>exact ⟨n,pn,v,pos,rfl,h⟩
      | _=>exact nof h
    · cases tg <;> exact nof h
  | _=>exact nof h
theorem i_appT {i:Nat} {x:E} {N:List Str} {sc:Scope} {p:Stmt} (h:mS Tx (.appT i x) N sc p = true):∃ n px c k kpos spos nm apos q cpos pos,p = .Expr (.Call (.Attribute (.Subscript (.Name n px) (.Constant c k kpos) spos) nm apos) [q] [] cpos) pos ∧ (nameB N sc i n && cstIs (.int 0) c && (nm == "append") && (apos.endLine == cpos.line) && !isRd x && mE Tx x N sc q) = true:=by
  cases p with
  | Expr v pos=>cases v with
    | Call f es ks cpos=>cases f with
      | Attribute o nm apos=>cases o with
        | Subscript b y spos=>cases b with
          | Name n px=>cases y with
            | Constant c k kpos =>
              rcases es with _ | ⟨q,_ | ⟨q',es⟩⟩
              · exact nof h
              · cases ks with
                | nil=>exact ⟨n,px,c,k,kpos,spos,nm,apos,q,cpos,pos,rfl,h⟩
                | cons _ _=>exact nof h
              · exact nof h
            | _=>exact nof h
          | _=>exact nof h
        | _=>exact nof h
      | _=>exact nof h
    | _=>exact nof h
  | _=>exact nof h
theorem i_retT {x y:E} {N:List Str} {sc:Scope} {p:Stmt} (h:mS Tx (.retT x y) N sc p = true):∃ q r k tpos pos,p = .Return (some (.Tuple [q,r] k tpos)) pos ∧ (!isRd x && !isRd y && mE Tx x N sc q && mE Tx y N sc r) = true:=by
  cases p with
  | Return v pos=>cases v with
    | none=>exact nof h
    | some v=>cases v with
      | Tuple es k tpos =>
        rcases es with _ | ⟨q,_ | ⟨r,_ | ⟨r',es⟩⟩⟩
        · exact nof h
        · exact nof h
        · exact ⟨q,r,k,tpos,pos,rfl,h⟩
        · exact nof h
      | _=>exact nof h
  | _=>exact nof h
theorem mG_name {i:Nat} {n:Str} {pos:Pos} (o:OkS T cf Tx X) (h:mG false X.N X.env.scope (.one i) (.Name n pos) = true):X.N[i]? = some n ∧ Loc X.env.scope n ∧ (X.fn n = true ∨ X.env.scope.names.lookup n = some .local):=by
  simp only [mG,Bool.and_eq_true,Bool.or_eq_true,beq_iff_eq,Bool.not_eq_true',Bool.not_false,true_and] at h
  exact ⟨h.1,h.2,.inl (o.fn n)⟩
theorem asg_comp {i:Nat} {n:Str} {pos pos':Pos} {x:E} {p:Expr} (b:Bool) (o:OkS T cf Tx X) (hp:notComp p = false) (h1:mG false X.N X.env.scope (.one i) (.Name n pos) = true) (h2:mE Tx x X.N X.env.scope p = true):SS T cf X (if b then .asgO i x else .asg (.one i) x) (.Assign [.Name n pos] p pos'):=by
  obtain ⟨own,caps,g,elt,src,cond,rfl⟩:=x_comp hp h2
  obtain ⟨pe,tg,iter,ifs,scope,pos2,rfl,a2,a3,a4,a5,a6,a7,a8,a9,a10,a11,a12⟩:=i_comp h2
  obtain ⟨c1,c2,c3,c4,c5⟩:=comp_parts o.ok (wholeE elt).1 (wholeE src).2.2 (wholeE cond).1 a2 a3 a4 a5 a6 a8 a9 a10 a11 a12
  obtain ⟨n1,n2,n3⟩:=mG_name o h1
  exact ss_asg_comp o.ok.nd n1 n2 n3 o.ok.calm c1 c2 a7 c3 c4 b c5
theorem i_app {i:Nat} {x:E} {N:List Str} {sc:Scope} {p:Stmt} (h:mS Tx (.app i x) N sc p = true):∃ n px nm apos q cpos pos,p = .Expr (.Call (.Attribute (.Name n px) nm apos) [q] [] cpos) pos ∧ (nameB N sc i n && (nm == "append") && (apos.endLine == cpos.line) && !isRd x && mE Tx x N sc q) = true:=by
  cases p with
  | Expr v pos=>cases v with
    | Call f es ks cpos=>cases f with
      | Attribute o nm apos=>cases o with
        | Name n px =>
          rcases es with _ | ⟨q,_ | ⟨q',es⟩⟩
          · exact nof h
          · cases ks with
            | nil=>exact ⟨n,px,nm,apos,q,cpos,pos,rfl,h⟩
            | cons _ _=>exact nof h
          · exact nof h
        | _=>exact nof h
      | _=>exact nof h
    | _=>exact nof h
  | _=>exact nof h
theorem i_ext {i:Nat} {x:E} {N:List Str} {sc:Scope} {p:Stmt} (h:mS Tx (.ext i x) N sc p = true):∃ n px nm apos q cpos pos,p = .Expr (.Call (.Attribute (.Name n px) nm apos) [q] [] cpos) pos ∧ (nameB N sc i n && (nm == "extend") && (apos.endLine == cpos.line) && !isRd x && mE Tx x N sc q) = true:=by
  cases p with
  | Expr v pos=>cases v with
    | Call f es ks cpos=>cases f with
      | Attribute o nm apos=>cases o with
        | Name n px =>
          rcases es with _ | ⟨q,_ | ⟨q',es⟩⟩
          · exact nof h
          · cases ks with
            | nil=>exact ⟨n,px,nm,apos,q,cpos,pos,rfl,h⟩
            | cons _ _=>exact nof h
          · exact nof h
        | _=>exact nof h
      | _=>exact nof h
    | _=>exact nof h
  | _=>exact nof h
theorem ss_asg1 {i:Nat} {n:Str} {x:E} {p:Expr} {pos pos':Pos} (hx:notComp p = true) (hN:X.N.Nodup) (hi:X.N[i]? = some n) (hl:Loc X.env.scope n) (hf:X.fn n = true ∨ X.env.scope.names.lookup n = some .local) (h:SE T cf X x p):SS T cf X (.asg (.one i) x) (.Assign [.Name n pos'] p pos):=fun H₀ O₀=>by
  refine PS.imp (fun D' σ H hq=>?_) (ps_set hN hi hl (h H₀ O₀) (swaps_no hx) hf)
  obtain ⟨ts,e,out,⟨O,own,F,tt⟩,ev,k⟩:=hq
  (first | rw [xS_nil] at ev | rw [xS_cons] at ev | rw [xS_pass] at ev | rw [xS_ret] at ev | rw [xS_retO] at ev | rw [xS_retN] at ev | rw [xS_asg] at ev | rw [xS_asgO] at ev | rw [xS_sealed] at ev | rw [xS_ite] at ev | rw [xS_forS] at ev | rw [xS_whl] at ev | rw [xS_app] at ev | rw [xS_rev] at ev | rw [xS_dput] at ev | rw [xS_dputT] at ev | rw [xS_ext] at ev | rw [xS_never] at ev | rw [xS_asgP] at ev | rw [xS_appP] at ev | rw [xS_aug] at ev | rw [xS_lput] at ev | rw [xS_exp] at ev | rw [xS_ins] at ev | rw [xS_rais] at ev | rw [xS_asgT] at ev | rw [xS_appT] at ev | rw [xS_retT] at ev | rw [xS_brk] at ev | rw [xS_cnt] at ev)
  obtain ⟨d,e1,ev⟩:=Res.bind_ok ev
  obtain ⟨e2,e3,ev⟩:=Res.bind_ok ev
  cases ev
  cases e3
  exact ⟨O,own,e,d,F,e1,fun v H' s' r n=>k _ H' ⟨O,_,(F.grow s').setV i r,fun t ht=>(tt t ht).same s'⟩⟩
theorem wholeS:∀ x:S,PSx T cf Tx x ∧ PBx T cf Tx x:=by
  intro x
  induction x with
  | nil =>
    refine ⟨noS fun N sc p=>rfl,fun X ps o h=>?_⟩
    cases ps with
    | nil=>exact sb_nil
    | cons _ _=>exact nof h
  | cons a r iha ihr =>
    refine ⟨noS fun N sc p=>rfl,fun X ps o h=>?_⟩
    by_cases hs:∃ i,a = .sealed i
    · obtain ⟨i,rfl⟩:=hs
      rw [mB] at h
      exact sb_seal (ihr.2 X ps o h)
    · cases ps with
      | nil =>
        exfalso
        cases a <;> first | (exact hs ⟨_,rfl⟩) | exact nof h
      | cons p ps =>
        have h':(mS Tx a X.N X.env.scope p && mB Tx r X.N X.env.scope ps) = true:=by
          cases a <;> first | (exact absurd ⟨_,rfl⟩ hs) | exact h
        rw [Bool.and_eq_true] at h'
        exact sb_cons (iha.1 X p o h'.1) (ihr.2 X ps o h'.2)
  | pass=>exact ⟨noS fun N sc p=>rfl,noB fun N sc ps=>rfl⟩
  | ret x =>
    refine ⟨fun X p o h=>?_,noB fun N sc ps=>rfl⟩
    cases p with
    | Return v pos=>cases v with
      | some p =>
        change (_ && _) = true at h;simp only [Bool.and_eq_true,Bool.not_eq_true'] at h
        exact ss_ret (((wholeE x).1 X p o.ok h.2).2.1 h.1)
      | none=>exact nof h
    | _=>exact nof h
  | retO i =>
    refine ⟨fun X p o h=>?_,noB fun N sc ps=>rfl⟩
    cases p with
    | Return v pos=>cases v with
      | some p=>cases p with
        | Name n pn =>
          obtain ⟨a1,a2,a3,a4⟩:=name_of h
          exact ss_retO a1 a2 a3 a4
        | _=>exact nof h
      | none=>exact nof h
    | _=>exact nof h
  | retN=>exact ⟨noS fun N sc p=>rfl,noB fun N sc ps=>rfl⟩
  | asg g x =>
    refine ⟨fun X p o h=>?_,noB fun N sc ps=>rfl⟩
    cases p with
    | Assign tgs p pos =>
      rcases tgs with _ | ⟨tg,_ | ⟨t2,tgs⟩⟩
      · exact nof h
      · change (_ && _) = true at h;simp only [Bool.and_eq_true,Bool.not_eq_true',Bool.or_eq_true] at h
        obtain ⟨⟨⟨h1,h2⟩,h3⟩,h4⟩:=h
        obtain ⟨g1,g2⟩:=sg_of o.ok.calm o.ok.nd (fun n _=>o.fn n) h2
        by_cases hc:notComp p = true
        · by_cases ht:notTup p = true
          · exact ss_asg hc ht g2 (((wholeE x).1 X p o.ok h3).2.1 h1) g1
          · rcases h4 with z | z
            · exact absurd z.2 ht
            · cases g with
              | one i=>cases tg with
                | Name n pn =>
                  obtain ⟨n1,n2,n3⟩:=mG_name o h2
                  exact ss_asg1 hc o.ok.nd n1 n2 n3 (((wholeE x).1 X p o.ok h3).2.1 h1)
                | _=>cases z
              | many _=>cases z
        · have hc':notComp p = false:=by simpa using hc
          rcases h4 with z | z
          · exact absurd z.1 hc
          · cases g with
            | one i=>cases tg with
              | Name n pn=>exact asg_comp false o hc' h2 h3
              | _=>cases z
            | many _=>cases z
      · exact nof h
    | _=>exact nof h
  | asgO i x =>
    refine ⟨fun X p o h=>?_,noB fun N sc ps=>rfl⟩
    cases p with
    | Assign tgs p pos =>
      rcases tgs with _ | ⟨tg,_ | ⟨t2,tgs⟩⟩
      · exact nof h
      · cases tg with
        | Name n pn =>
          change (_ && _) = true at h;simp only [Bool.and_eq_true,Bool.not_eq_true'] at h
          obtain ⟨⟨h1,h2⟩,h3⟩:=h
          by_cases hc:notComp p = true
          · obtain ⟨n1,n2,n3⟩:=mG_name o h2
            exact ss_asgO hc o.ok.nd n1 n2 n3 (((wholeE x).1 X p o.ok h3).2.1 h1)
          · exact asg_comp true o (by simpa using hc) h2 h3
        | _=>exact nof h
      · cases tg <;> exact nof h
    | _=>exact nof h
  | «sealed» i=>exact ⟨noS fun N sc p=>rfl,noB fun N sc ps=>rfl⟩
  | ite c a b iha ihb =>
    refine ⟨fun X p o h=>?_,noB fun N sc ps=>rfl⟩
    cases p with
    | If p ps qs pos =>
      change (_ && _) = true at h;simp only [Bool.and_eq_true] at h
      exact ss_ite ((wholeE c).1 X p o.ok h.1.1).2.2.1 (iha.2 X ps o h.1.2) (ihb.2 X qs o h.2)
    | _=>exact nof h
  | forS g src b ihb =>
    refine ⟨fun X p o h=>?_,noB fun N sc ps=>rfl⟩
    cases p with
    | For tg p ps qs pos=>cases qs with
      | nil =>
        change (_ && _) = true at h;simp only [Bool.and_eq_true] at h
        have hg:=(sg_of o.ok.calm o.ok.nd (fun n _=>o.fn n) h.1.2).1
        obtain ⟨s1,s2⟩:=(wholeE src).2.2 X false tg p o.ok h.1.1
        exact ss_for o.pass o.ok.calm s2 s1 hg (ihb.2 X ps o h.2)
      | cons _ _=>exact nof h
    | _=>exact nof h
  | whl n c b ihb=>exact ⟨noS fun N sc p=>rfl,noB fun N sc ps=>rfl⟩
  | app i x =>
    refine ⟨fun X p o h=>?_,noB fun N sc ps=>rfl⟩
    obtain ⟨n,px,nm,apos,q,cpos,pos,rfl,hn⟩:=i_app h
    simp only [Bool.and_eq_true,beq_iff_eq,Bool.not_eq_true'] at hn
    obtain ⟨a1,a2,a3,a4⟩:=name_of hn.1.1.1.1
    obtain ⟨_,b2,_,b4,_⟩:=(wholeE x).1 X q o.ok hn.2
    exact ss_app a1 a2 a3 a4 hn.1.1.1.2 (by simpa using hn.1.1.2) b4 (b2 hn.1.2)
  | rev i=>exact ⟨noS fun N sc p=>rfl,noB fun N sc ps=>rfl⟩
  | ext i x =>
    refine ⟨fun X p o h=>?_,noB fun N sc ps=>rfl⟩
    obtain ⟨n,px,nm,apos,q,cpos,pos,rfl,hn⟩:=i_ext h
    simp only [Bool.and_eq_true,beq_iff_eq,Bool.not_eq_true'] at hn
    obtain ⟨a1,a2,a3,a4⟩:=name_of hn.1.1.1.1
    obtain ⟨_,b2,_,b4,_⟩:=(wholeE x).1 X q o.ok hn.2
    exact ss_ext a1 a2 a3 a4 hn.1.1.1.2 (by simpa using hn.1.1.2) b4 (b2 hn.1.2)
  | dput i y x=>exact ⟨noS fun N sc p=>rfl,noB fun N sc ps=>rfl⟩
  | dputT i y x=>exact ⟨noS fun N sc p=>rfl,noB fun N sc ps=>rfl⟩
  | never =>
    exact ⟨fun X p o h=>ss_never,noB fun N sc ps=>rfl⟩
  | asgP g i k=>exact ⟨noS fun N sc p=>rfl,noB fun N sc ps=>rfl⟩
  | appP j i k=>exact ⟨noS fun N sc p=>rfl,noB fun N sc ps=>rfl⟩
  | aug i op x=>exact ⟨noS fun N sc p=>rfl,noB fun N sc ps=>rfl⟩
  | lput i y x=>exact ⟨noS fun N sc p=>rfl,noB fun N sc ps=>rfl⟩
  | exp x =>
    refine ⟨fun X p o h=>?_,noB fun N sc ps=>rfl⟩
    cases p with
    | Expr q pos =>
      change (_ && _) = true at h;simp only [Bool.and_eq_true] at h
      cases x with
      | call f a =>
        have b:=((wholeE (.call f a)).1 X q o.ok h.2).2.1 rfl
        obtain ⟨c,_,_,pos2,rfl,_⟩:=i_call h.2
        exact ss_exp rfl b
      | _=>exact nof h.1
    | _=>exact nof h
  | ins i y x=>exact ⟨noS fun N sc p=>rfl,noB fun N sc ps=>rfl⟩
  | rais c a =>
    refine ⟨fun X p o h H₀ O₀=>fun pins s σ H D I q=>?_,noB fun N sc ps=>rfl⟩
    obtain ⟨ts,e,out,F,ev,k⟩:=q
    (first | rw [xS_nil] at ev | rw [xS_cons] at ev | rw [xS_pass] at ev | rw [xS_ret] at ev | rw [xS_retO] at ev | rw [xS_retN] at ev | rw [xS_asg] at ev | rw [xS_asgO] at ev | rw [xS_sealed] at ev | rw [xS_ite] at ev | rw [xS_forS] at ev | rw [xS_whl] at ev | rw [xS_app] at ev | rw [xS_rev] at ev | rw [xS_dput] at ev | rw [xS_dputT] at ev | rw [xS_ext] at ev | rw [xS_never] at ev | rw [xS_asgP] at ev | rw [xS_appP] at ev | rw [xS_aug] at ev | rw [xS_lput] at ev | rw [xS_exp] at ev | rw [xS_ins] at ev | rw [xS_rais] at ev | rw [xS_asgT] at ev | rw [xS_appT] at ev | rw [xS_retT] at ev | rw [xS_brk] at ev | rw [xS_cnt] at ev)
    cases ev
  | asgT i x =>
    refine ⟨fun X p o h=>?_,noB fun N sc ps=>rfl⟩
    obtain ⟨n,pn,v,pos,rfl,hn⟩:=i_asgT h
    simp only [Bool.and_eq_true] at hn
    cases x with
    | call f a =>
      obtain ⟨m,pm,es,cpos,rfl,hm⟩:=i_call hn.2
      simp only [Bool.and_eq_true,beq_iff_eq] at hm
      obtain ⟨n1,n2,n3⟩:=mG_name o hn.1.2
      cases es with
      | nil=>exact nof hn.1.1.2
      | cons p es =>
        obtain ⟨_,b2,b3⟩:=(wholeE a).2.1 X false (p :: es) o.ok hm.2
        exact ss_asgT o.ok.nd n1 n2 n3 (o.ok.defs f m hm.1.1.1) (gl_of hm.1.1.2) (dbg_of hm.1.2) b3 (b2 rfl)
    | _=>exact nof hn.1.1.1
  | appT i x =>
    refine ⟨fun X p o h=>?_,noB fun N sc ps=>rfl⟩
    obtain ⟨n,px,c,k,kpos,spos,nm,apos,q,cpos,pos,rfl,hn⟩:=i_appT h
    simp only [Bool.and_eq_true,beq_iff_eq,Bool.not_eq_true'] at hn
    obtain ⟨a1,a2,a3,a4⟩:=name_of hn.1.1.1.1.1
    obtain ⟨_,b2,_,b4,_⟩:=(wholeE x).1 X q o.ok hn.2
    exact ss_appT a1 a2 a3 a4 hn.1.1.1.1.2 hn.1.1.1.2 (by simpa using hn.1.1.2) b4 (b2 hn.1.2)
  | retT x y =>
    refine ⟨fun X p o h=>?_,noB fun N sc ps=>rfl⟩
    obtain ⟨p,q,k,tpos,pos,rfl,hn⟩:=i_retT h
    simp only [Bool.and_eq_true,Bool.not_eq_true'] at hn
    obtain ⟨_,b2,_,b4,_⟩:=(wholeE x).1 X p o.ok hn.1.2
    obtain ⟨_,c2,_,c4,_⟩:=(wholeE y).1 X q o.ok hn.2
    exact ss_retT b4 c4 (b2 hn.1.1.1) (c2 hn.1.1.2)
  | brk=>exact ⟨noS fun N sc p=>rfl,noB fun N sc ps=>rfl⟩
  | cnt=>exact ⟨noS fun N sc p=>rfl,noB fun N sc ps=>rfl⟩
end
end Tr
namespace Tr
open PySem PySem.Spec PyProof.Rows L2 PySem.W
noncomputable def RaiseOk (X:Cx) (E:XK):Prop:=∀ (pins:List (Addr × Obj)) (σ:L2.St) (H:Hp) (s:Shared) (h':Heap) (a:Addr) (cls:Value) (args:List Value),Inv X pins σ H s → Heap.MadeExcOf s.heap h' a cls args → E cls none H → X.xe (.ref a) { s with heap:=h' }
structure OkE (T:Tab) (cf:Nat → List D → Res D) (Tx:Txt) (X:Cx) (E:XK):Prop where
  ok:OkS T cf Tx X.nox
  pass:Passes (CXE X.prog X.w) X E
  cls:∀ c ∈ Tx.cls,∃ C,ClsIs X.K X.mg c C
noncomputable def tX (T:Tab) (cf:Nat → List D → Res D) (K:PySem.W.Frag) (H₀:Hp) (O₀:Addr → Prop) (E:XK) (x:S):TS:=fun _ σ H=>∃ O own e c d,Fm K H₀ O₀ H O own e σ ∧ exX T cf x e = some (c,d) ∧ ∀ H',Same H₀ H' → E (cvK K c) none H'
noncomputable def SX (T:Tab) (cf:Nat → List D → Res D) (X:Cx) (E:XK) (x:S) (p:Stmt):Prop:=∀ H₀ O₀,PS X p (tX T cf X.K H₀ O₀ E x)
noncomputable def SXs (T:Tab) (cf:Nat → List D → Res D) (X:Cx) (E:XK) (x:S) (p:List Stmt):Prop:=∀ H₀ O₀,PSs X p (tX T cf X.K H₀ O₀ E x)
section
variable {T:Tab} {cf:Nat → List D → Res D} {Tx:Txt}
theorem ps_nox {X:Cx} {st:Stmt} {t:TS} (h:PS X.nox st t):PS X st t:=fun pins s σ H D I hw =>
  wpAny_mono (h pins s σ H D (I.wish _) hw) (fun _ _ q=>q.unwish) fun _ _ z=>False.elim z
theorem pa_nox {X:Cx} {es:List Expr} {t:TA} (h:PA X.nox es t):PA X es t:=fun pos pins s σ H Q I hw =>
  wpAny_mono (h pos pins s σ H Q (I.wish _) hw) (fun _ _ ⟨v,H',I',r,q⟩=>⟨v,H',I'.unwish,r,q⟩) fun _ _ z=>False.elim z
theorem pss_false {X:Cx} {ps:List Stmt}:PSs X ps (fun _ _ _=>False):=fun _ _ _ _ _ _ h=>h.elim
noncomputable def PSX (T:Tab) (cf:Nat → List D → Res D) (Tx:Txt) (x:S):Prop:=∀ X E p,OkE T cf Tx X E → RaiseOk X E ∨ calmS x = true → mS Tx x X.N X.env.scope p = true → SX T cf X E x p
noncomputable def PBX (T:Tab) (cf:Nat → List D → Res D) (Tx:Txt) (x:S):Prop:=∀ X E ps,OkE T cf Tx X E → RaiseOk X E ∨ calmS x = true → mB Tx x X.N X.env.scope ps = true → SXs T cf X E x ps
theorem noSX {x:S} (h:∀ e,exX T cf x e = none):PSX T cf Tx x:=fun X E p _ _ _ H₀ O₀ pins s σ H D I q=>by
  obtain ⟨O,own,e,c,d,F,ev,k⟩:=q
  rw [h] at ev;cases ev
theorem noBX {x:S} (h:∀ e,exX T cf x e = none):PBX T cf Tx x:=fun X E p _ _ _ H₀ O₀ pins s σ H D I q=>by
  obtain ⟨O,own,e,c,d,F,ev,k⟩:=q
  rw [h] at ev;cases ev
theorem noBX' {x:S} (h:∀ N sc ps,mB Tx x N sc ps = false):PBX T cf Tx x:=fun X E ps _ _ m=>by rw [h] at m;cases m
theorem noSX' {x:S} (h:∀ N sc p,mS Tx x N sc p = false):PSX T cf Tx x:=fun X E ps _ _ m=>by rw [h] at m;cases m
theorem exX_cons {a r:S} {e:Nv} {z:Str × D} (h:exX T cf (.cons a r) e = some z):exX T cf a e = some z ∨ (exX T cf a e = none ∧ ∃ e1,exS T cf a e = .ok (.nx e1) ∧ exX T cf r e1 = some z):=by
  rw [xX_cons] at h
  cases ha:exX T cf a e with
  | some z'=>rw [ha] at h;exact .inl h
  | none =>
    rw [ha] at h
    refine .inr ⟨rfl,?_⟩
    cases hs:exS T cf a e with
    | ok o =>
      rw [hs] at h
      cases o with
      | nx e1=>exact ⟨e1,rfl,h⟩
      | _=>cases h
    | err _ _=>rw [hs] at h;cases h
    | no=>rw [hs] at h;cases h
theorem exX_ite {c:E} {a b:S} {e:Nv} {z:Str × D} (h:exX T cf (.ite c a b) e = some z):∃ x q,evE T cf c e = .ok x ∧ x.truth = .ok q ∧ (if q = true then exX T cf a e = some z else exX T cf b e = some z):=by
  rw [xX_ite] at h
  cases hc:evE T cf c e with
  | ok x =>
    rw [hc] at h
    cases ht:x.truth with
    | ok q =>
      simp only [ht] at h
      refine ⟨x,q,rfl,ht,?_⟩
      cases q with
      | true=>exact h
      | false=>exact h
    | err _ _=>simp only [ht] at h;cases h
    | no=>simp only [ht] at h;cases h
  | err _ _=>rw [hc] at h;cases h
  | no=>rw [hc] at h;cases h
theorem exX_call {f:Nat} {a:E} {e:Nv} {c:Str} {d:D} (h:exX T cf (.exp (.call f a)) e = some (c,d)):∃ ds,evA T cf a e = .ok ds ∧ cf f ds = .err c d:=by
  rw [xX_call] at h
  cases ha:evA T cf a e with
  | ok ds =>
    rw [ha] at h
    cases hf:cf f ds with
    | err c' d'=>simp only [hf] at h;cases h;exact ⟨ds,rfl,hf⟩
    | ok _=>simp only [hf] at h;cases h
    | no=>simp only [hf] at h;cases h
  | err _ _=>rw [ha] at h;cases h
  | no=>rw [ha] at h;cases h
theorem exX_rais {c:Str} {a:E} {e:Nv} {c':Str} {d:D} (h:exX T cf (.rais c a) e = some (c',d)):c' = c ∧ ∃ x,evA T cf a e = .ok [.str x]:=by
  rw [xX_rais] at h
  split at h
  · rename_i x ha
    cases h
    exact ⟨rfl,x,ha⟩
  · cases h
theorem calm_l {X:Cx} {E:XK} {a b x:S} (e:calmS x = (calmS a && calmS b)) (h:RaiseOk X E ∨ calmS x = true):(RaiseOk X E ∨ calmS a = true) ∧ (RaiseOk X E ∨ calmS b = true):=by
  rcases h with h | h
  · exact ⟨.inl h,.inl h⟩
  · rw [e,Bool.and_eq_true] at h
    exact ⟨.inr h.1,.inr h.2⟩
theorem wholeX (x:S):PSX T cf Tx x ∧ PBX T cf Tx x:=by
  induction x with
  | cons a r iha ihr =>
    refine ⟨noSX' fun N sc p=>rfl,fun X E ps o hc h=>?_⟩
    have hc2:=calm_l (a:=a) (b:=r) rfl hc
    by_cases hs:∃ i,a = .«sealed» i
    · obtain ⟨i,rfl⟩:=hs
      have h2:mB Tx r X.N X.env.scope ps = true:=by
        cases ps <;> exact h
      intro H₀ O₀ pins s σ H D I hq
      obtain ⟨O,own,e,c,d,F,ev,k⟩:=hq
      rcases exX_cons ev with z | ⟨_,e1,e2,e3⟩
      · cases z
      · (first | rw [xS_nil] at e2 | rw [xS_cons] at e2 | rw [xS_pass] at e2 | rw [xS_ret] at e2 | rw [xS_retO] at e2 | rw [xS_retN] at e2 | rw [xS_asg] at e2 | rw [xS_asgO] at e2 | rw [xS_sealed] at e2 | rw [xS_ite] at e2 | rw [xS_forS] at e2 | rw [xS_whl] at e2 | rw [xS_app] at e2 | rw [xS_rev] at e2 | rw [xS_dput] at e2 | rw [xS_dputT] at e2 | rw [xS_ext] at e2 | rw [xS_never] at e2 | rw [xS_asgP] at e2 | rw [xS_appP] at e2 | rw [xS_aug] at e2 | rw [xS_lput] at e2 | rw [xS_exp] at e2 | rw [xS_ins] at e2 | rw [xS_rais] at e2 | rw [xS_asgT] at e2 | rw [xS_appT] at e2 | rw [xS_retT] at e2 | rw [xS_brk] at e2 | rw [xS_cnt] at e2)
        obtain ⟨l,e4,e2⟩:=Res.bind_ok e2
        cases e2
        obtain ⟨O',own',F',sub⟩:=F.seal i (Sl.ownA_ok e4)
        exact ihr.2 X E ps o hc2.2 h2 H₀ O₀ pins s σ H D I ⟨O',own',_,c,d,F',e3,k⟩
    · cases ps with
      | nil=>cases a <;> first | exact nof h | exact absurd ⟨_,rfl⟩ hs
      | cons p ps =>
        have hm:(mS Tx a X.N X.env.scope p && mB Tx r X.N X.env.scope ps) = true:=by
          cases a <;> first | exact h | exact absurd ⟨_,rfl⟩ hs
        rw [Bool.and_eq_true] at hm
        intro H₀ O₀ pins s σ H D I hq
        obtain ⟨O,own,e,c,d,F,ev,k⟩:=hq
        rcases exX_cons ev with z | ⟨_,e1,e2,e3⟩
        · exact pss_cons (iha.1 X E p o hc2.1 hm.1 H₀ O₀) pss_false pins s σ H D I ⟨O,own,e,c,d,F,z,k⟩
        · refine pss_cons (ps_nox ((wholeS a).1 X.nox p o.ok hm.1 H₀ O₀)) (ihr.2 X E ps o hc2.2 hm.2 H₀ O₀) pins s σ H D I ?_
          exact ⟨[],e,.nx e1,⟨O,own,F,fun t ht=>by cases ht⟩,e2,fun σ' H' ⟨O',own',F',_⟩=>⟨O',own',e1,c,d,F',e3,k⟩⟩
  | ite c a b iha ihb =>
    refine ⟨fun X E p o hc h=>?_,noBX' fun N sc ps=>rfl⟩
    cases p with
    | If p ps qs pos =>
      have hc2:=calm_l (a:=a) (b:=b) rfl hc
      change (_ && _) = true at h;simp only [Bool.and_eq_true] at h
      intro H₀ O₀ pins s σ H D I hq
      obtain ⟨O,own,e,cc,d,F,ev,k⟩:=hq
      obtain ⟨x,q,e1,e2,e3⟩:=exX_ite ev
      refine ps_if ((((wholeE c).1 X.nox p o.ok.ok h.1.1).2.2.1 H₀ O₀).nox) (iha.2 X E ps o hc2.1 h.1.2 H₀ O₀) (ihb.2 X E qs o hc2.2 h.2 H₀ O₀) pins s σ H D I ?_
      refine ⟨O,own,e,x,q,F,e1,e2,fun H1 s1=>?_⟩
      cases q with
      | true=>rw [if_pos rfl] at e3 ⊢;exact ⟨O,own,e,cc,d,F.grow s1,e3,k⟩
      | false=>rw [if_neg Bool.false_ne_true] at e3 ⊢;exact ⟨O,own,e,cc,d,F.grow s1,e3,k⟩
    | _=>exact nof h
  | exp x =>
    refine ⟨fun X E p o _ h=>?_,noBX' fun N sc ps=>rfl⟩
    cases p with
    | Expr q pos =>
      change (_ && _) = true at h;simp only [Bool.and_eq_true] at h
      cases x with
      | call f a =>
        obtain ⟨n,pn,es,pos2,rfl,hn⟩:=i_call h.2
        simp only [Bool.and_eq_true,beq_iff_eq] at hn
        obtain ⟨k0,a0,fd,ps,Fk,hr,hm,hk,hb⟩:=o.ok.ok.defs f n hn.1.1.1
        obtain ⟨_,b2,b3⟩:=(wholeE a).2.1 X.nox false es o.ok.ok hn.2
        intro H₀ O₀ pins s σ H D I hq
        obtain ⟨O,own,e,c,d,F,ev,k⟩:=hq
        obtain ⟨ds,e1,e2⟩:=exX_call ev
        cases es with
        | nil =>
          refine ps_expr (pe_call0 (X:=X) Fk hr (gl_of hn.1.1.2) hm hk hb .nil o.pass (dbg_of hn.1.2)) rfl pins s σ H D I ?_
          cases a with
          | anil =>
            (first | rw [xA_anil] at e1 | rw [xA_acons] at e1)
            cases e1
            exact ⟨O,[],F.trk,rfl,.inr ⟨c,d,e2,fun H' s2=>k H' (F.same.trans s2)⟩⟩
          | _=>exact nof hn.2
        | cons p es =>
          rw [List.all_cons,Bool.and_eq_true] at b3
          refine ps_expr (pe_call (X:=X) Fk hr (gl_of hn.1.1.2) hm hk hb .nil o.pass (pa_nox (b2 rfl H₀ O₀)) (dbg_of hn.1.2) (plain_star b3.1) (plain_any b3.2)) rfl pins s σ H D I ?_
          refine ⟨O,own,e,ds,F,e1,fun vs H1 s1 r1=>?_⟩
          dsimp only
          rw [List.append_nil]
          exact ⟨O,ds,(F.grow s1).trk,r1,.inr ⟨c,d,e2,fun H' s2=>k H' (F.same.trans (s1.trans s2))⟩⟩
      | _=>exact nof h.1
    | _=>exact nof h
  | rais c a =>
    refine ⟨fun X E p o hc h=>?_,noBX' fun N sc ps=>rfl⟩
    have hr:RaiseOk X E:=hc.elim id fun z=>by cases z
    cases p with
    | Raise v w pos=>cases v with
      | none=>exact nof h
      | some v=>cases v with
        | Call fn es ks cpos=>cases fn with
          | Name n pn =>
            cases ks with
            | nil =>
              cases w with
              | none =>
                change (_ && _) = true at h
                simp only [Bool.and_eq_true,beq_iff_eq,Bool.not_eq_true',List.contains_iff_mem] at h
                obtain ⟨⟨⟨⟨⟨h1,h2⟩,h3⟩,h4⟩,h5⟩,h6⟩:=h
                subst h1
                obtain ⟨C,hC⟩:=o.cls n h2
                obtain ⟨_,b2,b3⟩:=(wholeE a).2.1 X.nox false es o.ok.ok h6
                intro H₀ O₀ pins s σ H D I hq
                obtain ⟨O,own,e,c,d,F,ev,k⟩:=hq
                obtain ⟨rfl,x,e1⟩:=exX_rais ev
                cases es with
                | nil=>cases h5
                | cons p es =>
                  rw [List.all_cons,Bool.and_eq_true] at b3
                  refine ps_raise (ER:=fun H1=>E (.ref C) none H1) (hC.own I.mod.kin) (gl_of h3) o.ok.ok.calm (pa_nox (b2 rfl H₀ O₀)) (fun pins σ H s h' a args I hm hE=>hr pins σ H s h' a _ args I hm hE) (dbg_of h4) (plain_star b3.1) (plain_any b3.2) pins s σ H D I ?_
                  refine ⟨O,own,e,_,F,e1,fun vs H1 s1 r1=>⟨?_,?_⟩⟩
                  · rw [r1.length,← big_line];show 1 ≤ big;decide
                  · have:=k H1 (F.same.trans s1)
                    rw [hC.cv] at this
                    exact this
              | some _=>exact nof h
            | cons _ _=>cases w <;> exact nof h
          | _=>cases w <;> exact nof h
        | _=>cases w <;> exact nof h
    | _=>exact nof h
  | nil=>exact ⟨noSX fun e=>rfl,noBX fun e=>rfl⟩
  | _=>exact ⟨noSX fun e=>rfl,noBX fun e=>rfl⟩
end
end Tr
namespace Tr
open PySem PySem.Spec PyProof.Rows L2
set_option genInjectivity false in
structure DefT where
  nm:Str
  st:Stmt
  N:List Str
  ps:List Str
  body:S
  told:Option Told:=none
noncomputable def DefT.df (t:DefT):Df:=⟨t.N.length,t.ps.length,t.body,t.told⟩
noncomputable def fnScB (N P:List Str) (sc:Scope):Bool:=(sc.kind == .function) && !sc.isCoroutine && !sc.isGenerator && nodupB N && (N.take P.length == P) && P.all (fun x=>(sc.names.lookup x == some .local) || (sc.names.lookup x == some .cell)) && sc.names.all (fun y=>!(y.2 == .free))
theorem fnSc_of {N P:List Str} {sc:Scope} (h:fnScB N P sc = true):FnScope N P sc:=by
  simp only [fnScB,Bool.and_eq_true,List.all_eq_true,Bool.or_eq_true,Bool.not_eq_true',beq_iff_eq,beq_eq_false_iff_ne,ne_eq] at h
  obtain ⟨⟨⟨⟨⟨⟨h1,h2⟩,h3⟩,h4⟩,h5⟩,h6⟩,h7⟩:=h
  exact ⟨h1,h2,h3,nodup_of h4,h5,h6,h7⟩
noncomputable def DefT.okB (Tx:Txt) (t:DefT):Bool:=fnScB t.N t.ps (defScope t.st) && (t.told.isSome || mB Tx t.body t.N (defScope t.st) (defBody t.st))
noncomputable def GlobK (K:PySem.W.Frag) (mg:Str → Option Value) (n:Str) (d:D):Prop:=∃ v u,mg n = some u ∧ RelV v u ∧ ∀ H O,RD K H O d v
structure TextOk0 (K:PySem.W.Frag) (mg:Str → Option Value) (T:Tab) (Tx:Txt) (defs:List DefT):Prop where
  dn:Tx.dn = defs.map (·.nm)
  ok:defs.all (·.okB Tx) = true
  funs:∀ t ∈ defs,∃ f fd,Fun K t.nm t.nm t.st f fd ∧ mg t.nm = some (.ref f) ∧ Binds K fd t.ps []
  globs:∀ g n,Tx.gn[g]? = some n → GlobK K mg n (T.glob g)
  blt:∀ n ∈ bltNames,mg n = none
  tf:∀ q ∈ Tx.tf,∃ (a:Addr) (xs:List V),mg q.1 = some (.ref a) ∧ (∀ H,SqT K H a xs) ∧ xs.length = q.2.length ∧ ∀ (j f:Nat),q.2[j]? = some f → ∃ (ad:Addr) (t:DefT),xs[j]? = some (V.ref ad) ∧ mg t.nm = some (.ref ad) ∧ defs[f]? = some t
  ts:∀ q ∈ Tx.ts,∃ a:Addr,mg q.1 = some (.ref a) ∧ ModS K a q.2
  cls:∀ c ∈ Tx.cls,∃ C,ClsIs K mg c C
noncomputable def ToldOk (K:PySem.W.Frag) (mg:Str → Option Value) (T:Tab) (defs:List DefT) (t:DefT):Prop:=∀ (P:Program) (w:World) (base:Heap) (n i:Nat) (f:Addr) (fd:FuncData),defs[i]? = some t → Fun K t.nm t.nm t.st f fd →
  (∀ i t,defs[i]? = some t → ∀ f fd,Fun K t.nm t.nm t.st f fd → FnOk P w K mg base (CXE P w) n f fd t.ps (spD K (callF T (defs.map DefT.df) n i) (T.fresh i))) →
  FnOk P w K mg base (CXE P w) (n + 1) f fd t.ps (spD K (callF T (defs.map DefT.df) (n + 1) i) (T.fresh i))
set_option genInjectivity false in
structure TextOk (K:PySem.W.Frag) (mg:Str → Option Value) (T:Tab) (Tx:Txt) (defs:List DefT):Prop extends TextOk0 K mg T Tx defs where
  told:∀ t ∈ defs,∀ td,t.told = some td → ToldOk K mg T defs t
theorem fun_okE {P:Program} {w:World} {K:PySem.W.Frag} {mg:Str → Option Value} {base:Heap} {x qual:Str} {st:Stmt} {f:Addr} {fd:FuncData} {N ps:List Str} {k:Nat} {sp:Sp} (F:Fun K x qual st f fd) (S:FnScope N ps (defScope st)) (len:∀ vs H Q E,sp vs H Q E → vs.length = ps.length)
    (hbody:∀ (cdv:Value) (A:Around) (outer:List Env) (s:Shared) (H:Hp) (vs:List V) (Q:VK) (E:XK),Room k (A.deeper (envOfC qual (defScope st) s.heap.objs.size f cdv)) → sp vs H Q E →
      ∃ t,PSs (cxOf (CXE P w) P w K mg base N qual (defScope st) f cdv A outer s H E) (defBody st) t ∧ t { nx:=fun _ H'=>Q .non H',rt:=Q } (start N vs) H):FnOk P w K mg base (CXE P w) (k + 1) f fd ps sp:=by
  obtain ⟨oc,od,kV,doc,pm,an,cdv,ct,osl,rfl,lk,hcd⟩:=F.ex
  exact fn_of lk hcd S len fun A outer s H vs Q E hr hsp=>hbody cdv A outer s H vs Q E hr hsp
section
variable {P:Program} {w:World} {K:PySem.W.Frag} {mg:Str → Option Value} {base:Heap} {T:Tab} {Tx:Txt} {defs:List DefT}
theorem fm_start {H:Hp} {O:Addr → Prop} {N:List Str} {ds:List D} {vs:List V} (w:RDs K H O ds vs) (tr:∀ a,O a → ∃ o,H a = some o) (n:Nat) (hn:n = N.length - vs.length) :
    Fm K H O H O (fun _=>none) (ds.map Sl.v ++ List.replicate n Sl.no) (start N vs) where
  len:=by
    unfold L2.start
    rw [List.length_append,List.length_append,List.length_map,List.length_map,List.length_replicate,List.length_replicate,w.length,hn,w.length]
  sl:=fun i=>by
    by_cases hi:i < ds.length
    · obtain ⟨v,h1,h2⟩:=w.get (List.getElem?_eq_getElem hi)
      have e1:Nv.at (ds.map Sl.v ++ List.replicate n Sl.no) i = .v ds[i]:=by
        unfold Nv.at
        rw [List.getElem?_append_left (by rw [List.length_map];exact hi),List.getElem?_map,List.getElem?_eq_getElem hi];rfl
      have e2:stAt (start N vs) i = some v:=by
        unfold stAt L2.start
        rw [List.getElem?_append_left (by rw [List.length_map,w.length];exact hi),List.getElem?_map,h1];rfl
      rw [e1,e2]
      exact ⟨v,rfl,h2⟩
    · have e1:Nv.at (ds.map Sl.v ++ List.replicate n Sl.no) i = .no:=by
        unfold Nv.at
        rw [List.getElem?_append_right (by rw [List.length_map];(first | lia | omega)),List.getElem?_replicate]
        split <;> rfl
      rw [e1];trivial
  inj:=fun _ _ _ h=>by cases h
  same:=Same.refl H
  sub:=fun _ h=>h
  trk0:=tr
  trk:=tr
  new:=fun _ _ h=>by cases h
theorem defs_ok (X:TextOk K mg T Tx defs):∀ n i t,defs[i]? = some t → ∀ f fd,Fun K t.nm t.nm t.st f fd → FnOk P w K mg base (CXE P w) n f fd t.ps (spD K (callF T (defs.map DefT.df) n i) (T.fresh i))
  | 0,i,t,hi,f,fd,F=>by
    have no:∀ vs H Q E,¬ spD K (callF T (defs.map DefT.df) 0 i) (T.fresh i) vs H Q E:=fun vs H Q E h=>by
      obtain ⟨O,ds,_,_,⟨d,ev,_⟩ | ⟨c,d,ev,_⟩⟩:=h
      · rw [callF] at ev;cases ev
      · rw [callF] at ev;cases ev
    exact ⟨fun vs H Q E h=>absurd h (no vs H Q E),fun A outer s H args us vs Q E _ _ _ _ h=>absurd h (no vs H Q E)⟩
  | n + 1,i,t,hi,f,fd,F=>by
    have ih:=defs_ok X n
    cases ht:t.told with
    | some td=>exact X.told t (List.mem_of_getElem? hi) td ht P w base n i f fd hi F ih
    | none =>
    have hok:=List.all_eq_true.mp X.ok t (List.mem_of_getElem? hi)
    unfold DefT.okB at hok
    rw [ht,Option.isSome_none,Bool.false_or,Bool.and_eq_true] at hok
    have S:=fnSc_of hok.1
    have hdf:(defs.map DefT.df)[i]? = some ⟨t.N.length,t.ps.length,t.body,none⟩:=by rw [List.getElem?_map,hi];show some (DefT.df t) = _;unfold DefT.df;rw [ht]
    have lenOf:∀ ds r,callF T (defs.map DefT.df) (n + 1) i ds = r → r ≠ .no → ds.length = t.ps.length:=by
      intro ds r ev hr
      rw [callF,hdf] at ev
      by_cases c:(ds.length == t.df.pars) = true
      · exact (by simpa using c:ds.length = t.df.pars)
      · have c':(ds.length == t.df.pars) = false:=by simpa using c
        have ev:when (ds.length == t.df.pars) _ = r:=ev
        rw [c'] at ev
        exact absurd ev.symm hr
    have open1:∀ ds,ds.length = t.ps.length → callF T (defs.map DefT.df) (n + 1) i ds = (match exX T (callF T (defs.map DefT.df) n) t.body (ds.map Sl.v ++ List.replicate (t.N.length - t.ps.length) Sl.no) with
        | some z=>.err z.1 z.2
        | none=>match exS T (callF T (defs.map DefT.df) n) t.body (ds.map Sl.v ++ List.replicate (t.N.length - t.ps.length) Sl.no) with
          | .ok (.rt x k)=>when (k || !T.fresh i) (.ok x)
          | .ok (.nx _)=>when (!T.fresh i) (.ok .non)
          | _=>.no):=by
      intro ds hl
      rw [callF,hdf]
      exact when_of (by simpa using hl) _
    have un:∀ ds d,callF T (defs.map DefT.df) (n + 1) i ds = .ok d → ∃ out,exS T (callF T (defs.map DefT.df) n) t.body (ds.map Sl.v ++ List.replicate (t.N.length - t.ps.length) Sl.no) = .ok out ∧
        ((∃ k,out = .rt d k ∧ (k = true ∨ T.fresh i = false)) ∨ (∃ e,out = .nx e ∧ d = .non ∧ T.fresh i = false)):=by
      intro ds d ev
      rw [open1 ds (lenOf ds _ ev (fun z=>by cases z))] at ev
      cases hx:exX T (callF T (defs.map DefT.df) n) t.body (ds.map Sl.v ++ List.replicate (t.N.length - t.ps.length) Sl.no) with
      | some z=>rw [hx] at ev;cases ev
      | none =>
        rw [hx] at ev
        cases hs:exS T (callF T (defs.map DefT.df) n) t.body (ds.map Sl.v ++ List.replicate (t.N.length - t.ps.length) Sl.no) with
        | ok out =>
          rw [hs] at ev
          refine ⟨out,rfl,?_⟩
          cases out with
          | nx e =>
            obtain ⟨c2,ev⟩:=when_ok ev
            cases ev
            exact .inr ⟨e,rfl,rfl,by simpa using c2⟩
          | rt x k =>
            obtain ⟨c2,ev⟩:=when_ok ev
            cases ev
            exact .inl ⟨k,rfl,by simpa using c2⟩
          | bk e=>cases ev
          | ct e=>cases ev
        | err _ _=>rw [hs] at ev;cases ev
        | no=>rw [hs] at ev;cases ev
    have unX:∀ ds c d,callF T (defs.map DefT.df) (n + 1) i ds = .err c d → exX T (callF T (defs.map DefT.df) n) t.body (ds.map Sl.v ++ List.replicate (t.N.length - t.ps.length) Sl.no) = some (c,d):=by
      intro ds c d ev
      rw [open1 ds (lenOf ds _ ev (fun z=>by cases z))] at ev
      cases hx:exX T (callF T (defs.map DefT.df) n) t.body (ds.map Sl.v ++ List.replicate (t.N.length - t.ps.length) Sl.no) with
      | some z=>rw [hx] at ev;cases ev;rfl
      | none =>
        rw [hx] at ev
        exfalso
        cases hs:exS T (callF T (defs.map DefT.df) n) t.body (ds.map Sl.v ++ List.replicate (t.N.length - t.ps.length) Sl.no) with
        | ok out =>
          rw [hs] at ev
          cases out with
          | nx e=>have ev:when (!T.fresh i) (Res.ok D.non) = Res.err c d:=ev;unfold when at ev;split at ev <;> cases ev
          | rt x k=>have ev:when (k || !T.fresh i) (Res.ok x) = Res.err c d:=ev;unfold when at ev;split at ev <;> cases ev
          | bk e=>cases ev
          | ct e=>cases ev
        | err _ _=>rw [hs] at ev;cases ev
        | no=>rw [hs] at ev;cases ev
    refine fun_okE F S (fun vs H Q E h=>?_) (fun cdv A outer s H vs Q E hr h=>?_)
    · obtain ⟨O,ds,_,rr,⟨d,ev,_⟩ | ⟨c,d,ev,_⟩⟩:=h
      · rw [rr.length];exact lenOf ds _ ev (fun z=>by cases z)
      · rw [rr.length];exact lenOf ds _ ev (fun z=>by cases z)
    · have dfi:∀ g t',defs[g]? = some t' → DefIs T (callF T (defs.map DefT.df) n) (cxOf (CXE P w) P w K mg base t.N t.nm (defScope t.st) f cdv A outer s H E).nox g t'.nm:=fun g t' e=>by
        obtain ⟨f',fd',F',m',b'⟩:=X.funs t' (List.mem_of_getElem? e)
        exact ⟨n,f',fd',t'.ps,ih g t' e f' fd' F',hr,m',F'.kp,b'⟩
      have okx:OkX T (callF T (defs.map DefT.df) n) Tx (cxOf (CXE P w) P w K mg base t.N t.nm (defScope t.st) f cdv A outer s H E).nox :=
        ⟨rfl,hr.units,fun g nm hg=>by
          rw [X.dn,List.getElem?_map] at hg
          cases e:defs[g]? with
          | none=>rw [e] at hg;cases hg
          | some t' =>
            rw [e] at hg
            cases hg
            exact dfi g t' e,fun g nm hg=>X.globs g nm hg,X.blt,S.nd,fun q hq=>by
          obtain ⟨a,xs,h1,h2,h3,h4⟩:=X.tf q hq
          refine ⟨a,xs,h1,h2,h3,fun j g hg=>?_⟩
          obtain ⟨ad,t',h5,h6,h7⟩:=h4 j g hg
          exact ⟨ad,t'.nm,h5,h6,dfi g t' h7⟩,X.ts⟩
      have oks:OkS T (callF T (defs.map DefT.df) n) Tx (cxOf (CXE P w) P w K mg base t.N t.nm (defScope t.st) f cdv A outer s H E).nox:=⟨okx,rfl,fun _=>rfl⟩
      obtain ⟨O,ds,tr,rr,⟨d,ev,k⟩ | ⟨c,d,ev,k⟩⟩:=h
      · have hl:=lenOf ds _ ev (fun z=>by cases z)
        obtain ⟨out,e1,e2⟩:=un ds d ev
        refine ⟨_,((wholeS t.body).2 _ _ oks hok.2 H O).nox,?_⟩
        refine ⟨[],_,out,⟨O,_,fm_start (N:=t.N) rr tr (t.N.length - t.ps.length) (by rw [rr.length,hl]),fun t ht=>by cases ht⟩,e1,?_⟩
        rcases e2 with ⟨fr,rfl,hf⟩ | ⟨e,rfl,rfl,hf⟩
        · intro v H' s' r nl
          refine k v H' s' r fun z=>nl ?_
          rcases hf with q | q
          · exact q
          · rw [z] at q;cases q
        · rintro σ' H' ⟨O',own',F',_⟩
          exact k .non H' F'.same rfl fun z=>by rw [z] at hf;cases hf
      · have hl:=lenOf ds _ ev (fun z=>by cases z)
        have oke:OkE T (callF T (defs.map DefT.df) n) Tx (cxOf (CXE P w) P w K mg base t.N t.nm (defScope t.st) f cdv A outer s H E) E :=
          ⟨oks,pass_xe,X.cls⟩
        refine ⟨_,(wholeX t.body).2 _ E _ oke (.inl fun pins σ H s h' a cls args I hm hE=>raise_xe I hm hE) hok.2 H O,?_⟩
        exact ⟨O,_,_,c,d,fm_start (N:=t.N) rr tr (t.N.length - t.ps.length) (by rw [rr.length,hl]),unX ds c d ev,k⟩
theorem law_sp {i n:Nat} (hT:∀ ns:List Int,ns.length ≤ 63 → callF T (defs.map DefT.df) n i [.lst (ns.map D.int)] = .ok (.bl true)) (K:PySem.W.Frag) (H:Hp) (a:Addr) (ns:List Int) (hl:ns.length ≤ 63) (hS:SqL K H a (ns.map V.int)) :
    spD K (callF T (defs.map DefT.df) n i) (T.fresh i) [.ref a] H (fun v _=>v = .bl true) (fun _ _ _=>False):=by
  refine ⟨no,[.lst (ns.map D.int)],fun a h=>h.elim,⟨.ref a,[],rfl,⟨a,ns.map V.int,rfl,?_,?_⟩,rfl⟩,.inl ⟨.bl true,hT ns hl,fun v H' _ r _=>r⟩⟩
  · rcases hS with z | z
    · exact .inl ⟨fun q=>q,z⟩
    · exact .inr z
  · clear hl hS
    induction ns with
    | nil=>exact rfl
    | cons i r ih=>exact ⟨.int i,r.map V.int,rfl,rfl,ih⟩
end
end Tr
namespace Tr
open PySem PySem.Spec PyProof.Rows L2 PySem.W
structure ToldT where
  ct:Str
  on:Str
  ost:Stmt
  oN:List Str
  op:Str
  ocs:List Str
section
variable {X:Cx} {i:Nat} {x c:Str} {C:Addr} {b:Bool} {p:Expr}
end
end Tr
namespace Tr
open PySem PySem.Spec PyProof.Rows L2 PySem.W
structure ToldK (K:PySem.W.Frag) (mg:Str → Option Value) (td:Told) (x:ToldT) (CT C:Addr):Prop where
  ct:ClsIs K mg x.ct CT
  c:ClsIs K mg td.c C
  mro:Tr.mroIn K C CT = true
  ec:ExcCls K C
  self:PySem.W.kitOne K (.ref C) (.ref C) = some true
  ve:PySem.W.kitOne K (.ref C) (.type "ValueError") = some true
  ocs:∀ c ∈ x.ocs,∃ D,mg c = some (.ref D) ∧ PySem.W.kitOne K (.ref C) (.ref D) = some false
  vm:mg "ValueError" = none
  oth:∃ f fd,Fun K x.on x.on x.ost f fd ∧ mg x.on = some (.ref f) ∧ Binds K fd [x.op] []
section
variable {T:Tab} {cf:Nat → List D → Res D}
end
section
variable {K:PySem.W.Frag} {mg:Str → Option Value} {T:Tab} {Tx:Txt} {defs:List DefT}
end
end Tr
namespace Tr
open PySem PySem.Spec PyProof.Rows L2 PySem.W
section
variable {K:PySem.W.Frag} {mg:Str → Option Value} {T:Tab} {Tx:Txt} {defs:List DefT}
theorem text_plain (X:TextOk0 K mg T Tx defs) (h:defs.filter (fun t=>t.told.isSome) = []):TextOk K mg T Tx defs :=
  ⟨X,fun t ht td e=>by
    have:t ∈ defs.filter (fun t=>t.told.isSome):=List.mem_filter.mpr ⟨ht,by rw [e];rfl⟩
    rw [h] at this;cases this⟩
end
end Tr
namespace Tr
open PySem PySem.Spec PyProof.Rows L2
theorem len1 {P:List Value → Prop} (h:∀ a0:Value,P [a0]):∀ us:List Value,us.length = 1 → P us
  | [_],_=>h _
theorem len2 {P:List Value → Prop} (h:∀ a0 a1:Value,P [a0,a1]):∀ us:List Value,us.length = 2 → P us
  | [_,_],_=>h _ _
theorem len3 {P:List Value → Prop} (h:∀ a0 a1 a2:Value,P [a0,a1,a2]):∀ us:List Value,us.length = 3 → P us
  | [_,_,_],_=>h _ _ _
theorem len4 {P:List Value → Prop} (h:∀ a0 a1 a2 a3:Value,P [a0,a1,a2,a3]):∀ us:List Value,us.length = 4 → P us
  | [_,_,_,_],_=>h _ _ _ _
theorem fun_in {K:PySem.W.Frag} {h:Heap} {mg:Str → Option Value} (X:K.In h) (G:h.Ns mainGlobals mg) {x:Str} {st:Stmt} {ps:List Str} {f:Addr} {oc:Value} {od an:Option Addr} {osl:Array (Option Value)} {kV doc pm cdv ct:Value}
    (a:PySem.W.nsIn K mainGlobals x = some (some (.ref f))) (l:K.lookup f = some ⟨oc,od,.func (PySem.W.fnOf x x (defArgs st) (defBody st) (defScope st) .none kV doc pm an cdv ct),osl⟩)
    (c:PySem.W.codeIn K cdv x = true) (k:PySem.W.keepIn K (.ref f) = true)
    (hb:∀ (kV doc pm:Value) (an:Option Addr) (cdv ct:Value) (us:List Value),us.length = ps.length → bindArgs (PySem.W.fnOf x x (defArgs st) (defBody st) (defScope st) .none kV doc pm an cdv ct) ⟨us,[]⟩ = pure (ps.zip us)) :
    ∃ f fd,Fun K x x st f fd ∧ mg x = some (.ref f) ∧ Binds K fd ps [] :=
  ⟨f,_,fun_mk l c k,PySem.W.mg_of X G a,(fun_mk (st:=st) l c k).binds hb⟩
theorem glob_int {K:PySem.W.Frag} {h:Heap} {mg:Str → Option Value} (X:K.In h) (G:h.Ns mainGlobals mg) {x:Str} {i:Int} {t:Tok} (a:PySem.W.nsIn K mainGlobals x = some (some (.int i t))):GlobK K mg x (.int i) :=
  ⟨.int i,.int i t,PySem.W.mg_of X G a,⟨t,rfl⟩,fun _ _=>rfl⟩
theorem glob_str {K:PySem.W.Frag} {h:Heap} {mg:Str → Option Value} (X:K.In h) (G:h.Ns mainGlobals mg) {x:Str} {i:Str} {t:Tok} (a:PySem.W.nsIn K mainGlobals x = some (some (.str i t))):GlobK K mg x (.str i) :=
  ⟨.str i,.str i t,PySem.W.mg_of X G a,⟨t,rfl⟩,fun _ _=>rfl⟩
noncomputable def strVals:List Value → List Str → Bool
  | [],[]=>true
  | .str x _ :: r,y :: q=>(x == y) && strVals r q
  | _,_=>false
noncomputable def Ents (K:PySem.W.Frag) (defs:List DefT):List Value → List Nat → Prop
  | [],[]=>True
  | u :: us,f :: fs=>(∃ ad t m,u = .ref ad ∧ defs[f]? = some t ∧ t.nm = m ∧ PySem.W.nsIn K mainGlobals m = some (some (.ref ad))) ∧ Ents K defs us fs
  | _,_=>False
theorem blt_none {K:PySem.W.Frag} {h:Heap} {mg:Str → Option Value} (X:K.In h) (G:h.Ns mainGlobals mg) {x:Str} (a:PySem.W.nsIn K mainGlobals x = some none):mg x = none:=PySem.W.mg_none_of X G a
theorem walkT {l:PySem.W.OpenLaw} {q:Program} {loose:List Str} {XP:(Str → Option Value) → Heap → Prop} {YP:World → Heap → Prop} {d:DefRec} {K:Params → PySem.W.Frag} {T:Tab} {Tx:Txt} {defs:List DefT} {i n:Nat} {tl:DefT} {x:Str}
    (hi:defs[i]? = some tl) (hps:tl.ps = [x]) (hnm:tl.nm = d.name)
    (hn:l.most = some 63) (hdf:d.params.defaults = []) (hr:Room n callerA)
    (hT:∀ ns:List Int,ns.length ≤ 63 → callF T (defs.map DefT.df) n i [.lst (ns.map D.int)] = .ok (.bl true))
    (hY:∀ (w:World) (h:Heap),YP w h → (K w.params).In h)
    (hX:∀ (w:World) (mg:Str → Option Value) (h:Heap),(K w.params).In h → h.Ns mainGlobals mg → TextOk (K w.params) mg T Tx defs)
    (hb:∀ (kV doc pm:Value) (an:Option Addr) (cdv ct:Value) (u:Value),bindArgs (PySem.W.fnOf tl.nm tl.nm (defArgs tl.st) (defBody tl.st) (defScope tl.st) .none kV doc pm an cdv ct) ⟨[u],[]⟩ = pure [(x,u)]) :
    PySem.W.WalkO q loose XP YP l.row.toRowW d [] (fun f vs=>PySem.call f vs):=by
  refine L2.walk_of (K:=K) (n:=63) (k:=n) (x:=x) (CX:=fun w=>CXE l.prog w) (sp:=fun w=>spD (K w.params) (callF T (defs.map DefT.df) n i) (T.fresh i)) hn (by decide) hdf hr hY ?_ (fun w H a ns hl _ hS=>law_sp hT (K w.params) H a ns hl hS) (fun _ _ _ _ _ ⟨_,_,_,_,_,_,_,_,_,_,_,_,_,_,_,z⟩=>z)
  intro w mg fa h KX G hmg
  have tx:=hX w mg h KX G
  obtain ⟨f,fd,F,m,_⟩:=tx.funs tl (List.mem_of_getElem? hi)
  rw [hnm,hmg] at m
  cases m
  refine ⟨fd,fun s u=>?_,fun base kb nb=>?_⟩
  · obtain ⟨oc,od,kV,doc,pm,an,cdv,ct,osl,rfl,lk,hcd⟩:=F.ex
    exact .of_eq (hb kV doc pm an cdv ct u)
  · have:=defs_ok (P:=l.prog) (w:=w) (base:=base) tx n i tl hi fa fd F
    rw [hps] at this
    exact this
end Tr
namespace Tr
theorem all_cons {α:Type} {p:α → Prop} {a:α} {l:List α} (h:p a) (r:∀ x ∈ l,p x):∀ x ∈ a :: l,p x:=List.forall_mem_cons.mpr ⟨h,r⟩
theorem all_nil {α:Type} {p:α → Prop}:∀ x ∈ ([]:List α),p x:=fun _ h=>by cases h
theorem gl_cons {α:Type} {p:Nat → α → Prop} {a:α} {l:List α} (h:p 0 a) (r:∀ g n,l[g]? = some n → p (g + 1) n):∀ g n,(a :: l)[g]? = some n → p g n
  | 0,n,e=>by simp at e;subst e;exact h
  | g + 1,n,e=>r g n (by simpa using e)
theorem gl_nil {α:Type} {p:Nat → α → Prop}:∀ g n,([]:List α)[g]? = some n → p g n:=fun g n e=>by simp at e
end Tr
namespace Tr
open PySem
section
variable {T:Tab} {cf:Nat → List D → Res D} {e:Nv}
@[simp] theorem evE_var {i:Nat}:evE T cf (.var i) e = (e.at i).val:=id rfl
@[simp] theorem evE_rd {i:Nat}:evE T cf (.rd i) e = (e.at i).any:=id rfl
@[simp] theorem evE_con {d:D}:evE T cf (.con d) e = .ok d:=id rfl
@[simp] theorem evE_glob {g:Nat}:evE T cf (.glob g) e = .ok (T.glob g):=id rfl
@[simp] theorem evE_bin {o:Operator} {a b:E}:evE T cf (.bin o a b) e = (do let x ← evE T cf a e;let y ← evE T cf b e;D.bin o x y):=id rfl
@[simp] theorem evE_cmp {o:CmpOp} {a b:E}:evE T cf (.cmp o a b) e = (do let x ← evE T cf a e;let y ← evE T cf b e;D.cmp o x y):=id rfl
@[simp] theorem evE_and {a b:E}:evE T cf (.and a b) e = (do let x ← evE T cf a e;let k ← x.truth;if k then evE T cf b e else .ok x):=id rfl
@[simp] theorem evE_or {a b:E}:evE T cf (.or a b) e = (do let x ← evE T cf a e;let k ← x.truth;if k then .ok x else evE T cf b e):=id rfl
@[simp] theorem evE_not {a:E}:evE T cf (.not a) e = (do let x ← evE T cf a e;let k ← x.truth;.ok (.bl (!k))):=id rfl
@[simp] theorem evE_ix {a b:E}:evE T cf (.ix a b) e = (do let x ← evE T cf a e;let y ← evE T cf b e;D.ix x y):=id rfl
@[simp] theorem evE_sl {a lo hi:E}:evE T cf (.sl a lo hi) e = (do let x ← evE T cf a e;let l ← evE T cf lo e;let l ← l.part;let h ← evE T cf hi e;let h ← h.part;D.sl x l h):=id rfl
@[simp] theorem evE_omit:evE T cf .omit e = .ok .non:=id rfl
@[simp] theorem evE_tup {a:E}:evE T cf (.tup a) e = (do let xs ← evA T cf a e;.ok (.tup xs)):=id rfl
@[simp] theorem evE_lst {a:E}:evE T cf (.lst a) e = (do let xs ← evA T cf a e;.ok (.lst xs)):=id rfl
@[simp] theorem evE_call {f:Nat} {a:E}:evE T cf (.call f a) e = (do let xs ← evA T cf a e;cf f xs):=id rfl
@[simp] theorem evE_bt {b:Bt} {a:E}:evE T cf (.bt b a) e = (do let xs ← evA T cf a e;b.run xs):=id rfl
@[simp] theorem evE_isi {a:E} {t:Ty}:evE T cf (.isi a t) e = (do let x ← evE T cf a e;when (!x.isDct) (.ok (.bl (x.isTy t)))):=id rfl
@[simp] theorem evE_lset {a:E}:evE T cf (.lset a) e = (do let x ← evE T cf a e;x.setN):=id rfl
theorem setN_of {x:D} {ks:List (Sum Int Str)} (h:x.keys = .ok ks):x.setN = when (decide (ks.length + 1 < 4096)) (.ok (.int (metD ks).length)):=by
  unfold D.setN
  rw [h]
noncomputable def negR:D → Res D
  | .int i=>.ok (.int (-i))
  | _=>.no
@[simp] theorem neg_int {i:Int}:negR (.int i) = .ok (.int (-i)):=id rfl
@[simp] theorem evE_neg {a:E}:evE T cf (.neg a) e = (evE T cf a e >>= negR):=by
  rw [xE_neg]
  cases evE T cf a e with
  | ok x=>cases x <;> rfl
  | err _ _=>rfl
  | no=>rfl
noncomputable def thenC (r:Res D):D → Res D
  | .bl true=>r
  | .bl false=>.ok (.bl false)
  | _=>.no
@[simp] theorem thenC_bl {r:Res D} {b:Bool}:thenC r (.bl b) = if b = true then r else .ok (.bl false):=by cases b <;> rfl
@[simp] theorem evE_chain {o p:CmpOp} {a b c:E}:evE T cf (.chain o p a b c) e = (do
    let x ← evE T cf a e
    let y ← evE T cf b e
    let w ← D.cmp o x y
    thenC (do let z ← evE T cf c e;D.cmp p y z) w):=by
  rw [xE_chain]
  cases evE T cf a e with
  | ok x =>
    cases evE T cf b e with
    | ok y =>
      show (D.cmp o x y >>= _) = (D.cmp o x y >>= _)
      cases D.cmp o x y with
      | ok w =>
        cases w with
        | bl b=>cases b <;> rfl
        | _=>rfl
      | err _ _=>rfl
      | no=>rfl
    | err _ _=>rfl
    | no=>rfl
  | err _ _=>rfl
  | no=>rfl
noncomputable def compF (T:Tab) (cf:Nat → List D → Res D) (own:Nat) (caps:List Nat) (g:G) (elt cond:E) (e:Nv) (d:D):Res (Option D):=do
  let e1 ← g.put d (compEnv own caps e)
  let c ← evE T cf cond e1
  let k ← c.truth
  if k then do let y ← evE T cf elt e1;.ok (some y) else .ok none
@[simp] theorem evE_comp {own:Nat} {caps:List Nat} {g:G} {elt src cond:E}:evE T cf (.comp own caps g elt src cond) e = (do
    let ds ← evI T cf src e
    let ys ← compL (compF T cf own caps g elt cond e) ds
    when (decide (ds.length ≤ big)) (.ok (.lst ys))):=id rfl
@[simp] theorem evA_nil:evA T cf .anil e = .ok []:=id rfl
@[simp] theorem evA_cons {a r:E}:evA T cf (.acons a r) e = (do let x ← evE T cf a e;let q ← evA T cf r e;when (decide (q.length < 1000)) (.ok (x :: q))):=id rfl
@[simp] theorem evI_seq {a:E}:evI T cf (.seq a) e = (do let x ← evE T cf a e;x.items):=id rfl
noncomputable def rngR:D → Res (List D)
  | .int n=>when (small62 n) (.ok (rangeD 0 n.toNat))
  | _=>.no
noncomputable def rng2R:D → D → Res (List D)
  | .int n,.int m=>when (small62 n && small62 m) (.ok (rangeD n (m - n).toNat))
  | _,_=>.no
noncomputable def enumR:D → Res (List D)
  | .lst ds=>.ok (enumD 0 ds)
  | .tup ds=>.ok (enumD 0 ds)
  | _=>.no
@[simp] theorem evI_rng {a:E}:evI T cf (.rng a) e = (do let x ← evE T cf a e;rngR x):=by
  rw [xI_rng]
  cases evE T cf a e with
  | ok x=>cases x <;> rfl
  | err _ _=>rfl
  | no=>rfl
@[simp] theorem evI_rng2 {a b:E}:evI T cf (.rng2 a b) e = (do let x ← evE T cf a e;match x with | .int _=>do let y ← evE T cf b e;rng2R x y | _=>.no):=by
  rw [xI_rng2]
  cases evE T cf a e with
  | ok x =>
    cases x <;> try rfl
    show (do let y ← evE T cf b e;_) = (do let y ← evE T cf b e;_)
    cases evE T cf b e with
    | ok y=>cases y <;> rfl
    | err _ _=>rfl
    | no=>rfl
  | err _ _=>rfl
  | no=>rfl
@[simp] theorem evI_enum {a:E}:evI T cf (.enum a) e = (do let x ← evE T cf a e;enumR x):=by
  rw [xI_enum]
  cases evE T cf a e with
  | ok x=>cases x <;> rfl
  | err _ _=>rfl
  | no=>rfl
theorem rng_ok {n:Nat} (h:n < 4611686018427387904):rngR (.int n) = .ok (rangeD 0 n):=by
  show when (small62 n) _ = _
  rw [when_of (by unfold small62;rw [decide_eq_true (by (first | lia | omega)),decide_eq_true (by (first | lia | omega))];rfl)]
  simp
theorem rng2_ok {n m:Nat} (h:n < 4611686018427387904) (h2:m < 4611686018427387904):rng2R (.int n) (.int m) = .ok (rangeD n (m - n)):=by
  show when (small62 n && small62 m) _ = _
  rw [when_of (by unfold small62;rw [decide_eq_true (by (first | lia | omega)),decide_eq_true (by (first | lia | omega)),decide_eq_true (by (first | lia | omega)),decide_eq_true (by (first | lia | omega))];rfl)]
  congr 2
  (first | lia | omega)
@[simp] theorem enum_ok {ds:List D}:enumR (.lst ds) = .ok (enumD 0 ds):=id rfl
noncomputable def bodyF (T:Tab) (cf:Nat → List D → Res D) (g:G) (b:S) (d:D) (e0:Nv):Res Out:=do let e1 ← g.put d e0;exS T cf b e1
noncomputable def testF (T:Tab) (cf:Nat → List D → Res D) (c:E) (e0:Nv):Res Bool:=do let x ← evE T cf c e0;x.truth
noncomputable def thenS (T:Tab) (cf:Nat → List D → Res D) (r:S):Out → Res Out
  | .nx e1=>exS T cf r e1
  | o=>.ok o
@[simp] theorem thenS_nx {r:S}:thenS T cf r (.nx e) = exS T cf r e:=id rfl
@[simp] theorem thenS_rt {r:S} {d:D} {k:Bool}:thenS T cf r (.rt d k) = .ok (.rt d k):=id rfl
@[simp] theorem exS_nil:exS T cf .nil e = .ok (.nx e):=id rfl
@[simp] theorem exS_cons {a r:S}:exS T cf (.cons a r) e = (exS T cf a e >>= thenS T cf r):=by
  rw [xS_cons]
  cases exS T cf a e with
  | ok o=>cases o <;> rfl
  | err _ _=>rfl
  | no=>rfl
@[simp] theorem exS_ret {x:E}:exS T cf (.ret x) e = (do let d ← evE T cf x e;.ok (.rt d (freshE T x && !tupL d))):=id rfl
@[simp] theorem tupL_lst {a:List D}:tupL (.lst a) = false:=id rfl
@[simp] theorem tupL_int {a:Int}:tupL (.int a) = false:=id rfl
@[simp] theorem tupL_str {a:Str}:tupL (.str a) = false:=id rfl
@[simp] theorem tupL_ttup {a r:List D}:tupL (.tup (.tup a :: r)) = false:=id rfl
@[simp] theorem tupL_tstr {a:Str} {r:List D}:tupL (.tup (.str a :: r)) = false:=id rfl
@[simp] theorem exS_retO {i:Nat}:exS T cf (.retO i) e = (do let a ← (e.at i).ownA;.ok (.rt a true)):=id rfl
@[simp] theorem exS_asg {g:G} {x:E}:exS T cf (.asg g x) e = (do let d ← evE T cf x e;let e1 ← g.put d e;.ok (.nx e1)):=id rfl
noncomputable def setO (k:Bool) (i:Nat) (e:Nv):D → Res Out
  | .lst a=>when k (.ok (.nx (e.set i (.o (.lst a)))))
  | .dct a=>when k (.ok (.nx (e.set i (.o (.dct a)))))
  | .tdc a=>when k (.ok (.nx (e.set i (.o (.tdc a)))))
  | _=>.no
@[simp] theorem setO_ok {i:Nat} {a:List D}:setO true i e (.lst a) = .ok (.nx (e.set i (.o (.lst a)))):=id rfl
@[simp] theorem exS_asgO {i:Nat} {x:E}:exS T cf (.asgO i x) e = (do let d ← evE T cf x e;setO (freshE T x) i e d):=by
  rw [xS_asgO]
  cases evE T cf x e with
  | ok o=>cases o <;> rfl
  | err _ _=>rfl
  | no=>rfl
@[simp] theorem exS_ite {c:E} {a b:S}:exS T cf (.ite c a b) e = (do let x ← evE T cf c e;let k ← x.truth;if k then exS T cf a e else exS T cf b e):=id rfl
@[simp] theorem exS_for {g:G} {src:E} {b:S}:exS T cf (.forS g src b) e = (do let ds ← evI T cf src e;forL (bodyF T cf g b) ds e):=id rfl
@[simp] theorem exS_app {i:Nat} {x:E}:exS T cf (.app i x) e = (do
    let d ← evE T cf x e
    let a ← (e.at i).own
    when (decide (a.length < big)) (.ok (.nx (e.set i (.o (.lst (a ++ [d]))))))):=id rfl
noncomputable def extO (k:Bool) (i:Nat) (e:Nv):D → Res Out
  | .lst b=>do
    let a ← (e.at i).own
    when (k && decide (a.length + b.length ≤ big)) (.ok (.nx (e.set i (.o (.lst (a ++ b))))))
  | _=>.no
@[simp] theorem extO_eq {k:Bool} {i:Nat} {b:List D}:extO k i e (.lst b) = (do
    let a ← (e.at i).own
    when (k && decide (a.length + b.length ≤ big)) (.ok (.nx (e.set i (.o (.lst (a ++ b))))))):=id rfl
@[simp] theorem exS_ext {i:Nat} {x:E}:exS T cf (.ext i x) e = (do let d ← evE T cf x e;extO (freshE T x) i e d):=by
  rw [xS_ext]
  cases evE T cf x e with
  | ok o=>cases o <;> rfl
  | err _ _=>rfl
  | no=>rfl
@[simp] theorem exS_never:exS T cf .never e = .no:=id rfl
@[simp] theorem exS_exp {x:E}:exS T cf (.exp x) e = (do let _ ← evE T cf x e;.ok (.nx e)):=id rfl
@[simp] theorem fresh_lst {a:E}:freshE T (.lst a) = true:=id rfl
@[simp] theorem fresh_add {a b:E}:freshE T (.bin .Add a b) = true:=id rfl
@[simp] theorem fresh_comp {n:Nat} {c:List Nat} {g:G} {x y z:E}:freshE T (.comp n c g x y z) = true:=id rfl
@[simp] theorem fresh_call {f:Nat} {a:E}:freshE T (.call f a) = T.fresh f:=id rfl
end
@[simp] theorem when_if {α:Type} {c:Bool} (h:c = true) (r:Res α):when c r = r:=when_of h r
@[simp] theorem at_zero {x:Sl} {r:List Sl}:Nv.at (x :: r) 0 = x:=id rfl
@[simp] theorem at_succ {x:Sl} {r:List Sl} {i:Nat}:Nv.at (x :: r) (i + 1) = Nv.at r i:=id rfl
@[simp] theorem val_v {d:D}:(Sl.v d).val = .ok d:=id rfl
@[simp] theorem any_o {d:D}:(Sl.o d).any = .ok d:=id rfl
@[simp] theorem own_o {a:List D}:(Sl.o (.lst a)).own = .ok a:=id rfl
@[simp] theorem ownA_o {d:D}:(Sl.o d).ownA = .ok d:=id rfl
@[simp] theorem isDct_tup {i:List D}:(D.tup i).isDct = false:=id rfl
@[simp] theorem isDct_lst {i:List D}:(D.lst i).isDct = false:=id rfl
@[simp] theorem put_one {i:Nat} {d:D} {e:Nv}:G.put (.one i) d e = .ok (e.set i (.v d)):=id rfl
@[simp] theorem put_many {is:List Nat} {ds:List D} {e:Nv}:G.put (.many is) (.tup ds) e = puts is ds e:=id rfl
@[simp] theorem puts_nil {e:Nv}:puts [] [] e = .ok e:=id rfl
@[simp] theorem puts_cons {i:Nat} {is:List Nat} {d:D} {ds:List D} {e:Nv}:puts (i :: is) (d :: ds) e = puts is ds (e.set i (.v d)):=id rfl
@[simp] theorem truth_bl {b:Bool}:(D.bl b).truth = .ok b:=id rfl
@[simp] theorem bin_add {i j:Int}:D.bin .Add (.int i) (.int j) = .ok (.int (i + j)):=id rfl
@[simp] theorem bin_sub {i j:Int}:D.bin .Sub (.int i) (.int j) = .ok (.int (i - j)):=id rfl
@[simp] theorem bin_mulL {i j:Int} (h:-(2 ^ 64) < i ∧ i < 2 ^ 64):D.bin .Mult (.int i) (.int j) = .ok (.int (i * j)):=by
  show when (small64 i || small64 j) _ = _
  rw [when_of]
  unfold small64
  rw [decide_eq_true h.1,decide_eq_true h.2];rfl
@[simp] theorem bin_mod {i j:Int} (h:0 < j):D.bin .Mod (.int i) (.int j) = .ok (.int (i % j)):=by
  show when (decide (0 < j)) _ = _
  rw [when_of (decide_eq_true h)]
@[simp] theorem bin_fdiv {i j:Int} (h:0 < j ∧ j < 1073741824):D.bin .FloorDiv (.int i) (.int j) = .ok (.int (i / j)):=by
  show when (decide (0 < j) && decide (j < 1073741824)) _ = _
  rw [when_of]
  rw [decide_eq_true h.1,decide_eq_true h.2];rfl
theorem bin_pow {i j:Int} (h:0 ≤ j ∧ j ≤ 1000000 ∧ i.natAbs < 2 ^ 64):D.bin .Pow (.int i) (.int j) = .ok (.int (i ^ j.toNat)):=by
  show when (decide (0 ≤ j) && decide (j ≤ 1000000) && decide (i.natAbs < 2 ^ 64)) _ = _
  rw [when_of]
  rw [decide_eq_true h.1,decide_eq_true h.2.1,decide_eq_true h.2.2];rfl
@[simp] theorem bin_pow9:D.bin .Pow (.int 10) (.int 9) = .ok (.int 1000000000):=bin_pow ⟨by decide,by decide,by decide⟩
@[simp] theorem cmp_lt {i j:Int}:D.cmp .Lt (.int i) (.int j) = .ok (.bl (decide (i < j))):=id rfl
@[simp] theorem cmp_le {i j:Int}:D.cmp .LtE (.int i) (.int j) = .ok (.bl (decide (i ≤ j))):=id rfl
@[simp] theorem cmp_eqi {i j:Int}:D.cmp .Eq (.int i) (.int j) = .ok (.bl (i == j)):=id rfl
@[simp] theorem cmp_nei {i j:Int}:D.cmp .NotEq (.int i) (.int j) = .ok (.bl (!(i == j))):=id rfl
@[simp] theorem cmp_is {a:D}:D.cmp .Is a .non = .ok (.bl a.isNon):=id rfl
@[simp] theorem cmp_isnot {a:D}:D.cmp .IsNot a .non = .ok (.bl (!a.isNon)):=id rfl
@[simp] theorem isNon_non:D.non.isNon = true:=id rfl
@[simp] theorem isNon_int {i:Int}:(D.int i).isNon = false:=id rfl
@[simp] theorem run_len_l {a:List D}:Bt.run .len [.lst a] = .ok (.int a.length):=id rfl
@[simp] theorem run_len_t {a:List D}:Bt.run .len [.tup a] = .ok (.int a.length):=id rfl
@[simp] theorem run_tup_l {a:List D}:Bt.run .tuple [.lst a] = .ok (.tup a):=id rfl
@[simp] theorem run_lst_l {a:List D}:Bt.run .list [.lst a] = .ok (.lst a):=id rfl
@[simp] theorem run_int_b {b:Bool}:Bt.run .int [.bl b] = .ok (.int (b2z b)):=id rfl
theorem intsOf_map:∀ ns:List Int,intsOf (ns.map D.int) = .ok ns
  | []=>rfl
  | i :: r=>by rw [List.map_cons,intsOf,intsOf_map r];rfl
@[simp] theorem run_sum {ns:List Int}:Bt.run .sum [.lst (ns.map D.int)] = .ok (.int ns.sum):=by
  show (do let q ← intsOf (ns.map D.int);.ok (D.int q.sum)) = _
  rw [intsOf_map];rfl
@[simp] theorem run_sum_map {α:Type} {f:α → Int} {xs:List α}:Bt.run .sum [.lst (xs.map (D.int ∘ f))] = .ok (.int (xs.map f).sum):=by rw [← List.map_map,run_sum]
@[simp] theorem part_int {i:Int}:(D.int i).part = .ok (some i):=id rfl
@[simp] theorem part_non:D.non.part = .ok none:=id rfl
@[simp] theorem sl_l {a:List D} {lo hi:Option Int}:D.sl (.lst a) lo hi = .ok (.lst (cut a lo hi)):=id rfl
@[simp] theorem sl_t {a:List D} {lo hi:Option Int}:D.sl (.tup a) lo hi = .ok (.tup (cut a lo hi)):=id rfl
@[simp] theorem items_l {a:List D}:(D.lst a).items = .ok a:=id rfl
@[simp] theorem items_t {a:List D}:(D.tup a).items = .ok a:=id rfl
theorem ix_l {a:List D} {i:Nat} {d:D} (h:a[i]? = some d):D.ix (.lst a) (.int i) = .ok d:=by
  have hi:=(List.getElem?_eq_some_iff.mp h).1
  show Res.of (atI a i) = _
  unfold atI ixN
  rw [if_pos (Int.natCast_nonneg i),if_pos (by (first | lia | omega))]
  simp [h,Res.of]
theorem ix_t {a:List D} {i:Nat} {d:D} (h:a[i]? = some d):D.ix (.tup a) (.int i) = .ok d:=by
  have hi:=(List.getElem?_eq_some_iff.mp h).1
  show Res.of (atI a i) = _
  unfold atI ixN
  rw [if_pos (Int.natCast_nonneg i),if_pos (by (first | lia | omega))]
  simp [h,Res.of]
theorem ix_lI {a:List D} {i:Int} {d:D} (h0:0 ≤ i) (h:a[i.toNat]? = some d):D.ix (.lst a) (.int i) = .ok d:=by
  obtain ⟨n,rfl⟩:=Int.eq_ofNat_of_zero_le h0
  exact ix_l (by simpa using h)
theorem ix_tI {a:List D} {i:Int} {d:D} (h0:0 ≤ i) (h:a[i.toNat]? = some d):D.ix (.tup a) (.int i) = .ok d:=by
  obtain ⟨n,rfl⟩:=Int.eq_ofNat_of_zero_le h0
  exact ix_t (by simpa using h)
theorem callF_rt {T:Tab} {D:List Df} {n f:Nat} {ds:List Tr.D} {d:Df} {x:Tr.D} {k:Bool} (h:D[f]? = some d) (hl:ds.length = d.pars) (hk:(k || !T.fresh f) = true)
    (he:exS T (callF T D n) d.body (ds.map Sl.v ++ List.replicate (d.names - d.pars) Sl.no) = .ok (.rt x k)) (ht:d.told = none:=by rfl):callF T D (n + 1) f ds = .ok x:=by
  rw [callF,h]
  show when (ds.length == d.pars) _ = _
  rw [when_of (by simpa using hl),ht]
  cases hx:exX T (callF T D n) d.body (ds.map Sl.v ++ List.replicate (d.names - d.pars) Sl.no) with
  | some z=>exact absurd he (exX_not hx _)
  | none =>
    dsimp only
    rw [he]
    show when (k || !T.fresh f) _ = _
    rw [when_of hk]
theorem callF_nx {T:Tab} {D:List Df} {n f:Nat} {ds:List Tr.D} {d:Df} {e:Nv} (h:D[f]? = some d) (hl:ds.length = d.pars) (hk:T.fresh f = false)
    (he:exS T (callF T D n) d.body (ds.map Sl.v ++ List.replicate (d.names - d.pars) Sl.no) = .ok (.nx e)) (ht:d.told = none:=by rfl):callF T D (n + 1) f ds = .ok .non:=by
  rw [callF,h]
  show when (ds.length == d.pars) _ = _
  rw [when_of (by simpa using hl),ht]
  cases hx:exX T (callF T D n) d.body (ds.map Sl.v ++ List.replicate (d.names - d.pars) Sl.no) with
  | some z=>exact absurd he (exX_not hx _)
  | none =>
    dsimp only
    rw [he]
    show when (!T.fresh f) _ = _
    rw [hk];rfl
@[simp] theorem ix_t0 {a:D} {r:List D}:D.ix (.tup (a :: r)) (.int 0) = .ok a:=ix_t (i:=0) rfl
@[simp] theorem ix_t1 {a b:D} {r:List D}:D.ix (.tup (a :: b :: r)) (.int 1) = .ok b:=ix_t (i:=1) rfl
@[simp] theorem ix_t2 {a b c:D} {r:List D}:D.ix (.tup (a :: b :: c :: r)) (.int 2) = .ok c:=ix_t (i:=2) rfl
@[simp] theorem ix_t3 {a b c d:D} {r:List D}:D.ix (.tup (a :: b :: c :: d :: r)) (.int 3) = .ok d:=ix_t (i:=3) rfl
@[simp] theorem ix_l0 {a:D} {r:List D}:D.ix (.lst (a :: r)) (.int 0) = .ok a:=ix_l (i:=0) rfl
@[simp] theorem ix_l1 {a b:D} {r:List D}:D.ix (.lst (a :: b :: r)) (.int 1) = .ok b:=ix_l (i:=1) rfl
theorem forL_nil {f:D → Nv → Res Out} {e:Nv}:forL f [] e = .ok (.nx e):=rfl
theorem forL_nx {f:D → Nv → Res Out} {d:D} {r:List D} {e e1:Nv} (h:f d e = .ok (.nx e1)):forL f (d :: r) e = forL f r e1:=by rw [forL,h];rfl
theorem forL_ct {f:D → Nv → Res Out} {d:D} {r:List D} {e e1:Nv} (h:f d e = .ok (.ct e1)):forL f (d :: r) e = forL f r e1:=by rw [forL,h];rfl
theorem forL_rt {f:D → Nv → Res Out} {d:D} {r:List D} {e:Nv} {x:D} {k:Bool} (h:f d e = .ok (.rt x k)):forL f (d :: r) e = .ok (.rt x k):=by rw [forL,h];rfl
theorem forL_inv {f:D → Nv → Res Out} (I:Nat → Nv → Prop):∀ (ds:List D) (e:Nv) (j:Nat),I j e → (∀ i d e,ds[i]? = some d → I (j + i) e → ∃ e',(f d e = .ok (.nx e') ∨ f d e = .ok (.ct e')) ∧ I (j + i + 1) e') → ∃ e',forL f ds e = .ok (.nx e') ∧ I (j + ds.length) e'
  | [],e,j,h,_=>⟨e,rfl,h⟩
  | d :: r,e,j,h,st=>by
    obtain ⟨e1,h1,h2⟩:=st 0 d e rfl h
    obtain ⟨e2,h3,h4⟩:=forL_inv I r e1 (j + 1) h2 fun i d' e' hd hI=>by
      have:=st (i + 1) d' e' (by simpa using hd) (by rw [show j + (i + 1) = j + 1 + i by (first | lia | omega)];exact hI)
      rw [show j + (i + 1) + 1 = j + 1 + i + 1 by (first | lia | omega)] at this
      exact this
    refine ⟨e2,?_,by rw [List.length_cons,show j + (r.length + 1) = j + 1 + r.length by (first | lia | omega)];exact h4⟩
    rcases h1 with h1 | h1
    · rw [forL_nx h1,h3]
    · rw [forL_ct h1,h3]
theorem rangeD_eq:∀ (lo:Int) (n:Nat),rangeD lo n = (List.range n).map fun i=>.int (lo + (i:Int))
  | lo,0=>rfl
  | lo,n + 1=>by
    rw [rangeD,rangeD_eq (lo + 1) n,List.range_succ_eq_map,List.map_cons,List.map_map]
    congr 1
    · simp
    · apply List.map_congr_left
      intro i _
      simp only [Function.comp]
      congr 1
      push_cast
      (first | lia | omega)
@[simp] theorem rangeD_length {lo:Int} {n:Nat}:(rangeD lo n).length = n:=by rw [rangeD_eq];simp
@[simp] theorem enumD_length:∀ {k:Int} {ds:List D},(enumD k ds).length = ds.length
  | k,[]=>rfl
  | k,x :: r=>by rw [enumD,List.length_cons,List.length_cons,enumD_length]
end Tr
set_option maxRecDepth 100000
namespace Tr
open PySem
noncomputable def cellV (ns:List Int) (k:Nat):Int:=ns.getD k 0
noncomputable def minV (n:Int):Int:=([0,n / 5 % 7,n / 5 % 31,n / 5 % 400,n * n % 1000000000]:List Int).getD (n % 5).toNat 0
set_option genInjectivity false in
structure Part where
  name:Str
  voice:Str
  off:Int
  on:Int
noncomputable def Part.enc (p:Part):D:=.tup [.str p.name,.str p.voice,.int p.off,.int p.on]
structure Scene where
  name:Str
  len:Int
  pause:Int
  who:List Nat
noncomputable def natD (ws:List Nat):List D:=ws.map fun (i:Nat)=>D.int (i:Int)
noncomputable def Scene.enc (s:Scene):D:=.tup [.str s.name,.int s.len,.int s.pause,.tup (natD s.who)]
theorem ix_str {x:Str} {i:Nat} (h:i < x.cps.size) (hb:x.length ≤ big):∃ y:Str,D.ix (.str x) (.int i) = .ok (.str y) ∧ y.length = 1:=by
  refine ⟨⟨#[x.cps[i]]⟩,?_,rfl⟩
  show when (decide (x.length ≤ big)) (Res.of ((atI x.cps.toList i).map fun c=>D.str ⟨#[c]⟩)) = _
  rw [when_of (decide_eq_true hb)]
  unfold atI ixN
  rw [if_pos (Int.natCast_nonneg i),if_pos (by simp;(first | lia | omega))]
  simp [h,Res.of]
@[simp] theorem add_str {x y:Str} (h:x.length + y.length ≤ big):D.bin .Add (.str x) (.str y) = .ok (.str (x ++ y)):=by
  show when (decide (x.length + y.length ≤ big)) _ = _
  rw [when_of (decide_eq_true h)]
theorem ten_big:(1000:Nat) < big:=by decide
set_option genInjectivity false in
structure GoodScene (many:Nat) (s:Scene):Prop where
  len:0 ≤ s.len
  pause:0 ≤ s.pause
  nd:s.who.Nodup
  lt:∀ i ∈ s.who,i < many
theorem natD_length (ws:List Nat):(natD ws).length = ws.length:=by unfold natD;simp
theorem natD_mem (i:Nat):∀ ws:List Nat,D.mem (.int i) (natD ws) = decide (i ∈ ws)
  | []=>rfl
  | w :: r=>by
    show (D.eqb (.int w) (.int i) || D.mem (.int i) (natD r)) = _
    rw [natD_mem i r]
    have:D.eqb (.int w) (.int i) = decide (i = w):=by
      show ((w:Int) == (i:Int)) = _
      by_cases h:i = w
      · subst h;simp
      · rw [decide_eq_false h];simp;(first | lia | omega)
    rw [this]
    by_cases h1:i = w <;> by_cases h2:i ∈ r <;> simp [h1,h2]
theorem natD_pls (k:Nat):∀ ws:List Nat,D.pls (k + 1) (natD ws) = true
  | []=>rfl
  | w :: r=>by
    show (D.pl k (.int w) && D.pls (k + 1) (natD r)) = true
    rw [natD_pls k r];cases k <;> rfl
@[simp] theorem inn_natD {i:Nat} {ws:List Nat}:D.cmp .In (.int i) (.tup (natD ws)) = .ok (.bl (decide (i ∈ ws))):=by
  show (do let k ← D.inn (.int i) (.tup (natD ws));.ok (D.bl k)) = _
  show (do let k ← when (D.pls 30 (natD ws) && D.pl 29 (.int i)) (.ok (D.mem (.int i) (natD ws)));.ok (D.bl k)) = _
  rw [natD_pls,natD_mem];rfl
theorem scene_pl (k:Nat) (s:Scene):D.pl (k + 2) s.enc = true:=by
  show D.pls (k + 2) [D.str s.name,.int s.len,.int s.pause,.tup (natD s.who)] = true
  simp only [D.pls,D.pl,natD_pls,Bool.and_true,Bool.true_and]
theorem pls_map {α:Type} (f:α → D) (k:Nat) (h:∀ a,D.pl k (f a) = true):∀ xs:List α,D.pls (k + 1) (xs.map f) = true
  | []=>rfl
  | a :: r=>by rw [List.map_cons,D.pls,h a,pls_map f k h r];rfl
@[simp] theorem pl_tup {n:Nat} {a:List D}:D.pl n (.tup a) = D.pls n a:=by rw [D.pl]
@[simp] theorem pl_lst {n:Nat} {a:List D}:D.pl n (.lst a) = D.pls n a:=by rw [D.pl]
theorem cmp_same {a:D} (h:D.pl 30 a = true):D.cmp .Eq a a = .ok (.bl true):=by
  show when (D.eqOk a a) (.ok (D.bl (D.eqb a a))) = _
  rw [D.eqb_refl 30 a h,when_of (by unfold D.eqOk;rw [h];rfl)]
theorem cmp_same_ne {a:D} (h:D.pl 30 a = true):D.cmp .NotEq a a = .ok (.bl false):=by
  show when (D.eqOk a a) (.ok (D.bl (!D.eqb a a))) = _
  rw [D.eqb_refl 30 a h,when_of (by unfold D.eqOk;rw [h];rfl)];rfl
noncomputable def Scene.both (s:Scene):Int:=s.len + s.pause
noncomputable def between (ss:List Scene) (s t:Nat):Int:=((ss[s]?).map Scene.pause).getD 0 + (((ss.drop (s + 1)).take (t - (s + 1))).map Scene.both).sum
theorem cut_nn {α:Type} {xs:List α} {a b:Nat} (ha:a ≤ xs.length) (hb:b ≤ xs.length):cut xs (some (a:Int)) (some (b:Int)) = (xs.drop a).take (b - a):=by
  unfold cut sIx
  simp only []
  rw [if_neg (by (first | lia | omega)),if_neg (by (first | lia | omega)),Int.toNat_natCast,Int.toNat_natCast,Nat.min_eq_left ha,Nat.min_eq_left hb]
theorem ss_at {ss:List Scene} {s:Nat} {x:Scene} (h:ss[s]? = some x):D.ix (.tup (ss.map Scene.enc)) (.int s) = .ok x.enc:=ix_t (by rw [List.getElem?_map,h];rfl)
theorem ps_at {ss:List Part} {s:Nat} {x:Part} (h:ss[s]? = some x):D.ix (.tup (ss.map Part.enc)) (.int s) = .ok x.enc:=ix_t (by rw [List.getElem?_map,h];rfl)
@[simp] theorem enc1 {s:Scene}:D.ix s.enc (.int 1) = .ok (.int s.len):=ix_t1
@[simp] theorem enc2 {s:Scene}:D.ix s.enc (.int 2) = .ok (.int s.pause):=ix_t2
@[simp] theorem enc3 {s:Scene}:D.ix s.enc (.int 3) = .ok (.tup (natD s.who)):=ix_t3
@[simp] theorem penc2 {s:Part}:D.ix s.enc (.int 2) = .ok (.int s.off):=ix_t2
@[simp] theorem penc3 {s:Part}:D.ix s.enc (.int 3) = .ok (.int s.on):=ix_t3
end Tr
set_option maxRecDepth 100000
namespace Tr
open PySem
noncomputable def natI (t:Nat):D:=.int (t:Int)
theorem natD_natI (ws:List Nat):natD ws = ws.map natI:=rfl
theorem rangeD_nat (lo n:Nat):rangeD (lo:Int) n = (List.range' lo n).map natI:=by
  rw [rangeD_eq,List.range'_eq_map_range,List.map_map]
  apply List.map_congr_left
  intro i _
  simp [natI]
theorem rng_nat {n:Nat} (h:n ≤ 1000):rngR (.int (n:Int)) = .ok ((List.range n).map natI):=by
  rw [rng_ok (by (first | lia | omega)),rangeD_eq]
  congr 1
  apply List.map_congr_left
  intro i _
  simp [natI]
theorem rng2_succ {s m:Nat} (h:s ≤ 1000) (h2:m ≤ 1000):rng2R (.int ((s:Int) + 1)) (.int (m:Int)) = .ok ((List.range' (s + 1) (m - (s + 1))).map natI):=by
  have:rng2R (.int ((s + 1:Nat):Int)) (.int (m:Int)) = _:=rng2_ok (by (first | lia | omega)) (by (first | lia | omega))
  rw [rangeD_nat] at this
  exact this
theorem forL_findN {f:D → Nv → Res Out} (I:Nv → Prop) (g:Nat → Option (D × Bool)) (ts:List Nat) (e:Nv) (h:I e)
    (st:∀ t ∈ ts,∀ e,I e → match g t with | some (x,k)=>f (natI t) e = .ok (.rt x k) | none=>∃ e',(f (natI t) e = .ok (.nx e') ∨ f (natI t) e = .ok (.ct e')) ∧ I e') :
    match ts.findSome? g with | some (x,k)=>forL f (ts.map natI) e = .ok (.rt x k) | none=>∃ e',forL f (ts.map natI) e = .ok (.nx e') ∧ I e':=by
  induction ts generalizing e with
  | nil=>exact ⟨e,rfl,h⟩
  | cons t r ih =>
    have h1:=st t List.mem_cons_self e h
    rw [List.findSome?_cons,List.map_cons]
    cases hg:g t with
    | some y =>
      rw [hg] at h1
      exact forL_rt h1
    | none =>
      rw [hg] at h1
      obtain ⟨e',h2,h3⟩:=h1
      have eq:forL f (natI t :: r.map natI) e = forL f (r.map natI) e':=by
        rcases h2 with h2 | h2
        · exact forL_nx h2
        · exact forL_ct h2
      rw [eq]
      exact ih e' h3 fun d' hd=>st d' (List.mem_cons_of_mem _ hd)
theorem findSome_omap {α β γ:Type} (h:α → Option β) (F:β → γ):∀ l:List α,l.findSome? (fun t=>(h t).map F) = (l.findSome? h).map F
  | []=>rfl
  | a :: r=>by
    rw [List.findSome?_cons,List.findSome?_cons]
    cases e:h a with
    | none=>simp [findSome_omap h F r]
    | some b=>rfl
inductive Rz where
  | sc (s:Nat) | ch (s t:Nat) (have_ need:Int)
noncomputable def Rz.enc:Rz → D
  | .sc s=>.tup [.str "scene", .int s]
  | .ch s t h n=>.tup [.str "change", .int s,.int t,.int h,.int n]
noncomputable def optR:Option Rz → D
  | none=>.non
  | some r=>r.enc
@[simp] theorem isNon_optR {o:Option Rz}:(optR o).isNon = o.isNone:=by
  cases o with
  | none=>rfl
  | some r=>cases r <;> rfl
noncomputable def whoAt (ss:List Scene) (t:Nat):List Nat:=((ss[t]?).map Scene.who).getD []
noncomputable def needV (ps:List Part) (i j:Nat):Int:=((ps[i]?).map Part.off).getD 0 + ((ps[j]?).map Part.on).getD 0
noncomputable def shortAt (ps:List Part) (ss:List Scene) (s one other t:Nat):Option Rz :=
  if other ∈ whoAt ss t ∧ between ss s t < needV ps one other then some (.ch s t (between ss s t) (needV ps one other)) else none
noncomputable def shortFrom (ps:List Part) (ss:List Scene) (s one other:Nat):Option Rz:=(List.range' (s + 1) (ss.length - (s + 1))).findSome? (shortAt ps ss s one other)
noncomputable def reasonFrom (ps:List Part) (ss:List Scene) (i j s:Nat):Option Rz :=
  if i ∈ whoAt ss s ∧ j ∈ whoAt ss s then some (.sc s) else if i ∈ whoAt ss s then shortFrom ps ss s i j else if j ∈ whoAt ss s then shortFrom ps ss s j i else none
noncomputable def reasonOf (ps:List Part) (ss:List Scene) (i j:Nat):Option Rz:=(List.range ss.length).findSome? (reasonFrom ps ss i j)
noncomputable def begV (ss:List Scene) (k:Nat):Int:=((ss.take k).map Scene.both).sum
theorem who_at {ss:List Scene} {s:Nat} (h:s < ss.length):whoAt ss s = ss[s].who:=by unfold whoAt;rw [List.getElem?_eq_getElem h];rfl
theorem need_at {ps:List Part} {i j:Nat} (h:i < ps.length) (h2:j < ps.length):needV ps i j = ps[i].off + ps[j].on:=by unfold needV;rw [List.getElem?_eq_getElem h,List.getElem?_eq_getElem h2];rfl
noncomputable def Rz.out (r:Rz):D × Bool:=(r.enc,false)
theorem rz_find {f:D → Nv → Res Out} {I:Nv → Prop} {g:Nat → Option Rz} {ts:List Nat} {e:Nv} (h:I e)
    (st:∀ t ∈ ts,∀ e,I e → match g t with | some r=>f (natI t) e = .ok (.rt r.enc false) | none=>∃ e',f (natI t) e = .ok (.nx e') ∧ I e') :
    match ts.findSome? g with | some r=>forL f (ts.map natI) e = .ok (.rt r.enc false) | none=>∃ e',forL f (ts.map natI) e = .ok (.nx e') ∧ I e':=by
  have:=forL_findN (f:=f) I (fun t=>(g t).map Rz.out) ts e h (by
    intro t ht e he
    have:=st t ht e he
    cases hg:g t with
    | none=>rw [hg] at this;obtain ⟨e',h1,h2⟩:=this;exact ⟨e',.inl h1,h2⟩
    | some r=>rw [hg] at this;exact this)
  rw [findSome_omap] at this
  cases hg:ts.findSome? g with
  | none=>rw [hg] at this;exact this
  | some r=>rw [hg] at this;exact this
end Tr
set_option maxRecDepth 100000
namespace Tr
open PySem
theorem compL_enc {α:Type} {f:D → Res (Option D)} (enc:α → D) (g:α → Option D):∀ {xs:List α},(∀ a ∈ xs,f (enc a) = .ok (g a)) → compL f (xs.map enc) = .ok (xs.filterMap g)
  | [],_=>rfl
  | a :: r,h=>by
    rw [List.map_cons,compL,h a List.mem_cons_self,Res.ok_bind,compL_enc enc g fun x hx=>h x (List.mem_cons_of_mem _ hx),Res.ok_bind,List.filterMap_cons]
    cases g a <;> rfl
theorem compL_keep {α:Type} {f:D → Res (Option D)} (enc:α → D) (p:α → Bool) {xs:List α} (h:∀ a ∈ xs,f (enc a) = .ok (if p a = true then some (enc a) else none)):compL f (xs.map enc) = .ok ((xs.filter p).map enc):=by
  rw [compL_enc enc (fun a=>if p a = true then some (enc a) else none) h]
  congr 1
  induction xs with
  | nil=>rfl
  | cons a r ih =>
    rw [List.filterMap_cons,List.filter_cons,ih fun x hx=>h x (List.mem_cons_of_mem _ hx)]
    cases p a <;> rfl
noncomputable def pairD (p:Nat × Nat):D:=.tup [.int p.1,.int p.2]
noncomputable def pairsFrom (many i:Nat):List (Nat × Nat):=(List.range' (i + 1) (many - (i + 1))).map fun j=>(i,j)
noncomputable def pairsTo (many:Nat):Nat → List (Nat × Nat)
  | 0=>[]
  | k + 1=>pairsTo many k ++ pairsFrom many k
noncomputable def pairsOf (many:Nat):List (Nat × Nat):=pairsTo many many
theorem pairsFrom_mem {many i:Nat} {p:Nat × Nat} (h:p ∈ pairsFrom many i):p.1 = i ∧ i < p.2 ∧ p.2 < many:=by
  obtain ⟨j,hj,rfl⟩:=List.mem_map.mp h
  have:=List.mem_range'_1.mp hj
  exact ⟨rfl,by (first | lia | omega),by (first | lia | omega)⟩
theorem pairsTo_mem {many:Nat} {p:Nat × Nat}:∀ {k:Nat},p ∈ pairsTo many k → p.1 < p.2 ∧ p.2 < many
  | 0,h=>by simp [pairsTo] at h
  | k + 1,h=>by
    rcases List.mem_append.mp h with q | q
    · exact pairsTo_mem q
    · have:=pairsFrom_mem q;(first | lia | omega)
theorem pairsTo_length (many:Nat):∀ k,(pairsTo many k).length ≤ k * many
  | 0=>by simp [pairsTo]
  | k + 1=>by
    have:=pairsTo_length many k
    rw [pairsTo,List.length_append,pairsFrom,List.length_map,List.length_range',Nat.succ_mul]
    (first | lia | omega)
noncomputable def lenAt (ss:List Scene) (t:Nat):Int:=((ss[t]?).map Scene.len).getD 0
noncomputable def lastEnd (ss:List Scene) (one:Nat):Nat → Option Int
  | 0=>none
  | k + 1=>if one ∈ whoAt ss k then some (begV ss k + lenAt ss k) else lastEnd ss one k
noncomputable def hitAt (ps:List Part) (ss:List Scene) (one other t:Nat):Bool :=
  decide (other ∈ whoAt ss t) && (match lastEnd ss one t with | some e=>decide (begV ss t - e < needV ps one other) | none=>false)
noncomputable def hit (ps:List Part) (ss:List Scene) (i j t:Nat):Bool:=(decide (i ∈ whoAt ss t) && decide (j ∈ whoAt ss t)) || hitAt ps ss i j t || hitAt ps ss j i t
end Tr
set_option maxRecDepth 100000
namespace Tr
open PySem
theorem metD_go {α:Type} [DecidableEq α]:∀ (ks acc:List α),acc.Nodup → (∀ k ∈ ks,k ∉ acc) → ks.Nodup → ks.foldl (fun acc k=>if acc.any (fun x=>decide (x = k)) then acc else acc ++ [k]) acc = acc ++ ks
  | [],acc,_,_,_=>by simp
  | k :: r,acc,ha,hd,hn=>by
    have h1:acc.any (fun x=>decide (x = k)) = false:=by
      rw [List.any_eq_false]
      intro x hx
      simp only [decide_eq_true_eq]
      exact fun e=>hd k List.mem_cons_self (e ▸ hx)
    rw [List.foldl_cons,h1]
    simp only [Bool.false_eq_true,if_false]
    rw [List.nodup_cons] at hn
    rw [metD_go r (acc ++ [k]) ?_ ?_ hn.2]
    · simp
    · rw [List.nodup_append]
      exact ⟨ha,by simp,fun a g1 b g2=>by simp at g2;subst g2;exact fun e=>hd b List.mem_cons_self (e ▸ g1)⟩
    · intro x hx hx'
      rw [List.mem_append] at hx'
      rcases hx' with z | z
      · exact hd x (List.mem_cons_of_mem _ hx) z
      · simp at z;subst z;exact hn.1 hx
theorem metD_nodup {ks:List (Sum Int Str)} (h:ks.Nodup):metD ks = ks:=by
  have:=metD_go ks [] List.nodup_nil (fun _ _=>by simp) h
  rw [List.nil_append] at this
  exact this
end Tr
namespace Tr
open PySem
theorem blsOf_map (f:α → Bool):∀ xs:List α,blsOf (xs.map fun x=>D.bl (f x)) = .ok (xs.map f)
  | []=>rfl
  | x :: r=>by
    rw [List.map_cons,blsOf,blsOf_map f r];rfl
noncomputable def hasC (g:Str) (c:Nat):Bool:=decide (c ∈ g.cps.toList)
@[simp] theorem cmp_in_chr (c:Nat) (g:Str):D.cmp .In (.str (chr1 c)) (.str g) = .ok (.bl (hasC g c)):=id rfl
noncomputable def signs (x:Str):List Nat:=x.cps.toList
@[simp] theorem run_all (xs:List D):Bt.run .all [.lst xs] = (do let q ← blsOf xs;.ok (.bl (q.all id))):=id rfl
@[simp] theorem run_any (xs:List D):Bt.run .any [.lst xs] = (do let q ← blsOf xs;.ok (.bl (q.any id))):=id rfl
@[simp] theorem run_len_str (x:Str):Bt.run .len [.str x] = when (decide (x.length ≤ big)) (.ok (.int x.length)):=id rfl
@[simp] theorem items_str (x:Str):D.items (.str x) = .ok ((signs x).map fun c=>.str (chr1 c)):=id rfl
theorem len_signs (x:Str):x.length = (signs x).length:=by cases x;simp [Str.length,signs]
theorem nodup_map {α β:Type} {f:α → β} (hf:∀ a b,f a = f b → a = b):∀ {l:List α},l.Nodup → (l.map f).Nodup
  | [],_=>List.nodup_nil
  | a :: r,h=>by
    rw [List.nodup_cons] at h
    rw [List.map_cons,List.nodup_cons]
    refine ⟨fun hm=>?_,nodup_map hf h.2⟩
    obtain ⟨b,hb,e⟩:=List.mem_map.mp hm
    exact h.1 (hf _ _ e ▸ hb)
section
variable {T:Tab}
@[simp] theorem fresh_cmp {o:CmpOp} {a b:E}:freshE T (.cmp o a b) = false:=id rfl
@[simp] theorem fresh_chain {o p:CmpOp} {a b c:E}:freshE T (.chain o p a b c) = false:=id rfl
@[simp] theorem fresh_and {a b:E}:freshE T (.and a b) = false:=id rfl
@[simp] theorem fresh_or {a b:E}:freshE T (.or a b) = false:=id rfl
@[simp] theorem fresh_mod {a b:E}:freshE T (.bin .Mod a b) = false:=id rfl
@[simp] theorem fresh_all {a:E}:freshE T (.bt .all a) = false:=id rfl
@[simp] theorem fresh_any {a:E}:freshE T (.bt .any a) = false:=id rfl
@[simp] theorem fresh_con {d:D}:freshE T (.con d) = false:=id rfl
@[simp] theorem fresh_var {i:Nat}:freshE T (.var i) = false:=id rfl
@[simp] theorem fresh_tup {a:E}:freshE T (.tup a) = false:=id rfl
end
theorem cmp_eq_str (x y:Str):D.cmp .Eq (.str x) (.str y) = .ok (.bl (x == y)):=rfl
theorem str_eq_signs {x y:Str} (h:signs x = signs y):x = y:=by
  cases x;cases y
  simp only [signs] at h
  congr 1
  exact Array.toList_inj.mp h
end Tr
namespace Tr
open PySem
theorem atI_nat {α:Type} {xs:List α} {k:Nat} {x:α} (h:xs[k]? = some x):atI xs (k:Int) = some x:=by
  have hk:=(List.getElem?_eq_some_iff.mp h).1
  unfold atI ixN
  rw [if_pos (by (first | lia | omega)),if_pos (by (first | lia | omega))]
  exact h
@[simp] theorem ix_lst2 {a b c:D} {r:List D}:(D.lst (a :: b :: c :: r)).ix (.int 2) = .ok c:=by
  show Res.of (atI _ ((2:Nat):Int)) = _
  rw [atI_nat (x:=c) rfl];rfl
@[simp] theorem ix_lst3 {a b c d:D} {r:List D}:(D.lst (a :: b :: c :: d :: r)).ix (.int 3) = .ok d:=by
  show Res.of (atI _ ((3:Nat):Int)) = _
  rw [atI_nat (x:=d) rfl];rfl
@[simp] theorem ix_lst4 {a b c d f:D} {r:List D}:(D.lst (a :: b :: c :: d :: f :: r)).ix (.int 4) = .ok f:=by
  show Res.of (atI _ ((4:Nat):Int)) = _
  rw [atI_nat (x:=f) rfl];rfl
theorem cut_from {α:Type} {xs:List α} {a:Nat} (ha:a ≤ xs.length):cut xs (some (a:Int)) none = xs.drop a:=by
  unfold cut sIx
  simp only []
  rw [if_neg (by (first | lia | omega)),Int.toNat_natCast,Nat.min_eq_left ha,List.take_of_length_le (by simp)]
theorem add_strs {a b:List Nat} (h:a.length + b.length ≤ big):D.bin .Add (.str ⟨a.toArray⟩) (.str ⟨b.toArray⟩) = .ok (.str ⟨(a ++ b).toArray⟩):=by
  show when (decide ((⟨a.toArray⟩ : Str).length + (⟨b.toArray⟩ : Str).length ≤ big)) (.ok (D.str ((⟨a.toArray⟩ : Str) ++ (⟨b.toArray⟩ : Str)))) = _
  rw [show decide ((⟨a.toArray⟩ : Str).length + (⟨b.toArray⟩ : Str).length ≤ big) = true by
    rw [len_signs,len_signs];simp only [signs,List.toList_toArray];exact decide_eq_true h]
  refine congrArg (fun z=>Res.ok (D.str z)) (str_eq_signs ?_)
  show (a.toArray ++ b.toArray).toList = (a ++ b).toArray.toList
  simp
theorem cut_to {α:Type} {xs:List α} {b:Nat} (hb:b ≤ xs.length):cut xs none (some (b:Int)) = xs.take b:=by
  unfold cut sIx
  simp only []
  rw [if_neg (by (first | lia | omega)),Int.toNat_natCast,Nat.min_eq_left hb,List.drop_zero,Nat.sub_zero]
theorem add_lsts {a b:List D} (h:a.length + b.length ≤ big):D.bin .Add (.lst a) (.lst b) = .ok (.lst (a ++ b)):=by
  show when (decide (a.length + b.length ≤ big)) (.ok (D.lst (a ++ b))) = _
  rw [show decide (a.length + b.length ≤ big) = true by simpa using h]
  rfl
noncomputable def rotV {α:Type} (c:Int) (l:List α):List α:=l.drop (c % ((l.length:Int) + 1)).toNat ++ l.take (c % ((l.length:Int) + 1)).toNat
theorem rot_le {α:Type} (c:Int) (l:List α):(c % ((l.length:Int) + 1)).toNat ≤ l.length:=by
  have:=Int.emod_lt_of_pos c (show (0:Int) < (l.length:Int) + 1 by (first | lia | omega))
  (first | lia | omega)
theorem rot_mem {α:Type} {c:Int} {l:List α} {x:α}:x ∈ rotV c l ↔ x ∈ l:=by
  unfold rotV
  rw [List.mem_append]
  constructor
  · rintro (h | h)
    · exact List.mem_of_mem_drop h
    · exact List.mem_of_mem_take h
  · intro h
    rw [← List.take_append_drop (c % ((l.length:Int) + 1)).toNat l,List.mem_append] at h
    exact h.symm
theorem rot_perm {α:Type} (c:Int) (l:List α):(rotV c l).Perm l:=by
  unfold rotV
  refine (List.perm_append_comm).trans ?_
  rw [List.take_append_drop]
theorem rot_map {α β:Type} (f:α → β) (c:Int) (l:List α):rotV c (l.map f) = (rotV c l).map f:=by
  unfold rotV
  rw [List.length_map,List.map_append,List.map_drop,List.map_take]
@[simp] theorem ix_lst5 {a b c d f g:D} {r:List D}:(D.lst (a :: b :: c :: d :: f :: g :: r)).ix (.int 5) = .ok g:=by
  show Res.of (atI _ ((5:Nat):Int)) = _
  rw [atI_nat (x:=g) rfl];rfl
@[simp] theorem ix_lst6 {a b c d f g h:D} {r:List D}:(D.lst (a :: b :: c :: d :: f :: g :: h :: r)).ix (.int 6) = .ok h:=by
  show Res.of (atI _ ((6:Nat):Int)) = _
  rw [atI_nat (x:=h) rfl];rfl
@[simp] theorem ix_lst7 {a b c d f g h i:D} {r:List D}:(D.lst (a :: b :: c :: d :: f :: g :: h :: i :: r)).ix (.int 7) = .ok i:=by
  show Res.of (atI _ ((7:Nat):Int)) = _
  rw [atI_nat (x:=i) rfl];rfl
noncomputable def isNm (w:Str):Prop:=1 ≤ (signs w).length ∧ (signs w).length ≤ 8 ∧ (signs w).all (hasC "abcdefghijklmnopqrstuvwxyz") = true
noncomputable def ent (p:Str × List D):D:=.tup (.str p.1 :: p.2)
end Tr
set_option maxRecDepth 100000
namespace Tr
open PySem
set_option genInjectivity false in
structure Player where
  name:Str
  voices:Str
  hire:Int
noncomputable def Player.enc (p:Player):D:=.tup [.str p.name,.str p.voices,.int p.hire]
@[simp] theorem qenc1 {s:Player}:D.ix s.enc (.int 1) = .ok (.str s.voices):=ix_t1
@[simp] theorem penc1 {s:Part}:D.ix s.enc (.int 1) = .ok (.str s.voice):=ix_t1
theorem qs_at {ss:List Player} {s:Nat} {x:Player} (h:ss[s]? = some x):D.ix (.tup (ss.map Player.enc)) (.int s) = .ok x.enc:=ix_t (by rw [List.getElem?_map,h];rfl)
noncomputable def optN:Option Nat → D
  | none=>.non
  | some j=>.int (j:Int)
@[simp] theorem optN_none:optN none = .non:=id rfl
@[simp] theorem optN_some {j:Nat}:optN (some j) = .int (j:Int):=id rfl
noncomputable def hasV (p:Part) (q:Player):Bool:=match signs p.voice with
  | [c]=>hasC q.voices c
  | _=>false
theorem in_voices {p:Part} {q:Player} (h:(signs p.voice).length = 1):D.cmp .In (.str p.voice) (.str q.voices) = .ok (.bl (hasV p q)):=by
  obtain ⟨c,hc⟩ : ∃ c,signs p.voice = [c]:=List.length_eq_one_iff.mp h
  have e:p.voice = chr1 c:=str_eq_signs (by rw [hc];rfl)
  unfold hasV
  rw [hc]
  rw [e]
  exact cmp_in_chr c q.voices
noncomputable def mayB (P:List Part) (Q:List Player) (k j:Nat):Bool:=((P[k]?).bind fun p=>(Q[j]?).map fun q=>hasV p q).getD false
theorem mayB_at {P:List Part} {Q:List Player} {k j:Nat} (hk:k < P.length) (hj:j < Q.length):mayB P Q k j = hasV P[k] Q[j]:=by
  unfold mayB;rw [List.getElem?_eq_getElem hk,List.getElem?_eq_getElem hj];rfl
noncomputable def ableL (P:List Part) (Q:List Player) (k:Nat):List Nat:=(List.range Q.length).filter (mayB P Q k)
theorem ableL_lt {P:List Part} {Q:List Player} {k j:Nat} (h:j ∈ ableL P Q k):j < Q.length:=by simpa using (List.mem_filter.mp h).1
theorem cast_at {cs:List (Option Nat)} {k:Nat} {o:Option Nat} (h:cs[k]? = some o):D.ix (.lst (cs.map optN)) (.int k) = .ok (optN o):=ix_l (by rw [List.getElem?_map,h];rfl)
theorem cast_eqi (o:Option Nat) (j:Nat):D.cmp .Eq (optN o) (.int j) = .ok (.bl (decide (o = some j))):=by
  cases o with
  | none=>rfl
  | some i =>
    show Res.ok (D.bl ((i:Int) == (j:Int))) = _
    by_cases h:i = j
    · subst h;simp
    · rw [show ((i:Int) == (j:Int)) = false by simp;(first | lia | omega)];simp [h]
theorem cast_eqo (o o':Option Nat):D.cmp .Eq (optN o) (optN o') = .ok (.bl (decide (o = o'))):=by
  cases o' with
  | none=>cases o <;> rfl
  | some j=>exact cast_eqi o j
theorem player_pl (k:Nat) (s:Player):D.pl (k + 1) s.enc = true:=by
  show D.pls (k + 1) [D.str s.name,.str s.voices,.int s.hire] = true
  simp only [D.pls,D.pl,Bool.and_true,Bool.true_and]
theorem optN_pl (k:Nat) (o:Option Nat):D.pl k (optN o) = true:=by cases o <;> cases k <;> rfl
theorem natI_pl (k:Nat) (o:Nat):D.pl k (natI o) = true:=by cases k <;> rfl
theorem cmp_tup_nil {xs:List D} (h:D.pls 30 xs = true):D.cmp .Eq (.tup xs) (.tup []) = .ok (.bl xs.isEmpty):=by
  show when (D.eqOk _ _) (.ok (D.bl (D.eqb (.tup xs) (.tup [])))) = _
  rw [when_of (by unfold D.eqOk;rw [pl_tup,h];rfl)]
  cases xs <;> simp [D.eqb,D.eqs]
theorem cmp_lst_nil {xs:List D} (h:D.pls 30 xs = true):D.cmp .Eq (.lst xs) (.lst []) = .ok (.bl xs.isEmpty):=by
  show when (D.eqOk _ _) (.ok (D.bl (D.eqb (.lst xs) (.lst [])))) = _
  rw [when_of (by unfold D.eqOk;rw [pl_lst,h];rfl)]
  cases xs <;> simp [D.eqb,D.eqs]
theorem cmp_lst_nil_ne {xs:List D} (h:D.pls 30 xs = true):D.cmp .NotEq (.lst xs) (.lst []) = .ok (.bl (!xs.isEmpty)):=by
  show when (D.eqOk _ _) (.ok (D.bl (!D.eqb (.lst xs) (.lst [])))) = _
  rw [when_of (by unfold D.eqOk;rw [pl_lst,h];rfl)]
  cases xs <;> simp [D.eqb,D.eqs]
inductive Flt where
  | nob (i:Nat) | voi (i k:Nat) | cla (i j:Nat)
noncomputable def Flt.enc:Flt → D
  | .nob i=>.tup [.str "nobody", .int i]
  | .voi i k=>.tup [.str "voice", .int i,.int k]
  | .cla i j=>.tup [.str "clash", .int i,.int j]
noncomputable def optF:Option Flt → D
  | none=>.non
  | some x=>x.enc
noncomputable def oneB (cs:List (Option Nat)) (i j:Nat):Bool:=(cs.getD i none).isSome && decide (cs.getD i none = cs.getD j none)
theorem enumD_range {α:Type} (f:α → D) (x:α):∀ (cs:List α) (j:Nat),enumD (j:Int) (cs.map f) = (List.range cs.length).map (fun k=>D.tup [.int ((j + k:Nat):Int),f (cs.getD k x)])
  | [],_=>rfl
  | c :: r,j=>by
    rw [List.map_cons,enumD,List.length_cons,List.range_succ_eq_map,List.map_cons,List.map_map]
    have h:=enumD_range f x r (j + 1)
    rw [show ((j + 1:Nat):Int) = (j:Int) + 1 by push_cast;rfl] at h
    rw [h]
    congr 1
    apply List.map_congr_left
    intro k _
    simp only [Function.comp,List.getD_cons_succ]
    congr 4
    (first | lia | omega)
theorem getD_at {cs:List (Option Nat)} {k:Nat} (h:k < cs.length):cs[k]? = some (cs.getD k none):=by
  rw [List.getD_eq_getElem?_getD,List.getElem?_eq_getElem h];rfl
theorem castD_at {cs:List (Option Nat)} {k:Nat} (h:k < cs.length):D.ix (.lst (cs.map optN)) (.int k) = .ok (optN (cs.getD k none)):=cast_at (getD_at h)
noncomputable def Flt.names (p:Nat):Flt → Bool
  | .nob i=>i == p
  | .voi i _=>i == p
  | .cla i j=>i == p || j == p
end Tr
set_option maxRecDepth 100000
namespace Tr
open PySem
theorem nodup_le:∀ {n:Nat} {l:List Nat},l.Nodup → (∀ i ∈ l,i < n) → l.length ≤ n
  | 0,l,hd,h=>by
    cases l with
    | nil=>exact Nat.le_refl _
    | cons a r=>exact absurd (h a List.mem_cons_self) (by (first | lia | omega))
  | n + 1,l,hd,h=>by
    have ih:=nodup_le (n:=n) (l:=l.erase n) (hd.erase n) fun i hi=>by
      have h1:=(hd.mem_erase_iff).mp hi
      have h2:=h i h1.2
      (first | lia | omega)
    by_cases hn:n ∈ l
    · rw [List.length_erase_of_mem hn] at ih
      (first | lia | omega)
    · rw [List.erase_of_not_mem hn] at ih
      (first | lia | omega)
theorem pairD_pl (k:Nat) (p:Nat × Nat):D.pl (k + 1) (pairD p) = true:=by
  show D.pls (k + 1) [D.int _,D.int _] = true
  simp only [D.pls,D.pl,Bool.and_true,Bool.true_and]
end Tr
set_option maxRecDepth 100000
namespace Tr
open PySem
end Tr
namespace Tr
open PySem
theorem of_pairsOf {many:Nat} {p:Nat × Nat} (h:p ∈ pairsOf many):p.1 < p.2 ∧ p.2 < many:=pairsTo_mem h
theorem pairD_eqb (p q:Nat × Nat):D.eqb (pairD p) (pairD q) = decide (p = q):=by
  show D.eqs [D.int _,D.int _] [D.int _,D.int _] = _
  have:D.eqs [D.int (p.1:Int),D.int (p.2:Int)] [D.int (q.1:Int),D.int (q.2:Int)] = (((p.1:Int) == (q.1:Int)) && (((p.2:Int) == (q.2:Int)) && true)):=rfl
  rw [this,Bool.eq_iff_iff]
  simp
  constructor
  · rintro ⟨a,b⟩;exact Prod.ext (by (first | lia | omega)) (by (first | lia | omega))
  · rintro rfl;exact ⟨rfl,rfl⟩
theorem mem_pairD (p:Nat × Nat):∀ ps:List (Nat × Nat),D.mem (pairD p) (ps.map pairD) = decide (p ∈ ps)
  | []=>rfl
  | q :: r=>by
    rw [List.map_cons,D.mem,mem_pairD p r,pairD_eqb]
    by_cases h1:q = p
    · subst h1;simp
    · have h2:¬ p = q:=fun z=>h1 z.symm
      by_cases h3:p ∈ r <;> simp [h1,h2,h3]
noncomputable def clashV (P:List Part) (S:List Scene):List (Nat × Nat):=(pairsOf P.length).filter fun p=>(reasonOf P S p.1 p.2).isSome
end Tr
set_option maxRecDepth 100000
namespace Tr
open PySem
inductive Chg where
  | mov (a t:Nat) | cut (a:Nat) | add (a:Nat) (s:Scene) | len (a:Nat) (m:Int) | pau (a:Nat) (m:Int) | ent (a p:Nat) | lea (a p:Nat)
noncomputable def Chg.enc:Chg → D
  | .mov a t=>.tup [.str "move", .int a,.int t]
  | .cut a=>.tup [.str "cut", .int a]
  | .add a s=>.tup [.str "add", .int a,s.enc]
  | .len a m=>.tup [.str "length", .int a,.int m]
  | .pau a m=>.tup [.str "pause", .int a,.int m]
  | .ent a p=>.tup [.str "enter", .int a,.int p]
  | .lea a p=>.tup [.str "leave", .int a,.int p]
noncomputable def minOk (m:Int):Prop:=0 ≤ m ∧ m ≤ 999999999
structure NewScene (many:Nat) (S:List Scene) (s:Scene):Prop where
  nm:isNm s.name
  new:∀ x ∈ S,x.name ≠ s.name
  len:minOk s.len
  pause:minOk s.pause
  nd:s.who.Nodup
  lt:∀ i ∈ s.who,i < many
noncomputable def Chg.fit (many:Nat) (S:List Scene):Chg → Prop
  | .mov a t=>a < S.length ∧ t < S.length
  | .cut a=>a < S.length
  | .add a s=>a ≤ S.length ∧ NewScene many S s
  | .len a m=>a < S.length ∧ minOk m
  | .pau a m=>a < S.length ∧ minOk m
  | .ent a p=>a < S.length ∧ p < many ∧ p ∉ whoAt S a
  | .lea a p=>a < S.length ∧ p ∈ whoAt S a
noncomputable def outS (S:List Scene) (a:Nat):List Scene:=S.take a ++ S.drop (a + 1)
noncomputable def putS (S:List Scene) (a:Nat) (x:Scene):List Scene:=S.take a ++ x :: S.drop a
noncomputable def sceneAt (S:List Scene) (a:Nat):Scene:=(S[a]?).getD ⟨"", 0,0,[]⟩
noncomputable def Chg.mod (x:Scene):Chg → Scene
  | .len _ m=>⟨x.name,m,x.pause,x.who⟩
  | .pau _ m=>⟨x.name,x.len,m,x.who⟩
  | .ent _ p=>⟨x.name,x.len,x.pause,x.who ++ [p]⟩
  | .lea _ p=>⟨x.name,x.len,x.pause,x.who.filter fun i=>!(i == p)⟩
  | _=>x
noncomputable def Chg.on (S:List Scene):Chg → List Scene
  | .mov a t=>putS (outS S a) t (sceneAt S a)
  | .cut a=>outS S a
  | .add a s=>putS S a s
  | .len a m=>putS (outS S a) a ((Chg.len a m).mod (sceneAt S a))
  | .pau a m=>putS (outS S a) a ((Chg.pau a m).mod (sceneAt S a))
  | .ent a p=>putS (outS S a) a ((Chg.ent a p).mod (sceneAt S a))
  | .lea a p=>putS (outS S a) a ((Chg.lea a p).mod (sceneAt S a))
theorem sceneAt_get {S:List Scene} {a:Nat} (h:a < S.length):S[a]? = some (sceneAt S a):=by
  unfold sceneAt;rw [List.getElem?_eq_getElem h];rfl
theorem outS_len {S:List Scene} {a:Nat} (h:a < S.length):(outS S a).length = S.length - 1:=by
  unfold outS;rw [List.length_append,List.length_take,List.length_drop];(first | lia | omega)
theorem putS_len {S:List Scene} {a:Nat} {x:Scene} (h:a ≤ S.length):(putS S a x).length = S.length + 1:=by
  unfold putS;rw [List.length_append,List.length_cons,List.length_take,List.length_drop];(first | lia | omega)
theorem outS_mem {S:List Scene} {a:Nat} {x:Scene} (h:x ∈ outS S a):x ∈ S:=by
  unfold outS at h
  rcases List.mem_append.mp h with h | h
  · exact List.mem_of_mem_take h
  · exact List.mem_of_mem_drop h
theorem putS_mem {S:List Scene} {a:Nat} {x y:Scene} (h:x ∈ putS S a y):x = y ∨ x ∈ S:=by
  unfold putS at h
  rcases List.mem_append.mp h with h | h
  · exact .inr (List.mem_of_mem_take h)
  · rcases List.mem_cons.mp h with h | h
    · exact .inl h
    · exact .inr (List.mem_of_mem_drop h)
theorem sceneAt_mem {S:List Scene} {a:Nat} (h:a < S.length):sceneAt S a ∈ S:=List.mem_of_getElem? (sceneAt_get h)
theorem who_sceneAt {S:List Scene} {a:Nat} (h:a < S.length):whoAt S a = (sceneAt S a).who:=by
  unfold whoAt;rw [sceneAt_get h];rfl
structure OkScene (many:Nat) (s:Scene):Prop where
  len:minOk s.len
  pause:minOk s.pause
  nd:s.who.Nodup
  lt:∀ i ∈ s.who,i < many
theorem on_ok {many:Nat} {S:List Scene} (g:∀ x ∈ S,OkScene many x) {c:Chg} (hf:c.fit many S):∀ x ∈ c.on S,OkScene many x:=by
  intro x hx
  cases c with
  | mov a t =>
    rcases putS_mem hx with rfl | hx
    · exact g _ (sceneAt_mem hf.1)
    · exact g _ (outS_mem hx)
  | cut a=>exact g _ (outS_mem hx)
  | add a s =>
    rcases putS_mem hx with rfl | hx
    · exact ⟨hf.2.len,hf.2.pause,hf.2.nd,hf.2.lt⟩
    · exact g _ hx
  | len a m =>
    rcases putS_mem hx with rfl | hx
    · have h:=g _ (sceneAt_mem hf.1);exact ⟨hf.2,h.pause,h.nd,h.lt⟩
    · exact g _ (outS_mem hx)
  | pau a m =>
    rcases putS_mem hx with rfl | hx
    · have h:=g _ (sceneAt_mem hf.1);exact ⟨h.len,hf.2,h.nd,h.lt⟩
    · exact g _ (outS_mem hx)
  | ent a p =>
    rcases putS_mem hx with rfl | hx
    · have h:=g _ (sceneAt_mem hf.1)
      have hp:=hf.2.2
      rw [who_sceneAt hf.1] at hp
      refine ⟨h.len,h.pause,?_,fun i hi=>?_⟩
      · show ((sceneAt S a).who ++ [p]).Nodup
        rw [List.nodup_append]
        exact ⟨h.nd,by simp,fun u hu y hy=>by simp at hy;subst hy;exact fun e=>hp (e ▸ hu)⟩
      · rcases List.mem_append.mp hi with hi | hi
        · exact h.lt i hi
        · simp at hi;rw [hi];exact hf.2.1
    · exact g _ (outS_mem hx)
  | lea a p =>
    rcases putS_mem hx with rfl | hx
    · have h:=g _ (sceneAt_mem hf.1)
      exact ⟨h.len,h.pause,List.Pairwise.filter _ h.nd,fun i hi=>h.lt i (List.mem_filter.mp hi).1⟩
    · exact g _ (outS_mem hx)
theorem on_len {many:Nat} {S:List Scene} {c:Chg} (hf:c.fit many S):(c.on S).length ≤ S.length + 1:=by
  cases c with
  | mov a t =>
    have:=outS_len hf.1
    show (putS (outS S a) t _).length ≤ _
    rw [putS_len (by have:=hf.2;(first | lia | omega))];(first | lia | omega)
  | cut a=>show (outS S a).length ≤ _;rw [outS_len hf];(first | lia | omega)
  | add a s=>show (putS S a s).length ≤ _;rw [putS_len hf.1];(first | lia | omega)
  | len a m | pau a m | ent a m | lea a m =>
    have h:a < S.length:=hf.1
    have:=outS_len h
    show (putS (outS S a) a _).length ≤ _
    rw [putS_len (by (first | lia | omega))];(first | lia | omega)
theorem add_tups {a b:List D} (h:a.length + b.length ≤ big):D.bin .Add (.tup a) (.tup b) = .ok (.tup (a ++ b)):=by
  show when (decide (a.length + b.length ≤ big)) _ = _
  rw [when_of (decide_eq_true h)]
theorem cut_map {α:Type} (f:α → D) (xs:List α) (lo hi:Option Int):cut (xs.map f) lo hi = (Tr.cut xs lo hi).map f:=by
  unfold cut;rw [List.length_map,List.map_take,List.map_drop]
theorem keys_nats:∀ ns:List Nat,keysD (natD ns) = .ok (ns.map fun i:Nat=>(Sum.inl (i:Int):Sum Int Str))
  | []=>rfl
  | a :: r=>by
    have:=keys_nats r
    unfold natD at this ⊢
    rw [List.map_cons,keysD,this];rfl
theorem notin_natD {i:Nat} {ws:List Nat}:D.cmp .NotIn (.int i) (.tup (natD ws)) = .ok (.bl (!decide (i ∈ ws))):=by
  show (do let k ← D.inn (.int i) (.tup (natD ws));.ok (D.bl (!k))) = _
  show (do let k ← when (D.pls 30 (natD ws) && D.pl 29 (.int i)) (.ok (D.mem (.int i) (natD ws)));.ok (D.bl (!k))) = _
  rw [when_of (by rw [natD_pls 29 ws];rfl),natD_mem];rfl
@[simp] theorem kd_move_cut:(("move" : Str) == "cut") = false:=by decide
@[simp] theorem kd_move_add:(("move" : Str) == "add") = false:=by decide
@[simp] theorem kd_cut_move:(("cut" : Str) == "move") = false:=by decide
@[simp] theorem kd_cut_add:(("cut" : Str) == "add") = false:=by decide
@[simp] theorem kd_length_move:(("length" : Str) == "move") = false:=by decide
@[simp] theorem kd_length_cut:(("length" : Str) == "cut") = false:=by decide
@[simp] theorem kd_length_add:(("length" : Str) == "add") = false:=by decide
@[simp] theorem kd_length_pause:(("length" : Str) == "pause") = false:=by decide
@[simp] theorem kd_pause_move:(("pause" : Str) == "move") = false:=by decide
@[simp] theorem kd_pause_cut:(("pause" : Str) == "cut") = false:=by decide
@[simp] theorem kd_pause_add:(("pause" : Str) == "add") = false:=by decide
@[simp] theorem kd_pause_length:(("pause" : Str) == "length") = false:=by decide
@[simp] theorem kd_enter_move:(("enter" : Str) == "move") = false:=by decide
@[simp] theorem kd_enter_cut:(("enter" : Str) == "cut") = false:=by decide
@[simp] theorem kd_enter_add:(("enter" : Str) == "add") = false:=by decide
@[simp] theorem kd_enter_length:(("enter" : Str) == "length") = false:=by decide
@[simp] theorem kd_enter_pause:(("enter" : Str) == "pause") = false:=by decide
@[simp] theorem kd_leave_move:(("leave" : Str) == "move") = false:=by decide
@[simp] theorem kd_leave_cut:(("leave" : Str) == "cut") = false:=by decide
@[simp] theorem kd_leave_add:(("leave" : Str) == "add") = false:=by decide
@[simp] theorem kd_leave_length:(("leave" : Str) == "length") = false:=by decide
@[simp] theorem kd_leave_pause:(("leave" : Str) == "pause") = false:=by decide
@[simp] theorem kd_leave_enter:(("leave" : Str) == "enter") = false:=by decide
theorem clashV_lt {P:List Part} {S:List Scene} {p:Nat × Nat} (h:p ∈ clashV P S):p.1 < P.length ∧ p.2 < P.length:=by
  have:=of_pairsOf (List.mem_filter.mp h).1;(first | lia | omega)
theorem clashV_len {P:List Part} {S:List Scene} (hp:P.length ≤ 8):(clashV P S).length ≤ 64:=by
  have h1:=List.length_filter_le (fun p:Nat × Nat=>(reasonOf P S p.1 p.2).isSome) (pairsOf P.length)
  have h2:=pairsTo_length P.length P.length
  have h3:P.length * P.length ≤ 8 * 8:=Nat.mul_le_mul hp hp
  unfold clashV pairsOf at *
  (first | lia | omega)
noncomputable def lessV (X Y:List (Nat × Nat)):List (Nat × Nat):=X.filter fun p=>!decide (p ∈ Y)
theorem lessV_nil {X Y:List (Nat × Nat)} (h:∀ p ∈ X,p ∈ Y):lessV X Y = []:=by
  unfold lessV
  rw [List.filter_eq_nil_iff]
  intro p hp
  simp [h p hp]
theorem notin_pairD (p:Nat × Nat) (ps:List (Nat × Nat)):D.cmp .NotIn (pairD p) (.lst (ps.map pairD)) = .ok (.bl (!decide (p ∈ ps))):=by
  show (do let k ← D.inn (pairD p) (.lst (ps.map pairD));.ok (D.bl (!k))) = _
  show (do let k ← when (D.pls 30 (ps.map pairD) && D.pl 29 (pairD p)) (.ok (D.mem (pairD p) (ps.map pairD)));.ok (D.bl (!k))) = _
  rw [when_of (by rw [pls_map pairD 29 (pairD_pl 28) ps,pairD_pl 28 p];rfl),mem_pairD];rfl
structure Nice (many:Nat) (S:List Scene):Prop where
  ok:∀ s ∈ S,OkScene many s
  nm:∀ s ∈ S,isNm s.name
  nd:(S.map Scene.name).Nodup
end Tr
namespace Tr
open PySem
section
variable {T:Tab} {cf:Nat → List D → Res D} {e:Nv}
@[simp] theorem ownP_t {ds:List D}:Sl.ownP (.t ds) = .ok ds:=id rfl
@[simp] theorem fresh_look {i:Nat} {x:E}:freshE T (.look i x) = freshE T x:=id rfl
@[simp] theorem evE_look {i:Nat} {x:E}:evE T cf (.look i x) e = (do let ds ← (e.at i).ownP;let d ← evE T cf x (e.set i (.v (.tup ds)));when (d.flat || (freshE T x && d.flatL)) (.ok d)):=id rfl
@[simp] theorem flat_bl {b:Bool}:D.flat (.bl b) = true:=id rfl
@[simp] theorem flat_lst {a:List D}:D.flat (.lst a) = false:=by rw [D.flat]
@[simp] theorem flatL_lst {a:List D}:D.flatL (.lst a) = D.flats a:=id rfl
theorem flats_nat:∀ xs:List Nat,D.flats (xs.map natI) = true
  | []=>by rw [List.map_nil,D.flats]
  | a :: r=>by rw [List.map_cons,D.flats,flats_nat r,show D.flat (natI a) = true from id rfl];rfl
noncomputable def setP (fr:Bool) (i:Nat) (e:Nv):D → Res Out
  | .tup (.lst a :: r)=>when fr (.ok (.nx (e.set i (.t (.lst a :: r)))))
  | _=>.no
@[simp] theorem setP_ok {i:Nat} {a r:List D}:setP true i e (.tup (.lst a :: r)) = .ok (.nx (e.set i (.t (.lst a :: r)))):=id rfl
@[simp] theorem exS_asgT {i:Nat} {x:E}:exS T cf (.asgT i x) e = (do let d ← evE T cf x e;setP (freshE T x) i e d):=by
  rw [xS_asgT]
  cases evE T cf x e with
  | ok o=>rfl
  | err _ _=>rfl
  | no=>rfl
noncomputable def endP (i:Nat) (e:Nv):List D → Res Out
  | .lst a :: _=>when (decide (a.length < big)) (.ok (.nx (e.set i .no)))
  | _=>.no
@[simp] theorem endP_ok {i:Nat} {a r:List D}:endP i e (.lst a :: r) = when (decide (a.length < big)) (.ok (.nx (e.set i .no))):=id rfl
@[simp] theorem exS_appT {i:Nat} {x:E}:exS T cf (.appT i x) e = (do let d ← evE T cf x e;let ds ← (e.at i).ownP;endP i e ds):=by
  rw [xS_appT]
  cases evE T cf x e with
  | ok o=>rfl
  | err _ _=>rfl
  | no=>rfl
noncomputable def retP (fr:Bool) (r:Res D):D → Res Out
  | .lst a=>do let d ← r;when fr (.ok (.rt (.tup [.lst a,d]) true))
  | _=>.no
@[simp] theorem retP_ok {r:Res D} {a:List D} {fr:Bool}:retP fr r (.lst a) = (do let d ← r;when fr (.ok (.rt (.tup [.lst a,d]) true))):=id rfl
@[simp] theorem exS_retT {x y:E}:exS T cf (.retT x y) e = (do let d ← evE T cf x e;retP (freshE T x) (evE T cf y e) d):=by
  rw [xS_retT]
  cases evE T cf x e with
  | ok o=>cases o <;> rfl
  | err _ _=>rfl
  | no=>rfl
end
noncomputable def castD (cs:List (Option Nat)):D:=.lst (cs.map optN)
noncomputable def hurtB (come:List (Nat × Nat)) (cs:List (Option Nat)):Bool:=come.any fun p=>oneB cs p.1 p.2
noncomputable def hurtV (come:List (Nat × Nat)) (CS:List (List (Option Nat))):List Nat:=(List.range CS.length).filter fun k=>hurtB come (CS.getD k [])
theorem castD_pl (k:Nat) (cs:List (Option Nat)):D.pl (k + 1) (castD cs) = true:=by
  show D.pl (k + 1) (.lst (cs.map optN)) = true
  rw [pl_lst]
  exact pls_map optN k (optN_pl k) cs
theorem lessV_len {X Y:List (Nat × Nat)}:(lessV X Y).length ≤ X.length:=List.length_filter_le _ _
theorem lessV_mem {X Y:List (Nat × Nat)} {p:Nat × Nat} (h:p ∈ lessV X Y):p ∈ X:=(List.mem_filter.mp h).1
theorem keep_map {α β:Type} (p:α → Bool) (f:α → β):∀ xs:List α,xs.filterMap (fun a=>if p a = true then some (f a) else none) = (xs.filter p).map f
  | []=>rfl
  | a :: r=>by
    rw [List.filterMap_cons,List.filter_cons,keep_map p f r]
    cases p a <;> rfl
theorem filter_any (p:α → Bool) (xs:List α):(!(xs.filter p).isEmpty) = xs.any p:=by
  induction xs with
  | nil=>rfl
  | cons a r ih =>
    rw [List.filter_cons,List.any_cons]
    cases p a with
    | true=>rfl
    | false=>rw [Bool.false_or,← ih];rfl
end Tr
namespace K73
open PySem Tr
noncomputable def e_consists_of_1:E :=
  (.cmp .In (.var 0) (.var 1))
noncomputable def b_consists_of:S :=
  (.cons (.ret (.bt .all (.acons (.comp 1 [0] (.one 0) e_consists_of_1 (.seq (.var 1)) (.con (.bl true))) .anil)))
  .nil)
noncomputable def b_are_unlike:S :=
  (.cons (.ret (.cmp .Eq (.lset (.var 0)) (.bt .len (.acons (.var 0) .anil))))
  .nil)
noncomputable def b_is_name:S :=
  (.cons (.ret (.and (.chain .LtE .LtE (.con (.int 1)) (.bt .len (.acons (.var 0) .anil)) (.con (.int 8))) (.call 0 (.acons (.glob 0) (.acons (.var 0) .anil)))))
  .nil)
noncomputable def b_number_named_1:S :=
  (.cons (.ite (.cmp .Eq (.ix (.var 3) (.con (.int 0))) (.var 1))
  (.cons (.ret (.var 2))
  .nil)
  .nil)
  .nil)
noncomputable def b_number_named:S :=
  (.cons (.forS (.many [2,3]) (.enum (.var 0)) b_number_named_1)
  (.cons (.ret (.con .non))
  .nil))
noncomputable def b_is_new_name:S :=
  (.cons (.ret (.and (.call 2 (.acons (.var 1) .anil)) (.cmp .Is (.call 3 (.acons (.var 0) (.acons (.var 1) .anil))) (.con .non))))
  .nil)
noncomputable def e_time_between_1:E :=
  (.bin .Add (.ix (.var 0) (.con (.int 1))) (.ix (.var 0) (.con (.int 2))))
noncomputable def b_time_between:S :=
  (.cons (.asg (.one 3) (.ix (.var 0) (.glob 2)))
  (.cons (.ret (.bin .Add (.ix (.ix (.var 3) (.var 1)) (.con (.int 2))) (.bt .sum (.acons (.comp 1 [] (.one 0) e_time_between_1 (.seq (.sl (.var 3) (.bin .Add (.var 1) (.con (.int 1))) (.var 2))) (.con (.bl true))) .anil))))
  .nil))
noncomputable def b_change_time:S :=
  (.cons (.ret (.bin .Add (.ix (.ix (.ix (.var 0) (.glob 1)) (.var 1)) (.con (.int 2))) (.ix (.ix (.ix (.var 0) (.glob 1)) (.var 2)) (.con (.int 3)))))
  .nil)
noncomputable def b_short_change_from_1:S :=
  (.cons (.ite (.cmp .In (.var 3) (.ix (.ix (.ix (.var 0) (.glob 2)) (.var 5)) (.con (.int 3))))
  (.cons (.asg (.one 6) (.call 5 (.acons (.var 0) (.acons (.var 1) (.acons (.var 5) .anil)))))
  (.cons (.ite (.cmp .Lt (.var 6) (.var 4))
  (.cons (.ret (.tup (.acons (.con (.str "change")) (.acons (.var 1) (.acons (.var 5) (.acons (.var 6) (.acons (.var 4) .anil)))))))
  .nil)
  .nil)
  .nil))
  .nil)
  .nil)
noncomputable def b_short_change_from:S :=
  (.cons (.asg (.one 4) (.call 6 (.acons (.var 0) (.acons (.var 2) (.acons (.var 3) .anil)))))
  (.cons (.forS (.one 5) (.rng2 (.bin .Add (.var 1) (.con (.int 1))) (.bt .len (.acons (.ix (.var 0) (.glob 2)) .anil))) b_short_change_from_1)
  (.cons (.ret (.con .non))
  .nil)))
noncomputable def b_reason_from:S :=
  (.cons (.asg (.one 4) (.ix (.ix (.ix (.var 0) (.glob 2)) (.var 1)) (.con (.int 3))))
  (.cons (.ite (.and (.cmp .In (.var 2) (.var 4)) (.cmp .In (.var 3) (.var 4)))
  (.cons (.ret (.tup (.acons (.con (.str "scene")) (.acons (.var 1) .anil))))
  .nil)
  .nil)
  (.cons (.ite (.cmp .In (.var 2) (.var 4))
  (.cons (.ret (.call 7 (.acons (.var 0) (.acons (.var 1) (.acons (.var 2) (.acons (.var 3) .anil))))))
  .nil)
  .nil)
  (.cons (.ite (.cmp .In (.var 3) (.var 4))
  (.cons (.ret (.call 7 (.acons (.var 0) (.acons (.var 1) (.acons (.var 3) (.acons (.var 2) .anil))))))
  .nil)
  .nil)
  (.cons (.ret (.con .non))
  .nil)))))
noncomputable def b_reason_of_1:S :=
  (.cons (.asg (.one 4) (.call 8 (.acons (.var 0) (.acons (.var 3) (.acons (.var 1) (.acons (.var 2) .anil))))))
  (.cons (.ite (.cmp .IsNot (.var 4) (.con .non))
  (.cons (.ret (.var 4))
  .nil)
  .nil)
  .nil))
noncomputable def b_reason_of:S :=
  (.cons (.forS (.one 3) (.rng (.bt .len (.acons (.ix (.var 0) (.glob 2)) .anil))) b_reason_of_1)
  (.cons (.ret (.con .non))
  .nil))
noncomputable def c_clashes_of_1:E :=
  (.cmp .IsNot (.call 9 (.acons (.var 2) (.acons (.var 1) (.acons (.var 0) .anil)))) (.con .non))
noncomputable def e_clashes_of_2:E :=
  (.tup (.acons (.var 1) (.acons (.var 0) .anil)))
noncomputable def b_clashes_of_3:S :=
  (.cons (.ext 1 (.comp 1 [3,0] (.one 0) e_clashes_of_2 (.rng2 (.bin .Add (.var 3) (.con (.int 1))) (.var 2)) c_clashes_of_1))
  .nil)
noncomputable def b_clashes_of:S :=
  (.cons (.asgO 1 (.lst .anil))
  (.cons (.asg (.one 2) (.bt .len (.acons (.ix (.var 0) (.glob 1)) .anil)))
  (.cons (.forS (.one 3) (.rng (.var 2)) b_clashes_of_3)
  (.cons (.retO 1)
  .nil))))
noncomputable def b_have_one_player:S :=
  (.cons (.ret (.and (.cmp .IsNot (.ix (.var 0) (.var 1)) (.con .non)) (.cmp .Eq (.ix (.var 0) (.var 1)) (.ix (.var 0) (.var 2)))))
  .nil)
noncomputable def b_are_minutes:S :=
  (.cons (.ret (.chain .LtE .LtE (.con (.int 0)) (.var 0) (.glob 3)))
  .nil)
noncomputable def b_is_part:S :=
  (.cons (.ret (.chain .LtE .Lt (.con (.int 0)) (.var 1) (.bt .len (.acons (.ix (.var 0) (.glob 1)) .anil))))
  .nil)
noncomputable def b_is_scene:S :=
  (.cons (.ret (.chain .LtE .Lt (.con (.int 0)) (.var 1) (.bt .len (.acons (.ix (.var 0) (.glob 2)) .anil))))
  .nil)
noncomputable def e_may_be_added_1:E :=
  (.call 13 (.acons (.var 1) (.acons (.var 0) .anil)))
noncomputable def b_may_be_added:S :=
  (.cons (.asg (.many [2,3,4,5]) (.var 1))
  (.cons (.ite (.or (.not (.call 4 (.acons (.ix (.var 0) (.glob 2)) (.acons (.var 2) .anil)))) (.or (.not (.call 12 (.acons (.var 3) .anil))) (.not (.call 12 (.acons (.var 4) .anil)))))
  (.cons (.ret (.con (.bl false)))
  .nil)
  .nil)
  (.cons (.ret (.and (.call 1 (.acons (.var 5) .anil)) (.bt .all (.acons (.comp 1 [0] (.one 0) e_may_be_added_1 (.seq (.var 5)) (.con (.bl true))) .anil))))
  .nil)))
noncomputable def b_fits_scene:S :=
  (.cons (.ite (.or (.cmp .Eq (.var 1) (.con (.str "length"))) (.cmp .Eq (.var 1) (.con (.str "pause"))))
  (.cons (.ret (.call 12 (.acons (.var 3) .anil)))
  .nil)
  .nil)
  (.cons (.ite (.cmp .Eq (.var 1) (.con (.str "enter")))
  (.cons (.ret (.and (.call 13 (.acons (.var 0) (.acons (.var 3) .anil))) (.cmp .NotIn (.var 3) (.ix (.var 2) (.con (.int 3))))))
  .nil)
  .nil)
  (.cons (.ret (.and (.cmp .Eq (.var 1) (.con (.str "leave"))) (.cmp .In (.var 3) (.ix (.var 2) (.con (.int 3))))))
  .nil)))
noncomputable def b_fits:S :=
  (.cons (.asg (.one 2) (.ix (.var 1) (.con (.int 0))))
  (.cons (.asg (.one 3) (.ix (.var 1) (.con (.int 1))))
  (.cons (.ite (.cmp .Eq (.var 2) (.con (.str "add")))
  (.cons (.ret (.and (.chain .LtE .LtE (.con (.int 0)) (.var 3) (.bt .len (.acons (.ix (.var 0) (.glob 2)) .anil))) (.call 15 (.acons (.var 0) (.acons (.ix (.var 1) (.con (.int 2))) .anil)))))
  .nil)
  .nil)
  (.cons (.ite (.not (.call 14 (.acons (.var 0) (.acons (.var 3) .anil))))
  (.cons (.ret (.con (.bl false)))
  .nil)
  .nil)
  (.cons (.ite (.cmp .Eq (.var 2) (.con (.str "move")))
  (.cons (.ret (.call 14 (.acons (.var 0) (.acons (.ix (.var 1) (.con (.int 2))) .anil))))
  .nil)
  .nil)
  (.cons (.ret (.or (.cmp .Eq (.var 2) (.con (.str "cut"))) (.call 16 (.acons (.var 0) (.acons (.var 2) (.acons (.ix (.ix (.var 0) (.glob 2)) (.var 3)) (.acons (.ix (.var 1) (.con (.int 2))) .anil)))))))
  .nil))))))
noncomputable def b_ask_that_it_fits:S :=
  (.cons (.ite (.not (.call 17 (.acons (.var 0) (.acons (.var 1) .anil))))
  (.cons (.never)
  .nil)
  .nil)
  .nil)
noncomputable def b_taken_out:S :=
  (.cons (.ret (.bin .Add (.sl (.var 0) .omit (.var 1)) (.sl (.var 0) (.bin .Add (.var 1) (.con (.int 1))) .omit)))
  .nil)
noncomputable def b_put_in:S :=
  (.cons (.ret (.bin .Add (.bin .Add (.sl (.var 0) .omit (.var 1)) (.tup (.acons (.var 2) .anil))) (.sl (.var 0) (.var 1) .omit)))
  .nil)
noncomputable def c_changed_scene_1:E :=
  (.cmp .NotEq (.var 0) (.var 1))
noncomputable def e_changed_scene_2:E :=
  (.var 0)
noncomputable def b_changed_scene:S :=
  (.cons (.asg (.many [3,4,5,6]) (.var 1))
  (.cons (.ite (.cmp .Eq (.var 0) (.con (.str "length")))
  (.cons (.ret (.tup (.acons (.var 3) (.acons (.var 2) (.acons (.var 5) (.acons (.var 6) .anil))))))
  .nil)
  .nil)
  (.cons (.ite (.cmp .Eq (.var 0) (.con (.str "pause")))
  (.cons (.ret (.tup (.acons (.var 3) (.acons (.var 4) (.acons (.var 2) (.acons (.var 6) .anil))))))
  .nil)
  .nil)
  (.cons (.ite (.cmp .Eq (.var 0) (.con (.str "enter")))
  (.cons (.ret (.tup (.acons (.var 3) (.acons (.var 4) (.acons (.var 5) (.acons (.bin .Add (.var 6) (.tup (.acons (.var 2) .anil))) .anil))))))
  .nil)
  .nil)
  (.cons (.ret (.tup (.acons (.var 3) (.acons (.var 4) (.acons (.var 5) (.acons (.bt .tuple (.acons (.comp 1 [2] (.one 0) e_changed_scene_2 (.seq (.var 6)) c_changed_scene_1) .anil)) .anil))))))
  .nil)))))
noncomputable def b_changed_scenes:S :=
  (.cons (.asg (.one 2) (.ix (.var 1) (.con (.int 0))))
  (.cons (.asg (.one 3) (.ix (.var 1) (.con (.int 1))))
  (.cons (.ite (.cmp .Eq (.var 2) (.con (.str "add")))
  (.cons (.ret (.call 20 (.acons (.var 0) (.acons (.var 3) (.acons (.ix (.var 1) (.con (.int 2))) .anil)))))
  .nil)
  .nil)
  (.cons (.asg (.one 4) (.call 19 (.acons (.var 0) (.acons (.var 3) .anil))))
  (.cons (.ite (.cmp .Eq (.var 2) (.con (.str "cut")))
  (.cons (.ret (.var 4))
  .nil)
  .nil)
  (.cons (.ite (.cmp .Eq (.var 2) (.con (.str "move")))
  (.cons (.ret (.call 20 (.acons (.var 4) (.acons (.ix (.var 1) (.con (.int 2))) (.acons (.ix (.var 0) (.var 3)) .anil)))))
  .nil)
  .nil)
  (.cons (.ret (.call 20 (.acons (.var 4) (.acons (.var 3) (.acons (.call 21 (.acons (.var 2) (.acons (.ix (.var 0) (.var 3)) (.acons (.ix (.var 1) (.con (.int 2))) .anil)))) .anil)))))
  .nil)))))))
noncomputable def b_changed:S :=
  (.cons (.exp (.call 18 (.acons (.var 0) (.acons (.var 1) .anil))))
  (.cons (.ret (.bin .Add (.bin .Add (.sl (.var 0) .omit (.glob 2)) (.tup (.acons (.call 22 (.acons (.ix (.var 0) (.glob 2)) (.acons (.var 1) .anil))) .anil))) (.sl (.var 0) (.bin .Add (.glob 2) (.con (.int 1))) .omit)))
  .nil))
noncomputable def c_shift_of_1:E :=
  (.cmp .NotIn (.var 0) (.var 1))
noncomputable def e_shift_of_2:E :=
  (.var 0)
noncomputable def c_shift_of_3:E :=
  (.cmp .NotIn (.var 0) (.var 1))
noncomputable def e_shift_of_4:E :=
  (.var 0)
noncomputable def b_shift_of:S :=
  (.cons (.asg (.one 2) (.call 10 (.acons (.var 0) .anil)))
  (.cons (.asg (.one 3) (.call 10 (.acons (.var 1) .anil)))
  (.cons (.retT (.comp 1 [2] (.one 0) e_shift_of_4 (.seq (.var 3)) c_shift_of_3) (.comp 1 [3] (.one 0) e_shift_of_2 (.seq (.var 2)) c_shift_of_1))
  .nil)))
noncomputable def e_is_hurt_1:E :=
  (.call 11 (.acons (.var 2) (.acons (.var 0) (.acons (.var 1) .anil))))
noncomputable def b_is_hurt:S :=
  (.cons (.ret (.bt .any (.acons (.comp 2 [1] (.many [0,1]) e_is_hurt_1 (.seq (.var 0)) (.con (.bl true))) .anil)))
  .nil)
noncomputable def c_hurt_by_1:E :=
  (.call 25 (.acons (.ix (.var 2) (.con (.int 0))) (.acons (.var 1) .anil)))
noncomputable def e_hurt_by_2:E :=
  (.var 0)
noncomputable def b_hurt_by:S :=
  (.cons (.ret (.comp 2 [0] (.many [0,1]) e_hurt_by_2 (.enum (.var 1)) c_hurt_by_1))
  .nil)
noncomputable def b_law_cell_at:S :=
  (.cons (.ite (.cmp .Lt (.var 1) (.bt .len (.acons (.var 0) .anil)))
  (.cons (.ret (.ix (.var 0) (.var 1)))
  .nil)
  .nil)
  (.cons (.ret (.con (.int 0)))
  .nil))
noncomputable def b_law_mix:S :=
  (.cons (.ret (.bin .Mod (.bin .Add (.bin .Mult (.bin .Mod (.var 0) (.con (.int 1000003))) (.bin .Add (.con (.int 48271)) (.bin .Mult (.bin .Mult (.con (.int 15838)) (.var 1)) (.var 1)))) (.bin .Mult (.con (.int 69621)) (.var 1))) (.con (.int 2147483647))))
  .nil)
noncomputable def b_law_name:S :=
  (.cons (.asg (.one 2) (.ix (.con (.str "abcdefghijklmnopqrstuvwxyz")) (.bin .Mod (.bin .Add (.var 0) (.bin .Mult (.var 1) (.ix (.lst (.acons (.con (.int 1)) (.acons (.con (.int 3)) (.acons (.con (.int 5)) (.acons (.con (.int 7)) .anil))))) (.bin .Mod (.bin .FloorDiv (.var 0) (.con (.int 26))) (.con (.int 4)))))) (.con (.int 26)))))
  (.cons (.asg (.one 3) (.ix (.lst (.acons (.con (.str "")) (.acons (.con (.str "a")) (.acons (.con (.str "ba")) (.acons (.con (.str "zzzzzzz")) .anil))))) (.bin .Mod (.bin .FloorDiv (.var 0) (.con (.int 104))) (.con (.int 4)))))
  (.cons (.asg (.one 4) (.bin .Mod (.bin .FloorDiv (.var 0) (.con (.int 416))) (.bin .Add (.bt .len (.acons (.var 3) .anil)) (.con (.int 1)))))
  (.cons (.ret (.bin .Add (.bin .Add (.sl (.var 3) .omit (.var 4)) (.var 2)) (.sl (.var 3) (.var 4) .omit)))
  .nil))))
noncomputable def b_law_minutes:S :=
  (.cons (.ret (.bin .Mod (.bin .FloorDiv (.var 0) (.con (.int 6))) (.ix (.lst (.acons (.con (.int 7)) (.acons (.con (.int 7)) (.acons (.con (.int 40)) (.acons (.bin .Pow (.con (.int 10)) (.con (.int 9))) .anil))))) (.bin .Add (.bin .FloorDiv (.bin .Mod (.var 0) (.con (.int 6))) (.con (.int 2))) (.bin .FloorDiv (.bin .Mod (.var 0) (.con (.int 6))) (.con (.int 5)))))))
  .nil)
noncomputable def b_law_part:S :=
  (.cons (.asg (.one 3) (.call 28 (.acons (.var 0) (.acons (.var 1) .anil))))
  (.cons (.asg (.one 4) (.ix (.lst (.acons (.con (.str "a")) (.acons (.con (.str "b")) (.acons (.con (.str "a")) (.acons (.sl (.call 29 (.acons (.bin .Mult (.con (.int 7)) (.var 2)) (.acons (.var 3) .anil))) .omit (.con (.int 1))) .anil))))) (.bin .Mod (.var 3) (.con (.int 4)))))
  (.cons (.ret (.tup (.acons (.call 29 (.acons (.var 2) (.acons (.var 1) .anil))) (.acons (.var 4) (.acons (.call 30 (.acons (.bin .FloorDiv (.var 3) (.con (.int 4))) .anil)) (.acons (.call 30 (.acons (.call 28 (.acons (.var 0) (.acons (.bin .Add (.var 1) (.con (.int 20))) .anil))) .anil)) .anil))))))
  .nil)))
noncomputable def b_law_player:S :=
  (.cons (.asg (.one 3) (.call 28 (.acons (.var 0) (.acons (.var 1) .anil))))
  (.cons (.asg (.one 4) (.ix (.lst (.acons (.con (.str "ab")) (.acons (.con (.str "a")) (.acons (.con (.str "bca")) (.acons (.con (.str "")) (.acons (.con (.str "abcdefghijklmnopqrstuvwxyz")) (.acons (.con (.str "zb")) .anil))))))) (.bin .Mod (.var 3) (.con (.int 6)))))
  (.cons (.ret (.tup (.acons (.call 29 (.acons (.var 2) (.acons (.var 1) .anil))) (.acons (.var 4) (.acons (.call 30 (.acons (.bin .FloorDiv (.var 3) (.con (.int 6))) .anil)) .anil)))))
  .nil)))
noncomputable def c_scene_1:E :=
  (.cmp .Eq (.bin .Mod (.bin .FloorDiv (.var 1) (.ix (.lst (.acons (.con (.int 1)) (.acons (.con (.int 3)) (.acons (.con (.int 9)) (.acons (.con (.int 27)) (.acons (.con (.int 81)) (.acons (.con (.int 243)) (.acons (.con (.int 729)) (.acons (.con (.int 2187)) .anil))))))))) (.var 0))) (.con (.int 3))) (.con (.int 0)))
noncomputable def e_scene_2:E :=
  (.var 0)
noncomputable def b_law_scene:S :=
  (.cons (.asg (.one 4) (.call 28 (.acons (.var 0) (.acons (.bin .Add (.var 1) (.con (.int 40))) .anil))))
  (.cons (.asg (.one 5) (.comp 1 [4] (.one 0) e_scene_2 (.rng (.var 3)) c_scene_1))
  (.cons (.asg (.one 6) (.bin .Mod (.var 0) (.bin .Add (.bt .len (.acons (.var 5) .anil)) (.con (.int 1)))))
  (.cons (.asg (.one 4) (.call 28 (.acons (.var 0) (.acons (.var 1) .anil))))
  (.cons (.asg (.one 7) (.call 30 (.acons (.call 28 (.acons (.var 0) (.acons (.bin .Add (.var 1) (.con (.int 20))) .anil))) .anil)))
  (.cons (.ret (.tup (.acons (.call 29 (.acons (.var 2) (.acons (.var 1) .anil))) (.acons (.call 30 (.acons (.var 4) .anil)) (.acons (.var 7) (.acons (.bt .tuple (.acons (.bin .Add (.sl (.var 5) (.var 6) .omit) (.sl (.var 5) .omit (.var 6))) .anil)) .anil))))))
  .nil))))))
noncomputable def b_pairs_1:S :=
  (.cons (.asg (.one 6) (.call 28 (.acons (.var 0) (.acons (.var 5) .anil))))
  (.cons (.asg (.one 7) (.tup (.acons (.bin .FloorDiv (.var 5) (.var 2)) (.acons (.bin .Mod (.var 5) (.var 2)) .anil))))
  (.cons (.ite (.cmp .Eq (.bin .Mod (.bin .FloorDiv (.var 6) (.con (.int 64))) (.var 3)) (.con (.int 0)))
  (.cons (.app 4 (.var 7))
  .nil)
  .nil)
  .nil)))
noncomputable def b_law_pairs:S :=
  (.cons (.asgO 4 (.lst .anil))
  (.cons (.forS (.one 5) (.rng (.bin .Mult (.var 1) (.var 2))) b_pairs_1)
  (.cons (.asg (.one 8) (.bin .Mod (.var 0) (.bin .Add (.bt .len (.acons (.rd 4) .anil)) (.con (.int 1)))))
  (.cons (.ret (.bin .Add (.sl (.rd 4) (.var 8) .omit) (.sl (.rd 4) .omit (.var 8))))
  .nil))))
noncomputable def e_drawn_1:E :=
  (.call 27 (.acons (.var 1) (.acons (.bin .Add (.var 2) (.var 0)) .anil)))
noncomputable def e_drawn_2:E :=
  (.call 31 (.acons (.ix (.var 1) (.con (.int 2))) (.acons (.var 0) (.acons (.ix (.var 1) (.con (.int 0))) .anil))))
noncomputable def e_drawn_3:E :=
  (.call 32 (.acons (.ix (.var 1) (.con (.int 3))) (.acons (.var 0) (.acons (.ix (.var 1) (.con (.int 4))) .anil))))
noncomputable def b_drawn_4:S :=
  (.cons (.app 6 (.call 33 (.acons (.var 8) (.acons (.var 7) (.acons (.ix (.var 2) (.con (.int 5))) (.acons (.var 3) .anil))))))
  .nil)
noncomputable def b_drawn_5:S :=
  (.cons (.app 9 (.tup (.acons (.var 10) (.acons (.var 11) (.acons (.bin .Mod (.call 28 (.acons (.ix (.var 2) (.con (.int 6))) (.acons (.bin .Add (.var 11) (.bin .Mult (.con (.int 9)) (.var 10))) .anil))) (.bin .Pow (.con (.int 10)) (.con (.int 9)))) .anil)))))
  .nil)
noncomputable def b_law_drawn:S :=
  (.cons (.asg (.one 2) (.comp 1 [0,1] (.one 0) e_drawn_1 (.rng (.con (.int 8))) (.con (.bl true))))
  (.cons (.asg (.one 3) (.bin .Add (.bin .Mod (.ix (.var 2) (.con (.int 1))) (.con (.int 7))) (.bin .Mult (.con (.int 2)) (.bt .int (.acons (.and (.cmp .Eq (.bin .Mod (.bin .FloorDiv (.ix (.var 2) (.con (.int 1))) (.con (.int 7))) (.con (.int 8))) (.con (.int 5))) (.cmp .Eq (.bin .Mod (.ix (.var 2) (.con (.int 1))) (.con (.int 7))) (.con (.int 6)))) .anil)))))
  (.cons (.asg (.one 4) (.bt .tuple (.acons (.comp 1 [2] (.one 0) e_drawn_2 (.rng (.var 3)) (.con (.bl true))) .anil)))
  (.cons (.asg (.one 5) (.bt .tuple (.acons (.comp 1 [2] (.one 0) e_drawn_3 (.rng (.bin .Mod (.bin .FloorDiv (.ix (.var 2) (.con (.int 1))) (.con (.int 56))) (.con (.int 7)))) (.con (.bl true))) .anil)))
  (.cons (.asgO 6 (.lst .anil))
  (.cons (.forS (.many [7,8]) (.enum (.sl (.var 0) (.bin .Add (.var 1) (.con (.int 8))) (.bin .Add (.var 1) (.con (.int 17))))) b_drawn_4)
  (.cons (.asgO 9 (.lst .anil))
  (.cons (.forS (.many [10,11]) (.seq (.call 34 (.acons (.ix (.var 2) (.con (.int 6))) (.acons (.bt .len (.acons (.var 5) .anil)) (.acons (.var 3) (.acons (.con (.int 3)) .anil)))))) b_drawn_5)
  (.cons (.asg (.one 12) (.bt .tuple (.acons (.call 34 (.acons (.ix (.var 2) (.con (.int 7))) (.acons (.var 3) (.acons (.bt .len (.acons (.var 5) .anil)) (.acons (.con (.int 2)) .anil))))) .anil)))
  (.cons (.ret (.tup (.acons (.var 4) (.acons (.var 5) (.acons (.bt .tuple (.acons (.rd 6) .anil)) (.acons (.bt .tuple (.acons (.rd 9) .anil)) (.acons (.var 12) .anil)))))))
  .nil))))))))))
noncomputable def c_given_1:E :=
  (.cmp .In (.ix (.ix (.ix (.var 2) (.con (.int 0))) (.var 1)) (.con (.int 1))) (.ix (.ix (.ix (.var 2) (.con (.int 1))) (.var 0)) (.con (.int 1))))
noncomputable def e_given_2:E :=
  (.var 0)
noncomputable def b_given_3:S :=
  (.cons (.asg (.one 4) (.call 28 (.acons (.var 1) (.acons (.var 3) .anil))))
  (.cons (.asg (.one 5) (.comp 1 [3,0] (.one 0) e_given_2 (.rng (.bt .len (.acons (.ix (.var 0) (.con (.int 1))) .anil))) c_given_1))
  (.cons (.ite (.or (.cmp .Eq (.bin .Mod (.var 4) (.con (.int 9))) (.con (.int 4))) (.cmp .Eq (.ix (.var 0) (.con (.int 1))) (.tup .anil)))
  (.cons (.app 2 (.con .non))
  .nil)
  (.cons (.ite (.or (.cmp .Eq (.bin .Mod (.var 4) (.con (.int 9))) (.con (.int 5))) (.cmp .Eq (.var 5) (.lst .anil)))
  (.cons (.app 2 (.bin .Mod (.bin .FloorDiv (.var 4) (.con (.int 9))) (.bt .len (.acons (.ix (.var 0) (.con (.int 1))) .anil))))
  .nil)
  (.cons (.app 2 (.ix (.var 5) (.bin .Mod (.bin .FloorDiv (.var 4) (.con (.int 9))) (.bt .len (.acons (.var 5) .anil)))))
  .nil))
  .nil))
  .nil)))
noncomputable def b_law_given:S :=
  (.cons (.asgO 2 (.lst .anil))
  (.cons (.forS (.one 3) (.rng (.bt .len (.acons (.ix (.var 0) (.con (.int 0))) .anil))) b_given_3)
  (.cons (.retO 2)
  .nil)))
noncomputable def c_new_scene_1:E :=
  (.cmp .Eq (.bin .Mod (.bin .FloorDiv (.var 1) (.ix (.lst (.acons (.con (.int 1)) (.acons (.con (.int 3)) (.acons (.con (.int 9)) (.acons (.con (.int 27)) (.acons (.con (.int 81)) (.acons (.con (.int 243)) (.acons (.con (.int 729)) (.acons (.con (.int 2187)) .anil))))))))) (.var 0))) (.con (.int 3))) (.con (.int 0)))
noncomputable def e_new_scene_2:E :=
  (.var 0)
noncomputable def b_law_new_scene:S :=
  (.cons (.asg (.one 2) (.call 28 (.acons (.var 1) (.acons (.con (.int 3)) .anil))))
  (.cons (.asg (.one 3) (.comp 1 [2] (.one 0) e_new_scene_2 (.rng (.bt .len (.acons (.ix (.var 0) (.con (.int 0))) .anil))) c_new_scene_1))
  (.cons (.asg (.one 4) (.bin .Mod (.var 1) (.bin .Add (.bt .len (.acons (.var 3) .anil)) (.con (.int 1)))))
  (.cons (.asg (.one 5) (.tup (.acons (.call 30 (.acons (.var 2) .anil)) (.acons (.call 30 (.acons (.call 28 (.acons (.var 1) (.acons (.con (.int 5)) .anil))) .anil)) .anil))))
  (.cons (.ret (.tup (.acons (.bin .Add (.con (.str "new")) (.ix (.con (.str "abcdefgh")) (.bin .Mod (.var 1) (.con (.int 8))))) (.acons (.ix (.var 5) (.con (.int 0))) (.acons (.ix (.var 5) (.con (.int 1))) (.acons (.bt .tuple (.acons (.bin .Add (.sl (.var 3) (.var 4) .omit) (.sl (.var 3) .omit (.var 4))) .anil)) .anil))))))
  .nil)))))
noncomputable def e_good_change_1:E :=
  (.ix (.var 0) (.con (.int 0)))
noncomputable def c_good_change_2:E :=
  (.cmp .NotIn (.var 0) (.var 1))
noncomputable def e_good_change_3:E :=
  (.var 0)
noncomputable def b_law_good_change:S :=
  (.cons (.asg (.one 2) (.ix (.var 0) (.con (.int 2))))
  (.cons (.asg (.one 3) (.bin .Mod (.var 1) (.con (.int 7))))
  (.cons (.asg (.one 4) (.call 28 (.acons (.bin .FloorDiv (.var 1) (.con (.int 7))) (.acons (.con (.int 1)) .anil))))
  (.cons (.asg (.one 5) (.call 37 (.acons (.var 0) (.acons (.bin .FloorDiv (.var 1) (.con (.int 7))) .anil))))
  (.cons (.ite (.or (.cmp .Eq (.var 2) (.tup .anil)) (.cmp .Eq (.var 3) (.con (.int 0))))
  (.cons (.ite (.and (.cmp .NotIn (.ix (.var 5) (.con (.int 0))) (.comp 1 [] (.one 0) e_good_change_1 (.seq (.var 2)) (.con (.bl true)))) (.cmp .Lt (.bt .len (.acons (.var 2) .anil)) (.con (.int 20))))
  (.cons (.ret (.tup (.acons (.con (.str "add")) (.acons (.bin .Mod (.var 4) (.bin .Add (.bt .len (.acons (.var 2) .anil)) (.con (.int 1)))) (.acons (.var 5) .anil)))))
  .nil)
  .nil)
  (.cons (.ret (.tup (.acons (.con (.str "cut")) (.acons (.bin .Mod (.var 4) (.bt .len (.acons (.var 2) .anil))) .anil))))
  .nil))
  .nil)
  (.cons (.asg (.one 6) (.bin .Mod (.var 4) (.bt .len (.acons (.var 2) .anil))))
  (.cons (.asg (.one 7) (.bin .FloorDiv (.var 4) (.bt .len (.acons (.var 2) .anil))))
  (.cons (.ite (.cmp .Eq (.var 3) (.con (.int 1)))
  (.cons (.ret (.tup (.acons (.con (.str "cut")) (.acons (.var 6) .anil))))
  .nil)
  .nil)
  (.cons (.ite (.cmp .Lt (.var 3) (.con (.int 4)))
  (.cons (.ret (.ix (.lst (.acons (.tup (.acons (.con (.str "length")) (.acons (.var 6) (.acons (.call 30 (.acons (.var 7) .anil)) .anil)))) (.acons (.tup (.acons (.con (.str "pause")) (.acons (.var 6) (.acons (.call 30 (.acons (.var 7) .anil)) .anil)))) .anil))) (.bin .Sub (.var 3) (.con (.int 2)))))
  .nil)
  .nil)
  (.cons (.asg (.one 8) (.ix (.ix (.var 2) (.var 6)) (.con (.int 3))))
  (.cons (.asg (.one 9) (.comp 1 [8] (.one 0) e_good_change_3 (.rng (.bt .len (.acons (.ix (.var 0) (.con (.int 0))) .anil))) c_good_change_2))
  (.cons (.ite (.and (.cmp .Eq (.var 3) (.con (.int 5))) (.cmp .NotEq (.var 9) (.lst .anil)))
  (.cons (.ret (.tup (.acons (.con (.str "enter")) (.acons (.var 6) (.acons (.ix (.var 9) (.bin .Mod (.var 7) (.bt .len (.acons (.var 9) .anil)))) .anil)))))
  .nil)
  .nil)
  (.cons (.ite (.and (.cmp .Eq (.var 3) (.con (.int 6))) (.cmp .NotEq (.var 8) (.tup .anil)))
  (.cons (.ret (.tup (.acons (.con (.str "leave")) (.acons (.var 6) (.acons (.ix (.var 8) (.bin .Mod (.var 7) (.bt .len (.acons (.var 8) .anil)))) .anil)))))
  .nil)
  .nil)
  (.cons (.ret (.tup (.acons (.con (.str "move")) (.acons (.var 6) (.acons (.bin .Mod (.var 7) (.bt .len (.acons (.var 2) .anil))) .anil)))))
  .nil))))))))))))))
noncomputable def c_is_hurt_2:E :=
  (.and (.cmp .IsNot (.ix (.var 1) (.ix (.var 0) (.con (.int 0)))) (.con .non)) (.cmp .Eq (.ix (.var 1) (.ix (.var 0) (.con (.int 0)))) (.ix (.var 1) (.ix (.var 0) (.con (.int 1))))))
noncomputable def e_is_hurt_3:E :=
  (.var 0)
noncomputable def b_law_is_hurt:S :=
  (.cons (.ret (.cmp .NotEq (.comp 1 [1] (.one 0) e_is_hurt_3 (.seq (.var 0)) c_is_hurt_2) (.lst .anil)))
  .nil)
noncomputable def b_law_1:S :=
  (.cons (.asg (.one 2) (.call 23 (.acons (.var 2) (.acons (.call 38 (.acons (.var 2) (.acons (.call 28 (.acons (.call 27 (.acons (.var 0) (.acons (.con (.int 1)) .anil))) (.acons (.var 3) .anil))) .anil))) .anil))))
  .nil)
noncomputable def c_law_2:E :=
  (.cmp .NotIn (.var 0) (.var 1))
noncomputable def e_law_3:E :=
  (.var 0)
noncomputable def c_law_4:E :=
  (.cmp .NotIn (.var 0) (.var 1))
noncomputable def e_law_5:E :=
  (.var 0)
noncomputable def e_law_6:E :=
  (.call 36 (.acons (.var 1) (.acons (.var 0) .anil)))
noncomputable def e_law_7:E :=
  (.bt .list (.acons (.var 0) .anil))
noncomputable def c_law_8:E :=
  (.call 39 (.acons (.ix (.var 1) (.con (.int 0))) (.acons (.ix (.var 2) (.var 0)) .anil)))
noncomputable def e_law_9:E :=
  (.var 0)
noncomputable def b_law:S :=
  (.cons (.asg (.one 1) (.call 35 (.acons (.var 0) (.acons (.con (.int 2)) .anil))))
  (.cons (.asg (.one 1) (.bin .Add (.bin .Add (.sl (.var 1) .omit (.con (.int 2))) (.tup (.acons (.sl (.ix (.var 1) (.con (.int 2))) .omit (.con (.int 5))) .anil))) (.sl (.var 1) (.con (.int 3)) .omit)))
  (.cons (.asg (.one 2) (.var 1))
  (.cons (.forS (.one 3) (.rng (.bin .Add (.con (.int 1)) (.bin .Mod (.call 27 (.acons (.var 0) (.acons (.con (.int 0)) .anil))) (.con (.int 3))))) b_law_1)
  (.cons (.asg (.one 4) (.call 10 (.acons (.var 1) .anil)))
  (.cons (.asg (.one 5) (.call 10 (.acons (.var 2) .anil)))
  (.cons (.asg (.one 6) (.tup (.acons (.comp 1 [4] (.one 0) e_law_5 (.seq (.var 5)) c_law_4) (.acons (.comp 1 [5] (.one 0) e_law_3 (.seq (.var 4)) c_law_2) .anil))))
  (.cons (.asgT 7 (.call 24 (.acons (.var 1) (.acons (.var 2) .anil))))
  (.cons (.ite (.look 7 (.or (.not (.isi (.var 7) .tuple)) (.or (.cmp .NotEq (.bt .len (.acons (.var 7) .anil)) (.con (.int 2))) (.cmp .NotEq (.var 7) (.var 6)))))
  (.cons (.ret (.con (.bl false)))
  .nil)
  .nil)
  (.cons (.ite (.look 7 (.or (.not (.isi (.ix (.var 7) (.con (.int 0))) .list)) (.or (.not (.isi (.ix (.var 7) (.con (.int 1))) .list)) (.cmp .NotEq (.call 24 (.acons (.var 2) (.acons (.var 1) .anil))) (.tup (.acons (.ix (.var 6) (.con (.int 1))) (.acons (.ix (.var 6) (.con (.int 0))) .anil)))))))
  (.cons (.ret (.con (.bl false)))
  .nil)
  .nil)
  (.cons (.asg (.one 8) (.comp 1 [1] (.one 0) e_law_6 (.seq (.sl (.var 0) (.con (.int 19)) (.con (.int 24)))) (.con (.bl true))))
  (.cons (.asg (.one 9) (.comp 1 [] (.one 0) e_law_7 (.seq (.var 8)) (.con (.bl true))))
  (.cons (.asgO 10 (.look 7 (.call 26 (.acons (.var 7) (.acons (.var 8) .anil)))))
  (.cons (.ite (.or (.not (.isi (.rd 10) .list)) (.cmp .NotEq (.var 8) (.var 9)))
  (.cons (.ret (.con (.bl false)))
  .nil)
  .nil)
  (.cons (.ite (.cmp .NotEq (.rd 10) (.comp 1 [6,8] (.one 0) e_law_9 (.rng (.bt .len (.acons (.var 8) .anil))) c_law_8))
  (.cons (.ret (.con (.bl false)))
  .nil)
  .nil)
  (.cons (.appT 7 (.con .non))
  (.cons (.app 10 (.con .non))
  (.cons (.ret (.and (.cmp .Eq (.call 24 (.acons (.var 1) (.acons (.var 2) .anil))) (.var 6)) (.and (.cmp .Eq (.call 26 (.acons (.var 6) (.acons (.var 8) .anil))) (.sl (.rd 10) .omit (.neg (.con (.int 1))))) (.cmp .Eq (.call 24 (.acons (.var 1) (.acons (.var 1) .anil))) (.tup (.acons (.lst .anil) (.acons (.lst .anil) .anil)))))))
  .nil))))))))))))))))))
noncomputable def T:Tab:=⟨fun g=>match g with | 0=>(.str "abcdefghijklmnopqrstuvwxyz") | 1=>(.int 0) | 2=>(.int 2) | 3=>(.int 999999999) | _=>.non,fun f=>f == 10 || f == 24 || f == 26 || f == 36⟩
@[simp] theorem T_glob0:T.glob 0 = (.str "abcdefghijklmnopqrstuvwxyz"):=id rfl
@[simp] theorem T_glob1:T.glob 1 = (.int 0):=id rfl
@[simp] theorem T_glob2:T.glob 2 = (.int 2):=id rfl
@[simp] theorem T_glob3:T.glob 3 = (.int 999999999):=id rfl
@[simp] theorem T_fresh7:T.fresh 7 = false:=id rfl
@[simp] theorem T_fresh12:T.fresh 12 = false:=id rfl
@[simp] theorem T_fresh14:T.fresh 14 = false:=id rfl
@[simp] theorem T_fresh20:T.fresh 20 = false:=id rfl
@[simp] theorem T_fresh24:T.fresh 24 = true:=id rfl
@[simp] theorem T_fresh26:T.fresh 26 = true:=id rfl
noncomputable def dfs:List Df:=[⟨2,2,b_consists_of,none⟩,⟨1,1,b_are_unlike,none⟩,⟨1,1,b_is_name,none⟩,⟨4,2,b_number_named,none⟩,⟨2,2,b_is_new_name,none⟩,⟨4,3,b_time_between,none⟩,⟨3,3,b_change_time,none⟩,⟨7,4,b_short_change_from,none⟩,⟨5,4,b_reason_from,none⟩,⟨5,3,b_reason_of,none⟩,⟨4,1,b_clashes_of,none⟩,⟨3,3,b_have_one_player,none⟩,⟨1,1,b_are_minutes,none⟩,⟨2,2,b_is_part,none⟩,⟨2,2,b_is_scene,none⟩,⟨6,2,b_may_be_added,none⟩,⟨4,4,b_fits_scene,none⟩,⟨4,2,b_fits,none⟩,⟨2,2,b_ask_that_it_fits,none⟩,⟨2,2,b_taken_out,none⟩,⟨3,3,b_put_in,none⟩,⟨7,3,b_changed_scene,none⟩,⟨5,2,b_changed_scenes,none⟩,⟨2,2,b_changed,none⟩,⟨4,2,b_shift_of,none⟩,⟨2,2,b_is_hurt,none⟩,⟨2,2,b_hurt_by,none⟩,⟨2,2,b_law_cell_at,none⟩,⟨2,2,b_law_mix,none⟩,⟨5,2,b_law_name,none⟩,⟨1,1,b_law_minutes,none⟩,⟨5,3,b_law_part,none⟩,⟨5,3,b_law_player,none⟩,⟨8,4,b_law_scene,none⟩,⟨9,4,b_law_pairs,none⟩,⟨13,2,b_law_drawn,none⟩,⟨6,2,b_law_given,none⟩,⟨6,2,b_law_new_scene,none⟩,⟨10,2,b_law_good_change,none⟩,⟨2,2,b_law_is_hurt,none⟩,⟨11,1,b_law,none⟩]
end K73
namespace K73
open PySem Tr
theorem cell_at (n:Nat) (ns:List Int) (k:Nat):callF T dfs (n + 1) 27 [.lst (ns.map D.int),.int k] = .ok (.int (cellV ns k)):=by
  unfold cellV
  refine callF_rt (k:=false) rfl rfl rfl ?_
  by_cases h:k < ns.length
  · have hi:(ns.map D.int)[k]? = some (.int (ns.getD k 0)):=by simp [h]
    have f1:freshE T ((E.var 0).ix (E.var 1)) = false:=rfl
    simp [b_law_cell_at,h,ix_l hi,f1]
  · simp [b_law_cell_at,h]
noncomputable def stepV (c:Int):Int:=if c / 26 % 4 = 0 then 1 else if c / 26 % 4 = 1 then 3 else if c / 26 % 4 = 2 then 5 else 7
noncomputable def tailL (c:Int):List Nat:=if c / 104 % 4 = 0 then [] else if c / 104 % 4 = 1 then [97] else if c / 104 % 4 = 2 then [98,97] else [122,122,122,122,122,122,122]
noncomputable def atV (c:Int):Nat:=(c / 416 % (((tailL c).length:Int) + 1)).toNat
noncomputable def signV (c k:Int):Nat:=97 + ((c + k * stepV c) % 26).toNat
noncomputable def nameL (c k:Int):List Nat:=(tailL c).take (atV c) ++ signV c k :: (tailL c).drop (atV c)
noncomputable def nameV (c k:Int):Str:=⟨(nameL c k).toArray⟩
theorem signs_name (c k:Int):signs (nameV c k) = nameL c k:=by simp [signs,nameV]
theorem tail_len (c:Int):(tailL c).length ≤ 7:=by
  unfold tailL
  repeat' split
  all_goals simp
theorem atV_le (c:Int):atV c ≤ (tailL c).length:=by
  unfold atV
  have:=Int.emod_lt_of_pos (c / 416) (show (0:Int) < ((tailL c).length:Int) + 1 by (first | lia | omega))
  (first | lia | omega)
theorem sign_range (c k:Int):97 ≤ signV c k ∧ signV c k ≤ 122:=by
  unfold signV
  have h1:=Int.emod_nonneg (c + k * stepV c) (show (26:Int) ≠ 0 by (first | lia | omega))
  have h2:=Int.emod_lt_of_pos (c + k * stepV c) (show (0:Int) < 26 by (first | lia | omega))
  (first | lia | omega)
theorem has_letter {c:Nat} (h:97 ≤ c ∧ c ≤ 122):hasC "abcdefghijklmnopqrstuvwxyz" c = true:=by
  have:∀ i:Fin 26,hasC "abcdefghijklmnopqrstuvwxyz" (97 + i.val) = true:=by decide
  have:=this ⟨c - 97,by (first | lia | omega)⟩
  rwa [show 97 + (c - 97) = c by (first | lia | omega)] at this
theorem tail_mem {c:Int} {x:Nat} (h:x ∈ tailL c):97 ≤ x ∧ x ≤ 122:=by
  unfold tailL at h
  repeat' split at h
  all_goals simp at h
  all_goals (first | lia | omega)
theorem name_mem {c k:Int} {x:Nat} (h:x ∈ nameL c k):97 ≤ x ∧ x ≤ 122:=by
  unfold nameL at h
  rw [List.mem_append,List.mem_cons] at h
  rcases h with h | rfl | h
  · exact tail_mem (List.mem_of_mem_take h)
  · exact sign_range c k
  · exact tail_mem (List.mem_of_mem_drop h)
theorem name_len (c k:Int):(nameL c k).length = (tailL c).length + 1:=by
  have:=atV_le c
  unfold nameL
  rw [List.length_append,List.length_cons,List.length_take,List.length_drop]
  (first | lia | omega)
theorem name_nm (c k:Int):isNm (nameV c k):=by
  have h:=tail_len c
  have h2:=name_len c k
  refine ⟨by rw [signs_name];(first | lia | omega),by rw [signs_name];(first | lia | omega),?_⟩
  rw [signs_name,List.all_eq_true]
  exact fun x hx=>has_letter (name_mem hx)
theorem name_inj {c k k':Int} (h0:0 ≤ k ∧ k < 26) (h1:0 ≤ k' ∧ k' < 26) (h:nameV c k = nameV c k'):k = k':=by
  have e:nameL c k = nameL c k':=by rw [← signs_name,← signs_name,h]
  unfold nameL at e
  have e2:=List.append_cancel_left e
  injection e2 with e3 _
  unfold signV at e3
  have a1:=Int.emod_nonneg (c + k * stepV c) (show (26:Int) ≠ 0 by (first | lia | omega))
  have a2:=Int.emod_nonneg (c + k' * stepV c) (show (26:Int) ≠ 0 by (first | lia | omega))
  have e4:(c + k * stepV c) % 26 = (c + k' * stepV c) % 26:=by (first | lia | omega)
  unfold stepV at e4
  repeat' split at e4
  all_goals (first | lia | omega)
theorem letter_at (i:Int) (h:0 ≤ i ∧ i < 26):D.ix (.str "abcdefghijklmnopqrstuvwxyz") (.int i) = .ok (.str (chr1 (97 + i.toNat))):=by
  have hb:=ten_big
  have a:∀ j:Fin 26,atI (("abcdefghijklmnopqrstuvwxyz" : Str).cps.toList) ((j.val:Nat):Int) = some (97 + j.val):=by decide
  have:=a ⟨i.toNat,by (first | lia | omega)⟩
  rw [show ((i.toNat:Nat):Int) = i by (first | lia | omega)] at this
  show when (decide (("abcdefghijklmnopqrstuvwxyz" : Str).length ≤ big)) (Res.of ((atI ("abcdefghijklmnopqrstuvwxyz" : Str).cps.toList i).map fun c=>D.str ⟨#[c]⟩)) = _
  rw [this,show decide (("abcdefghijklmnopqrstuvwxyz" : Str).length ≤ big) = true by
    rw [show ("abcdefghijklmnopqrstuvwxyz" : Str).length = 26 by decide];simp;(first | lia | omega)]
  rfl
noncomputable def tailS (c:Int):Str:=⟨(tailL c).toArray⟩
theorem four_at {α:Type} (a b c d:α) (i:Int) (h:0 ≤ i ∧ i < 4):atI [a,b,c,d] i = some (if i = 0 then a else if i = 1 then b else if i = 2 then c else d):=by
  have:i = 0 ∨ i = 1 ∨ i = 2 ∨ i = 3:=by (first | lia | omega)
  rcases this with rfl | rfl | rfl | rfl <;> rfl
theorem law_name (n:Nat) (c k:Int):callF T dfs (n + 1) 29 [.int c,.int k] = .ok (.str (nameV c k)):=by
  refine callF_rt (k:=true) rfl rfl rfl ?_
  have hb:=ten_big
  have r1:0 ≤ c / 26 % 4 ∧ c / 26 % 4 < 4:=by (first | lia | omega)
  have r2:0 ≤ c / 104 % 4 ∧ c / 104 % 4 < 4:=by (first | lia | omega)
  have e1:D.ix (.lst [.int 1,.int 3,.int 5,.int 7]) (.int (c / 26 % 4)) = .ok (.int (stepV c)):=by
    show Res.of (atI _ _) = _
    rw [four_at _ _ _ _ _ r1]
    unfold stepV
    repeat' split
    all_goals rfl
  have e2:D.ix (.lst [.str "", .str "a", .str "ba", .str "zzzzzzz"]) (.int (c / 104 % 4)) = .ok (.str (tailS c)):=by
    show Res.of (atI _ _) = _
    rw [four_at _ _ _ _ _ r2]
    unfold tailS tailL
    repeat' split
    · exact congrArg (fun z=>Res.ok (D.str z)) (show ("" : Str) = _ by decide)
    · exact congrArg (fun z=>Res.ok (D.str z)) (show ("a" : Str) = _ by decide)
    · exact congrArg (fun z=>Res.ok (D.str z)) (show ("ba" : Str) = _ by decide)
    · exact congrArg (fun z=>Res.ok (D.str z)) (show ("zzzzzzz" : Str) = _ by decide)
  have hs:signs (tailS c) = tailL c:=by simp [signs,tailS]
  have hl:=len_signs (tailS c)
  rw [hs] at hl
  have ht:=tail_len c
  have ha:=atV_le c
  have e3:D.bin .Mult (.int k) (.int (stepV c)) = .ok (.int (k * stepV c)):=by
    show when (small64 k || small64 (stepV c)) _ = _
    have:small64 (stepV c) = true:=by
      unfold stepV
      repeat' split
      all_goals decide
    rw [this,Bool.or_true];rfl
  have r3:0 ≤ (c + k * stepV c) % 26 ∧ (c + k * stepV c) % 26 < 26:=by (first | lia | omega)
  have e4:=letter_at _ r3
  have e5:(tailS c).length ≤ big:=by (first | lia | omega)
  have e6:(0:Int) < (tailL c).length + 1:=by (first | lia | omega)
  have e7:c / 416 % (((tailL c).length:Int) + 1) = (atV c:Int):=by
    unfold atV
    have:=Int.emod_nonneg (c / 416) (show ((tailL c).length:Int) + 1 ≠ 0 by (first | lia | omega))
    (first | lia | omega)
  have e8:D.sl (.str (tailS c)) none (some (atV c:Int)) = .ok (.str ⟨((tailL c).take (atV c)).toArray⟩):=by
    show when (decide ((tailS c).length ≤ big)) (.ok (D.str (strCut (tailS c) none (some (atV c:Int))))) = _
    rw [show decide ((tailS c).length ≤ big) = true by simpa using e5]
    unfold strCut
    rw [show (tailS c).cps.toList = tailL c from hs]
    have:cut (tailL c) none (some (atV c:Int)) = (tailL c).take (atV c):=by
      unfold cut sIx
      simp only []
      rw [if_neg (by (first | lia | omega)),Int.toNat_natCast,Nat.min_eq_left ha,List.drop_zero,Nat.sub_zero]
    rw [this];rfl
  have e9:D.sl (.str (tailS c)) (some (atV c:Int)) none = .ok (.str ⟨((tailL c).drop (atV c)).toArray⟩):=by
    show when (decide ((tailS c).length ≤ big)) (.ok (D.str (strCut (tailS c) (some (atV c:Int)) none))) = _
    rw [show decide ((tailS c).length ≤ big) = true by simpa using e5]
    unfold strCut
    rw [show (tailS c).cps.toList = tailL c from hs,cut_from ha];rfl
  have e10:D.bin .Add (.str ⟨((tailL c).take (atV c)).toArray⟩) (.str (chr1 (97 + ((c + k * stepV c) % 26).toNat))) = .ok (.str ⟨((tailL c).take (atV c) ++ [signV c k]).toArray⟩):=by
    exact add_strs (a:=(tailL c).take (atV c)) (b:=[signV c k]) (by simp;(first | lia | omega))
  have e11:D.bin .Add (.str ⟨((tailL c).take (atV c) ++ [signV c k]).toArray⟩) (.str ⟨((tailL c).drop (atV c)).toArray⟩) = .ok (.str (nameV c k)):=by
    rw [add_strs (by simp;(first | lia | omega))]
    unfold nameV nameL
    rw [List.append_assoc];rfl
  have e12:(tailL c).length ≤ big:=by (first | lia | omega)
  simp [b_law_name,e1,e2,e3,e4,hl,e12,e6,e7,e8,e9,e10,e11]
noncomputable def minV (x:Int):Int:=x / 6 % (if x % 6 < 4 then 7 else if x % 6 = 4 then 40 else 1000000000)
theorem minV_range (x:Int):0 ≤ minV x ∧ minV x < 1000000000:=by
  unfold minV
  repeat' split
  all_goals (first | lia | omega)
theorem law_minutes (n:Nat) (x:Int):callF T dfs (n + 1) 30 [.int x] = .ok (.int (minV x)):=by
  refine callF_rt (k:=false) rfl rfl rfl ?_
  have e0:D.bin .Pow (.int 10) (.int 9) = .ok (.int 1000000000):=by rfl
  have e1:D.ix (.lst [.int 7,.int 7,.int 40,.int 1000000000]) (.int (x % 6 / 2 + x % 6 / 5)) = .ok (.int (if x % 6 < 4 then 7 else if x % 6 = 4 then 40 else 1000000000)):=by
    show Res.of (atI _ _) = _
    rw [four_at _ _ _ _ _ (by (first | lia | omega))]
    repeat' split
    all_goals first | rfl | (exfalso;(first | lia | omega))
  have e2:(0:Int) < (if x % 6 < 4 then 7 else if x % 6 = 4 then 40 else 1000000000):=by
    repeat' split
    all_goals (first | lia | omega)
  simp [b_law_minutes,e0,e1,e2,minV]
noncomputable def mixN (c k:Int):Int:=(c % 1000003 * (48271 + 15838 * k * k) + 69621 * k) % 2147483647
theorem mixN_range (c k:Int):0 ≤ mixN c k ∧ mixN c k < 2147483647:=by unfold mixN;(first | lia | omega)
theorem mul_small {i j:Int} (h:small64 i = true ∨ small64 j = true):D.bin .Mult (.int i) (.int j) = .ok (.int (i * j)):=by
  show when (small64 i || small64 j) _ = _
  rcases h with h | h
  · rw [h];rfl
  · rw [h,Bool.or_true];rfl
theorem law_mix (n:Nat) (c k:Int) (hk:0 ≤ k ∧ k < 1000000):callF T dfs (n + 1) 28 [.int c,.int k] = .ok (.int (mixN c k)):=by
  refine callF_rt (k:=false) rfl rfl rfl ?_
  have hk2:small64 k = true:=by unfold small64;simp;(first | lia | omega)
  have e1:D.bin .Mult (.int 15838) (.int k) = .ok (.int (15838 * k)):=mul_small (.inr hk2)
  have e2:D.bin .Mult (.int (15838 * k)) (.int k) = .ok (.int (15838 * k * k)):=mul_small (.inr hk2)
  have e3:D.bin .Mult (.int 69621) (.int k) = .ok (.int (69621 * k)):=mul_small (.inr hk2)
  have e4:D.bin .Mult (.int (c % 1000003)) (.int (48271 + 15838 * k * k)) = .ok (.int (c % 1000003 * (48271 + 15838 * k * k))):=mul_small (.inl (by unfold small64;simp;(first | lia | omega)))
  simp [b_law_mix,e1,e2,e3,e4,mixN]
noncomputable def firstC:List Nat → Nat
  | a :: _=>a
  | []=>97
noncomputable def voiceV (x base:Int):Nat:=if x % 4 = 0 then 97 else if x % 4 = 1 then 98 else if x % 4 = 2 then 97 else firstC (nameL (7 * base) x)
theorem name_cons (c k:Int):∃ a r,nameL c k = a :: r:=by
  have:=name_len c k
  cases e:nameL c k with
  | nil=>rw [e] at this;simp at this
  | cons a r=>exact ⟨a,r,rfl⟩
noncomputable def partP (cell base:Int) (k:Nat):Str × List D:=(nameV base k,[.str (chr1 (voiceV (mixN cell k) base)),.int (minV (mixN cell k / 4)),.int (minV (mixN cell (k + 20)))])
theorem law_part (n:Nat) (cell base:Int) (k:Nat) (hk:k < 1000):callF T dfs (n + 2) 31 [.int cell,.int k,.int base] = .ok (ent (partP cell base k)):=by
  refine callF_rt (k:=false) rfl rfl rfl ?_
  have hb:=ten_big
  have e1:=law_mix n cell k (by (first | lia | omega))
  have e2:=law_mix n cell (k + 20) (by (first | lia | omega))
  have e3:=law_name n base k
  have e4:=law_name n (7 * base) (mixN cell k)
  have e5:=law_minutes n (mixN cell k / 4)
  have e6:=law_minutes n (mixN cell (k + 20))
  have e7:D.bin .Mult (.int 7) (.int base) = .ok (.int (7 * base)):=mul_small (.inl (by decide))
  have e8:D.sl (.str (nameV (7 * base) (mixN cell k))) none (some 1) = .ok (.str (chr1 (firstC (nameL (7 * base) (mixN cell k))))):=by
    obtain ⟨a,r,e⟩:=name_cons (7 * base) (mixN cell k)
    have hl:(nameV (7 * base) (mixN cell k)).length ≤ big:=by
      rw [len_signs,signs_name,name_len];have:=tail_len (7 * base);(first | lia | omega)
    show when (decide ((nameV (7 * base) (mixN cell k)).length ≤ big)) (.ok (D.str (strCut (nameV (7 * base) (mixN cell k)) none (some 1)))) = _
    rw [show decide ((nameV (7 * base) (mixN cell k)).length ≤ big) = true by simpa using hl]
    unfold strCut
    rw [show (nameV (7 * base) (mixN cell k)).cps.toList = nameL (7 * base) (mixN cell k) from signs_name _ _,e]
    have:cut (a :: r) none (some 1) = [a]:=by
      unfold cut sIx;simp
    rw [this];rfl
  have r:=mixN_range cell k
  have e9:D.ix (.lst [.str "a", .str "b", .str "a", .str (chr1 (firstC (nameL (7 * base) (mixN cell k))))]) (.int (mixN cell k % 4)) = .ok (.str (chr1 (voiceV (mixN cell k) base))):=by
    show Res.of (atI _ _) = _
    rw [four_at _ _ _ _ _ (by (first | lia | omega))]
    unfold voiceV
    repeat' split
    · exact congrArg (fun z=>Res.ok (D.str z)) (show ("a" : Str) = _ by decide)
    · exact congrArg (fun z=>Res.ok (D.str z)) (show ("b" : Str) = _ by decide)
    · exact congrArg (fun z=>Res.ok (D.str z)) (show ("a" : Str) = _ by decide)
    · rfl
  simp [b_law_part,e1,e2,e3,e4,e5,e6,e7,e8,e9,ent,partP]
noncomputable def voicesV (x:Int):Str:=if x % 6 = 0 then "ab" else if x % 6 = 1 then "a" else if x % 6 = 2 then "bca" else if x % 6 = 3 then "" else if x % 6 = 4 then "abcdefghijklmnopqrstuvwxyz" else "zb"
noncomputable def playerP (cell base:Int) (k:Nat):Str × List D:=(nameV base k,[.str (voicesV (mixN cell k)),.int (minV (mixN cell k / 6))])
theorem six_at {α:Type} (a b c d e f:α) (i:Int) (h:0 ≤ i ∧ i < 6):atI [a,b,c,d,e,f] i = some (if i = 0 then a else if i = 1 then b else if i = 2 then c else if i = 3 then d else if i = 4 then e else f):=by
  have:i = 0 ∨ i = 1 ∨ i = 2 ∨ i = 3 ∨ i = 4 ∨ i = 5:=by (first | lia | omega)
  rcases this with rfl | rfl | rfl | rfl | rfl | rfl <;> rfl
theorem law_player (n:Nat) (cell base:Int) (k:Nat) (hk:k < 1000):callF T dfs (n + 2) 32 [.int cell,.int k,.int base] = .ok (ent (playerP cell base k)):=by
  refine callF_rt (k:=false) rfl rfl rfl ?_
  have hb:=ten_big
  have e1:=law_mix n cell k (by (first | lia | omega))
  have e3:=law_name n base k
  have e5:=law_minutes n (mixN cell k / 6)
  have r:=mixN_range cell k
  have e9:D.ix (.lst [.str "ab", .str "a", .str "bca", .str "", .str "abcdefghijklmnopqrstuvwxyz", .str "zb"]) (.int (mixN cell k % 6)) = .ok (.str (voicesV (mixN cell k))):=by
    show Res.of (atI _ _) = _
    rw [six_at _ _ _ _ _ _ _ (by (first | lia | omega))]
    unfold voicesV
    repeat' split
    all_goals rfl
  simp [b_law_player,e1,e3,e5,e9,ent,playerP]
noncomputable def powV (j:Nat):Int:=if j = 0 then 1 else if j = 1 then 3 else if j = 2 then 9 else if j = 3 then 27 else if j = 4 then 81 else if j = 5 then 243 else if j = 6 then 729 else 2187
noncomputable def inV (x:Int) (j:Nat):Bool:=decide (x / powV j % 3 = 0)
theorem eight_at {α:Type} (a b c d e f g h:α) (i:Nat) (hi:i < 8):atI [a,b,c,d,e,f,g,h] (i:Int) = some (if i = 0 then a else if i = 1 then b else if i = 2 then c else if i = 3 then d else if i = 4 then e else if i = 5 then f else if i = 6 then g else h):=by
  have:i = 0 ∨ i = 1 ∨ i = 2 ∨ i = 3 ∨ i = 4 ∨ i = 5 ∨ i = 6 ∨ i = 7:=by (first | lia | omega)
  rcases this with rfl | rfl | rfl | rfl | rfl | rfl | rfl | rfl <;> rfl
theorem powV_pos (j:Nat):0 < powV j ∧ powV j < 1073741824:=by
  unfold powV
  repeat' split
  all_goals (first | lia | omega)
theorem scene_comp (n:Nat) (x:Int) (a b c d f g h:Sl):∀ xs:List Nat,(∀ j ∈ xs,j < 8) → compL (compF T (callF T dfs n) 1 [4] (.one 0) e_scene_2 c_scene_1 [a,b,c,d,.v (.int x),f,g,h]) (xs.map fun j:Nat=>D.int j) = .ok ((xs.filter (inV x)).map fun j:Nat=>D.int j)
  | [],_=>rfl
  | j :: r,hj=>by
    have h8:=hj j List.mem_cons_self
    have e1:D.ix (.lst [.int 1,.int 3,.int 9,.int 27,.int 81,.int 243,.int 729,.int 2187]) (.int j) = .ok (.int (powV j)):=by
      show Res.of (atI _ _) = _
      rw [eight_at _ _ _ _ _ _ _ _ j h8]
      unfold powV
      repeat' split
      all_goals rfl
    have hp:=powV_pos j
    have e2:D.bin .FloorDiv (.int x) (.int (powV j)) = .ok (.int (x / powV j)):=by
      show when (decide (0 < powV j) && decide (powV j < 1073741824)) _ = _
      rw [show decide (0 < powV j) = true by simpa using hp.1,show decide (powV j < 1073741824) = true by simpa using hp.2]
      rfl
    rw [List.map_cons,compL,scene_comp n x a b c d f g h r fun i hi=>hj i (List.mem_cons_of_mem _ hi)]
    by_cases q:x / powV j % 3 = 0
    · have q':inV x j = true:=by unfold inV;simpa using q
      rw [List.filter_cons_of_pos q']
      simp [compF,Tr.compEnv,e_scene_2,c_scene_1,e1,e2,q]
    · have q':¬ inV x j = true:=by unfold inV;simpa using q
      rw [List.filter_cons_of_neg q']
      simp [compF,Tr.compEnv,e_scene_2,c_scene_1,e1,e2,q]
noncomputable def someV (x:Int) (many:Nat):List Nat:=(List.range many).filter (inV x)
theorem some_len (x:Int) (many:Nat):(someV x many).length ≤ many:=by
  have:=List.length_filter_le (inV x) (List.range many)
  rw [List.length_range] at this
  exact this
noncomputable def whoV (cell:Int) (k many:Nat):List Nat:=rotV cell (someV (mixN cell (k + 40)) many)
noncomputable def sceneP (cell base:Int) (k many:Nat):Str × List D:=(nameV base k,[.int (minV (mixN cell k)),.int (minV (mixN cell (k + 20))),.tup ((whoV cell k many).map fun j:Nat=>D.int j)])
theorem law_scene (n:Nat) (cell base:Int) (k many:Nat) (hk:k < 1000) (hm:many ≤ 8):callF T dfs (n + 2) 33 [.int cell,.int k,.int base,.int many] = .ok (ent (sceneP cell base k many)):=by
  refine callF_rt (k:=false) rfl rfl rfl ?_
  have hb:=ten_big
  have e0:=law_mix n cell (k + 40) (by (first | lia | omega))
  have e1:=law_mix n cell k (by (first | lia | omega))
  have e2:=law_mix n cell (k + 20) (by (first | lia | omega))
  have e3:=law_name n base k
  have e4:=law_minutes n (mixN cell k)
  have e5:=law_minutes n (mixN cell (k + 20))
  have e6:rngR (.int (many:Int)) = .ok ((List.range many).map fun j:Nat=>D.int j):=by
    rw [rng_ok (by (first | lia | omega)),rangeD_eq]
    simp
  have e7:=fun a b c d f g h=>scene_comp (n + 1) (mixN cell (k + 40)) a b c d f g h (List.range many) fun j hj=>by rw [List.mem_range] at hj;(first | lia | omega)
  have hl:=some_len (mixN cell (k + 40)) many
  have e7':∀ a b c d f g h,compL (compF T (callF T dfs (n + 1)) 1 [4] (.one 0) e_scene_2 c_scene_1 [a,b,c,d,.v (.int (mixN cell (k + 40))),f,g,h]) ((List.range many).map fun j:Nat=>D.int j) = .ok ((someV (mixN cell (k + 40)) many).map fun j:Nat=>D.int j):=e7
  clear e7
  have hw:whoV cell k many = rotV cell (someV (mixN cell (k + 40)) many):=rfl
  generalize someV (mixN cell (k + 40)) many = L at *
  have hr:=rot_le cell L
  have e8:cell % ((L.length:Int) + 1) = (((cell % ((L.length:Int) + 1)).toNat:Nat):Int):=by
    have:=Int.emod_nonneg cell (show (L.length:Int) + 1 ≠ 0 by (first | lia | omega))
    (first | lia | omega)
  have e9:(0:Int) < (L.length:Int) + 1:=by (first | lia | omega)
  have hL:(L.map fun j:Nat=>D.int j).length = L.length:=List.length_map ..
  have e10:cut (L.map fun j:Nat=>D.int j) (some (cell % ((L.length:Int) + 1))) none = (L.map fun j:Nat=>D.int j).drop (cell % ((L.length:Int) + 1)).toNat:=by
    rw [e8];exact cut_from (by rw [hL];(first | lia | omega))
  have e11:cut (L.map fun j:Nat=>D.int j) none (some (cell % ((L.length:Int) + 1))) = (L.map fun j:Nat=>D.int j).take (cell % ((L.length:Int) + 1)).toNat:=by
    rw [e8];exact cut_to (by rw [hL];(first | lia | omega))
  have e12:D.bin .Add (.lst ((L.map fun j:Nat=>D.int j).drop (cell % ((L.length:Int) + 1)).toNat)) (.lst ((L.map fun j:Nat=>D.int j).take (cell % ((L.length:Int) + 1)).toNat)) = .ok (.lst ((whoV cell k many).map fun j:Nat=>D.int j)):=by
    rw [add_lsts (by rw [List.length_drop,List.length_take,hL];(first | lia | omega)),hw,← rot_map]
    unfold rotV
    rw [hL]
  have e13:many ≤ big:=by (first | lia | omega)
  have e14:L.length ≤ big:=by (first | lia | omega)
  simp [b_law_scene,e0,e1,e2,e3,e4,e5,e6,e7',e9,e10,e11,e12,e13,e14,ent,sceneP]
noncomputable def pick (cell share:Int) (k:Nat):Bool:=decide (mixN cell k / 64 % share = 0)
noncomputable def prD (p:Nat × Nat):D:=.tup [.int p.1,.int p.2]
noncomputable def prs (cell share:Int) (other:Nat) (xs:List Nat):List (Nat × Nat):=(xs.filter (pick cell share)).map fun k=>(k / other,k % other)
theorem pairs_body (n:Nat) (cell one share:Int) (other k:Nat) (ho:0 < other ∧ other < 1000) (hs:0 < share) (hk:k < 1000) (acc:List D) (ha:acc.length < 1000) (x y z w:Sl) :
    bodyF T (callF T dfs (n + 1)) (.one 5) b_pairs_1 (.int k) [.v (.int cell),.v (.int one),.v (.int other),.v (.int share),.o (.lst acc),x,y,z,w] =
      .ok (.nx [.v (.int cell),.v (.int one),.v (.int other),.v (.int share),.o (.lst (if pick cell share k then acc ++ [prD (k / other,k % other)] else acc)),.v (.int k),.v (.int (mixN cell k)),.v (prD (k / other,k % other)),w]):=by
  have hb:=ten_big
  have e1:=law_mix n cell k (by (first | lia | omega))
  have e2:D.bin .FloorDiv (.int k) (.int other) = .ok (.int ((k / other:Nat):Int)):=by
    show when (decide ((0:Int) < other) && decide ((other:Int) < 1073741824)) _ = _
    rw [show decide ((0:Int) < other) = true by simp;(first | lia | omega),show decide ((other:Int) < 1073741824) = true by simp;(first | lia | omega)]
    simp
  have e3:D.bin .Mod (.int k) (.int other) = .ok (.int ((k % other:Nat):Int)):=by
    show when (decide ((0:Int) < other)) _ = _
    rw [show decide ((0:Int) < other) = true by simp;(first | lia | omega)]
    simp
  have e4:acc.length < big:=by (first | lia | omega)
  by_cases q:mixN cell k / 64 % share = 0
  · have q':pick cell share k = true:=by unfold pick;simpa using q
    simp [bodyF,b_pairs_1,e1,e2,e3,hs,q,q',e4,prD]
  · have q':pick cell share k = false:=by unfold pick;simpa using q
    simp [bodyF,b_pairs_1,e1,e2,e3,hs,q,q',prD]
theorem pairs_loop (n:Nat) (cell one share:Int) (other:Nat) (ho:0 < other ∧ other < 1000) (hs:0 < share) (w:Sl):∀ (xs:List Nat) (acc:List D) (x y z:Sl),(∀ k ∈ xs,k < 1000) → acc.length + xs.length < 1000 →
    ∃ x' y' z',forL (bodyF T (callF T dfs (n + 1)) (.one 5) b_pairs_1) (xs.map fun k:Nat=>D.int k) [.v (.int cell),.v (.int one),.v (.int other),.v (.int share),.o (.lst acc),x,y,z,w] =
      .ok (.nx [.v (.int cell),.v (.int one),.v (.int other),.v (.int share),.o (.lst (acc ++ (prs cell share other xs).map prD)),x',y',z',w])
  | [],acc,x,y,z,_,_=>⟨x,y,z,by simp [prs,forL_nil]⟩
  | k :: r,acc,x,y,z,hx,hl=>by
    rw [List.length_cons] at hl
    have e:=pairs_body n cell one share other k ho hs (hx k List.mem_cons_self) acc (by (first | lia | omega)) x y z w
    obtain ⟨x',y',z',e2⟩:=pairs_loop n cell one share other ho hs w r (if pick cell share k then acc ++ [prD (k / other,k % other)] else acc) (.v (.int k)) (.v (.int (mixN cell k))) (.v (prD (k / other,k % other))) (fun i hi=>hx i (List.mem_cons_of_mem _ hi)) (by split <;> (try rw [List.length_append,List.length_singleton]) <;> (first | lia | omega))
    refine ⟨x',y',z',?_⟩
    rw [List.map_cons,forL_nx e,e2]
    unfold prs
    cases q:pick cell share k with
    | true=>rw [List.filter_cons_of_pos q];simp
    | false=>rw [List.filter_cons_of_neg (by rw [q];simp)];simp
noncomputable def pairsV (cell share:Int) (one other:Nat):List (Nat × Nat):=rotV cell (prs cell share other (List.range (one * other)))
theorem prs_len (cell share:Int) (other:Nat) (xs:List Nat):(prs cell share other xs).length ≤ xs.length:=by
  unfold prs
  rw [List.length_map]
  exact List.length_filter_le _ _
theorem law_pairs (n:Nat) (cell share:Int) (one other:Nat) (h1:one ≤ 8) (h2:other ≤ 8) (hs:0 < share):callF T dfs (n + 2) 34 [.int cell,.int one,.int other,.int share] = .ok (.lst ((pairsV cell share one other).map prD)):=by
  refine callF_rt (k:=true) rfl rfl rfl ?_
  have hb:=ten_big
  have hm:one * other ≤ 64:=Nat.mul_le_mul h1 h2
  have e1:D.bin .Mult (.int one) (.int other) = .ok (.int ((one:Int) * (other:Int))):=mul_small (.inl (by unfold small64;simp;(first | lia | omega)))
  have e2:rngR (.int ((one:Int) * (other:Int))) = .ok ((List.range (one * other)).map fun k:Nat=>D.int k):=by
    rw [show (one:Int) * (other:Int) = ((one * other:Nat):Int) by push_cast;rfl,rng_ok (by (first | lia | omega)),rangeD_eq]
    simp
  have e3:∃ x' y' z',forL (bodyF T (callF T dfs (n + 1)) (.one 5) b_pairs_1) ((List.range (one * other)).map fun k:Nat=>D.int k) [.v (.int cell),.v (.int one),.v (.int other),.v (.int share),.o (.lst []),.no,.no,.no,.no] =
      .ok (.nx [.v (.int cell),.v (.int one),.v (.int other),.v (.int share),.o (.lst ((prs cell share other (List.range (one * other))).map prD)),x',y',z',.no]):=by
    by_cases ho:0 < other
    · have:=pairs_loop n cell one share other ⟨ho,by (first | lia | omega)⟩ hs .no (List.range (one * other)) [] .no .no .no (fun k hk=>by rw [List.mem_range] at hk;(first | lia | omega)) (by rw [List.length_range];simp;(first | lia | omega))
      simpa using this
    · have:other = 0:=by (first | lia | omega)
      subst this
      exact ⟨.no,.no,.no,by simp [prs,forL_nil]⟩
  obtain ⟨x',y',z',e3⟩:=e3
  have hl:=prs_len cell share other (List.range (one * other))
  rw [List.length_range] at hl
  have hw:pairsV cell share one other = rotV cell (prs cell share other (List.range (one * other))):=rfl
  generalize prs cell share other (List.range (one * other)) = L at *
  have hr:=rot_le cell L
  have e8:cell % ((L.length:Int) + 1) = (((cell % ((L.length:Int) + 1)).toNat:Nat):Int):=by
    have:=Int.emod_nonneg cell (show (L.length:Int) + 1 ≠ 0 by (first | lia | omega))
    (first | lia | omega)
  have e9:(0:Int) < (L.length:Int) + 1:=by (first | lia | omega)
  have hL:(L.map prD).length = L.length:=List.length_map ..
  have e10:cut (L.map prD) (some (cell % ((L.length:Int) + 1))) none = (L.map prD).drop (cell % ((L.length:Int) + 1)).toNat:=by
    rw [e8];exact cut_from (by rw [hL];(first | lia | omega))
  have e11:cut (L.map prD) none (some (cell % ((L.length:Int) + 1))) = (L.map prD).take (cell % ((L.length:Int) + 1)).toNat:=by
    rw [e8];exact cut_to (by rw [hL];(first | lia | omega))
  have e12:D.bin .Add (.lst ((L.map prD).drop (cell % ((L.length:Int) + 1)).toNat)) (.lst ((L.map prD).take (cell % ((L.length:Int) + 1)).toNat)) = .ok (.lst ((pairsV cell share one other).map prD)):=by
    rw [add_lsts (by rw [List.length_drop,List.length_take,hL];(first | lia | omega)),hw,← rot_map]
    unfold rotV
    rw [hL]
  have e14:L.length ≤ big:=by (first | lia | omega)
  simp [b_law_pairs,e1,e2,e3,e9,e10,e11,e12,e14]
noncomputable def cellsD (f:Nat → Int):D:=.lst [.int (f 0),.int (f 1),.int (f 2),.int (f 3),.int (f 4),.int (f 5),.int (f 6),.int (f 7)]
theorem drawn_cells (n:Nat) (ns:List Int) (at_:Nat) (env:Nv):compL (compF T (callF T dfs (n + 1)) 1 [0,1] (.one 0) e_drawn_1 (.con (.bl true)) (.v (.lst (ns.map D.int)) :: .v (.int at_) :: env)) (rangeD 0 8) = .ok [.int (cellV ns at_),.int (cellV ns (at_ + 1)),.int (cellV ns (at_ + 2)),.int (cellV ns (at_ + 3)),.int (cellV ns (at_ + 4)),.int (cellV ns (at_ + 5)),.int (cellV ns (at_ + 6)),.int (cellV ns (at_ + 7))]:=by
  have e:∀ xs:List Nat,compL (compF T (callF T dfs (n + 1)) 1 [0,1] (.one 0) e_drawn_1 (.con (.bl true)) (.v (.lst (ns.map D.int)) :: .v (.int at_) :: env)) (xs.map fun j:Nat=>D.int j) = .ok (xs.map fun j:Nat=>D.int (cellV ns (at_ + j))):=by
    intro xs
    induction xs with
    | nil=>rfl
    | cons x r ih =>
      have c:=cell_at n ns (at_ + x)
      rw [show ((at_ + x:Nat):Int) = (at_:Int) + (x:Int) by push_cast;rfl] at c
      rw [List.map_cons,compL,ih]
      simp [compF,Tr.compEnv,e_drawn_1,c]
  have e2:rangeD 0 8 = (List.range 8).map fun j:Nat=>D.int j:=by rw [rangeD_eq];simp
  rw [e2,e]
  rfl
theorem drawn_parts (n:Nat) (f:Nat → Int) (a b:Sl) (env:Nv):∀ xs:List Nat,(∀ k ∈ xs,k < 1000) → compL (compF T (callF T dfs (n + 2)) 1 [2] (.one 0) e_drawn_2 (.con (.bl true)) (a :: b :: .v (cellsD f) :: env)) (xs.map fun j:Nat=>D.int j) = .ok (xs.map fun k=>ent (partP (f 2) (f 0) k))
  | [],_=>rfl
  | x :: r,h=>by
    have c:=law_part n (f 2) (f 0) x (h x List.mem_cons_self)
    rw [List.map_cons,compL,drawn_parts n f a b env r fun k hk=>h k (List.mem_cons_of_mem _ hk)]
    simp [compF,Tr.compEnv,e_drawn_2,cellsD,c]
theorem drawn_players (n:Nat) (f:Nat → Int) (a b:Sl) (env:Nv):∀ xs:List Nat,(∀ k ∈ xs,k < 1000) → compL (compF T (callF T dfs (n + 2)) 1 [2] (.one 0) e_drawn_3 (.con (.bl true)) (a :: b :: .v (cellsD f) :: env)) (xs.map fun j:Nat=>D.int j) = .ok (xs.map fun k=>ent (playerP (f 3) (f 4) k))
  | [],_=>rfl
  | x :: r,h=>by
    have c:=law_player n (f 3) (f 4) x (h x List.mem_cons_self)
    rw [List.map_cons,compL,drawn_players n f a b env r fun k hk=>h k (List.mem_cons_of_mem _ hk)]
    simp [compF,Tr.compEnv,e_drawn_3,cellsD,c]
noncomputable def scenesE (base:Int) (many:Nat):Nat → List Int → List (Str × List D)
  | _,[]=>[]
  | j,c :: r=>sceneP c base j many :: scenesE base many (j + 1) r
theorem drawn_scenes (n:Nat) (f:Nat → Int) (many:Nat) (hm:many ≤ 8) (a0 a1 a4 a5 a9 a10 a11 a12:Sl):∀ (cs:List Int) (j:Nat) (acc:List D) (x y:Sl),j + cs.length < 1000 → acc.length + cs.length < 1000 →
    ∃ x' y',forL (bodyF T (callF T dfs (n + 2)) (.many [7,8]) b_drawn_4) (enumD j (cs.map D.int)) [a0,a1,.v (cellsD f),.v (.int many),a4,a5,.o (.lst acc),x,y,a9,a10,a11,a12] =
      .ok (.nx [a0,a1,.v (cellsD f),.v (.int many),a4,a5,.o (.lst (acc ++ (scenesE (f 5) many j cs).map ent)),x',y',a9,a10,a11,a12])
  | [],j,acc,x,y,_,_=>⟨x,y,by simp [scenesE,enumD,forL_nil]⟩
  | c :: r,j,acc,x,y,h1,h2=>by
    rw [List.length_cons] at h1 h2
    have hb:=ten_big
    have e0:=law_scene n c (f 5) j many (by (first | lia | omega)) hm
    have e1:acc.length < big:=by (first | lia | omega)
    have e:bodyF T (callF T dfs (n + 2)) (.many [7,8]) b_drawn_4 (.tup [.int j,.int c]) [a0,a1,.v (cellsD f),.v (.int many),a4,a5,.o (.lst acc),x,y,a9,a10,a11,a12] =
        .ok (.nx [a0,a1,.v (cellsD f),.v (.int many),a4,a5,.o (.lst (acc ++ [ent (sceneP c (f 5) j many)])),.v (.int j),.v (.int c),a9,a10,a11,a12]):=by
      simp [bodyF,b_drawn_4,cellsD,e0,e1]
    obtain ⟨x',y',e2⟩:=drawn_scenes n f many hm a0 a1 a4 a5 a9 a10 a11 a12 r (j + 1) (acc ++ [ent (sceneP c (f 5) j many)]) (.v (.int j)) (.v (.int c)) (by (first | lia | omega)) (by simp;(first | lia | omega))
    refine ⟨x',y',?_⟩
    rw [List.map_cons,enumD,forL_nx e,show (j:Int) + 1 = ((j + 1:Nat):Int) by push_cast;rfl,e2,scenesE,List.map_cons,List.append_assoc]
    rfl
noncomputable def likeT (cell:Int) (p:Nat × Nat):Nat × Nat × Nat:=(p.1,p.2,(mixN cell (p.2 + 9 * p.1) % 1000000000).toNat)
noncomputable def lkD (l:Nat × Nat × Nat):D:=.tup [.int l.1,.int l.2.1,.int l.2.2]
theorem drawn_likes (n:Nat) (f:Nat → Int) (a0 a1 a3 a4 a5 a6 a7 a8 a12:Sl):∀ (ps:List (Nat × Nat)) (acc:List D) (x y:Sl),(∀ p ∈ ps,p.1 < 100 ∧ p.2 < 100) → acc.length + ps.length < 1000 →
    ∃ x' y',forL (bodyF T (callF T dfs (n + 2)) (.many [10,11]) b_drawn_5) (ps.map prD) [a0,a1,.v (cellsD f),a3,a4,a5,a6,a7,a8,.o (.lst acc),x,y,a12] =
      .ok (.nx [a0,a1,.v (cellsD f),a3,a4,a5,a6,a7,a8,.o (.lst (acc ++ (ps.map (likeT (f 6))).map lkD)),x',y',a12])
  | [],acc,x,y,_,_=>⟨x,y,by simp [forL_nil]⟩
  | p :: r,acc,x,y,h1,h2=>by
    rw [List.length_cons] at h2
    have hb:=ten_big
    have hp:=h1 p List.mem_cons_self
    have e0:=law_mix (n + 1) (f 6) ((p.2:Int) + 9 * (p.1:Int)) (by (first | lia | omega))
    have e1:acc.length < big:=by (first | lia | omega)
    have r1:=mixN_range (f 6) ((p.2:Int) + 9 * (p.1:Int))
    have e3:D.bin .Mult (.int 9) (.int (p.1:Int)) = .ok (.int (9 * (p.1:Int))):=mul_small (.inl (by decide))
    have e4:((mixN (f 6) ((p.2:Int) + 9 * (p.1:Int)) % 1000000000).toNat:Int) = mixN (f 6) ((p.2:Int) + 9 * (p.1:Int)) % 1000000000:=by (first | lia | omega)
    have e:bodyF T (callF T dfs (n + 2)) (.many [10,11]) b_drawn_5 (prD p) [a0,a1,.v (cellsD f),a3,a4,a5,a6,a7,a8,.o (.lst acc),x,y,a12] =
        .ok (.nx [a0,a1,.v (cellsD f),a3,a4,a5,a6,a7,a8,.o (.lst (acc ++ [lkD (likeT (f 6) p)])),.v (.int p.1),.v (.int p.2),a12]):=by
      simp [bodyF,b_drawn_5,cellsD,prD,e0,e1,e3,lkD,likeT,e4]
    obtain ⟨x',y',e2⟩:=drawn_likes n f a0 a1 a3 a4 a5 a6 a7 a8 a12 r (acc ++ [lkD (likeT (f 6) p)]) (.v (.int p.1)) (.v (.int p.2)) (fun q hq=>h1 q (List.mem_cons_of_mem _ hq)) (by simp;(first | lia | omega))
    refine ⟨x',y',?_⟩
    rw [List.map_cons,forL_nx e,e2,List.map_cons,List.map_cons,List.append_assoc]
    rfl
noncomputable def manyV (c:Int):Nat:=(c % 7).toNat + (if c / 7 % 8 = 5 ∧ c % 7 = 6 then 2 else 0)
theorem many_le (c:Int):manyV c ≤ 8:=by unfold manyV;split <;> (first | lia | omega)
noncomputable def fV (ns:List Int) (at_ j:Nat):Int:=cellV ns (at_ + j)
noncomputable def partsB (f:Nat → Int):List (Str × List D):=(List.range (manyV (f 1))).map fun k=>partP (f 2) (f 0) k
noncomputable def playersB (f:Nat → Int):List (Str × List D):=(List.range (f 1 / 56 % 7).toNat).map fun k=>playerP (f 3) (f 4) k
noncomputable def likesB (f:Nat → Int):List (Nat × Nat × Nat):=(pairsV (f 6) 3 (f 1 / 56 % 7).toNat (manyV (f 1))).map (likeT (f 6))
noncomputable def coversB (f:Nat → Int):List (Nat × Nat):=pairsV (f 7) 2 (manyV (f 1)) (f 1 / 56 % 7).toNat
noncomputable def scenesB (f:Nat → Int) (cs:List Int):List (Str × List D):=scenesE (f 5) (manyV (f 1)) 0 cs
noncomputable def bookD (f:Nat → Int) (cs:List Int):D:=.tup [.tup ((partsB f).map ent),.tup ((playersB f).map ent),.tup ((scenesB f cs).map ent),.tup ((likesB f).map lkD),.tup ((coversB f).map prD)]
theorem pairs_mem {cell share:Int} {one other:Nat} {p:Nat × Nat} (h:p ∈ pairsV cell share one other):p.1 < one ∧ p.2 < other:=by
  unfold pairsV prs at h
  rw [rot_mem,List.mem_map] at h
  obtain ⟨k,hk,rfl⟩:=h
  have hk:=(List.mem_filter.mp hk).1
  rw [List.mem_range] at hk
  have ho:0 < other:=by
    rcases Nat.eq_zero_or_pos other with z | z
    · rw [z] at hk;simp at hk
    · exact z
  exact ⟨(Nat.div_lt_iff_lt_mul ho).mpr hk,Nat.mod_lt _ ho⟩
theorem pairs_len {cell share:Int} {one other:Nat}:(pairsV cell share one other).length ≤ one * other:=by
  unfold pairsV
  rw [(rot_perm _ _).length_eq]
  have:=prs_len cell share other (List.range (one * other))
  rwa [List.length_range] at this
theorem exS_step {T:Tab} {cf:Nat → List D → Res D} {a r:S} {e e1:Nv} (h:exS T cf a e = .ok (.nx e1)):exS T cf (.cons a r) e = exS T cf r e1:=by rw [exS_cons,h];rfl
theorem law_drawn (n:Nat) (ns:List Int) (at_:Nat) (hn:ns.length ≤ 63) (ha:at_ ≤ 20):callF T dfs (n + 3) 35 [.lst (ns.map D.int),.int at_] = .ok (bookD (fV ns at_) ((ns.drop (at_ + 8)).take 9)):=by
  refine callF_rt (k:=false) rfl rfl rfl ?_
  have hb:=ten_big
  have e1:=fun env=>drawn_cells (n + 1) ns at_ env
  have e1':∀ env,compL (compF T (callF T dfs (n + 2)) 1 [0,1] (.one 0) e_drawn_1 (.con (.bl true)) (.v (.lst (ns.map D.int)) :: .v (.int at_) :: env)) (rangeD 0 8) = .ok [.int (fV ns at_ 0),.int (fV ns at_ 1),.int (fV ns at_ 2),.int (fV ns at_ 3),.int (fV ns at_ 4),.int (fV ns at_ 5),.int (fV ns at_ 6),.int (fV ns at_ 7)]:=e1
  clear e1
  have e0:rngR (.int 8) = .ok (rangeD 0 8):=rng_ok (n:=8) (by (first | lia | omega))
  generalize hf:fV ns at_ = f at *
  have hm:=many_le (f 1)
  have hp:(f 1 / 56 % 7).toNat ≤ 6:=by (first | lia | omega)
  have e2:rngR (.int (manyV (f 1):Int)) = .ok ((List.range (manyV (f 1))).map fun j:Nat=>D.int j):=by
    rw [rng_ok (by (first | lia | omega)),rangeD_eq];simp
  have e3:rngR (.int (f 1 / 56 % 7)) = .ok ((List.range (f 1 / 56 % 7).toNat).map fun j:Nat=>D.int j):=by
    have h:=rng_ok (n:=(f 1 / 56 % 7).toNat) (by (first | lia | omega))
    rw [Int.toNat_of_nonneg (by (first | lia | omega))] at h
    rw [h,rangeD_eq];simp
  have e4:=fun a b env=>drawn_parts n f a b env (List.range (manyV (f 1))) fun k hk=>by rw [List.mem_range] at hk;(first | lia | omega)
  have e5:=fun a b env=>drawn_players n f a b env (List.range (f 1 / 56 % 7).toNat) fun k hk=>by rw [List.mem_range] at hk;(first | lia | omega)
  have e6:=law_pairs n (f 6) 3 (f 1 / 56 % 7).toNat (manyV (f 1)) (by (first | lia | omega)) (by (first | lia | omega)) (by (first | lia | omega))
  have e7:=law_pairs n (f 7) 2 (manyV (f 1)) (f 1 / 56 % 7).toNat (by (first | lia | omega)) (by (first | lia | omega)) (by (first | lia | omega))
  have hc:(ns.drop (at_ + 8)).take 9 = (ns.drop (at_ + 8)).take 9:=rfl
  have e9:cut (ns.map D.int) (some ((at_:Int) + 8)) (some ((at_:Int) + 17)) = ((ns.drop (at_ + 8)).take 9).map D.int:=by
    unfold cut sIx
    simp only []
    rw [if_neg (by (first | lia | omega)),if_neg (by (first | lia | omega)),List.map_take,List.map_drop,List.length_map]
    by_cases q:at_ + 8 ≤ ns.length
    · rw [show ((at_:Int) + 8).toNat = at_ + 8 by (first | lia | omega),show ((at_:Int) + 17).toNat = at_ + 17 by (first | lia | omega),Nat.min_eq_left q]
      by_cases q2:at_ + 17 ≤ ns.length
      · rw [Nat.min_eq_left q2,show at_ + 17 - (at_ + 8) = 9 by (first | lia | omega)]
      · rw [Nat.min_eq_right (by (first | lia | omega)),List.take_of_length_le (by simp),List.take_of_length_le (by simp;(first | lia | omega))]
    · rw [show ((at_:Int) + 8).toNat = at_ + 8 by (first | lia | omega),List.drop_of_length_le (i:=at_ + 8) (by simp;(first | lia | omega)),List.drop_of_length_le (by rw [List.length_map];(first | lia | omega))]
      simp
  generalize hC:(ns.drop (at_ + 8)).take 9 = C at *
  have hCl:C.length ≤ 9:=by rw [← hC,List.length_take];(first | lia | omega)
  have e10:=fun a0 a1 a4 a5 a9 a10 a11 a12=>drawn_scenes n f (manyV (f 1)) hm a0 a1 a4 a5 a9 a10 a11 a12 C 0 [] .no .no (by (first | lia | omega)) (by simp;(first | lia | omega))
  have e11:∀ a0 a1 a3 a4 a5 a6 a7 a8 a12,_:=fun a0 a1 a3 a4 a5 a6 a7 a8 a12=>drawn_likes n f a0 a1 a3 a4 a5 a6 a7 a8 a12 (pairsV (f 6) 3 (f 1 / 56 % 7).toNat (manyV (f 1))) [] .no .no (fun p hp'=>by have:=pairs_mem hp';(first | lia | omega)) (by
    have h1:=pairs_len (cell:=f 6) (share:=3) (one:=(f 1 / 56 % 7).toNat) (other:=manyV (f 1))
    have h2:(f 1 / 56 % 7).toNat * manyV (f 1) ≤ 6 * 8:=Nat.mul_le_mul hp hm
    simp;(first | lia | omega))
  have z10:∀ a0 a1 a4 a5 a9 a10 a11 a12,∃ x' y',forL (bodyF T (callF T dfs (n + 2)) (.many [7,8]) b_drawn_4) (enumD 0 (C.map D.int)) [a0,a1,.v (cellsD f),.v (.int (manyV (f 1))),a4,a5,.o (.lst []),.no,.no,a9,a10,a11,a12] = .ok (.nx [a0,a1,.v (cellsD f),.v (.int (manyV (f 1))),a4,a5,.o (.lst ((scenesB f C).map ent)),x',y',a9,a10,a11,a12]):=e10
  clear e10
  have e12:(if f 1 / 7 % 8 = 5 ∧ f 1 % 7 = 6 then (2:Int) else 0) + f 1 % 7 = (manyV (f 1):Int):=by
    unfold manyV;split <;> (first | lia | omega)
  have e13:D.bin .Mult (.int 2) (.int 1) = .ok (.int 2):=rfl
  have e14:D.bin .Mult (.int 2) (.int 0) = .ok (.int 0):=rfl
  have hl1:manyV (f 1) ≤ big:=by (first | lia | omega)
  have hl2:(f 1 / 56 % 7).toNat ≤ big:=by (first | lia | omega)
  have m0:Nat → True:=fun _=>trivial
  obtain ⟨x1,y1,z10⟩:=z10 (.v (.lst (ns.map D.int))) (.v (.int at_)) (.v (.tup ((partsB f).map ent))) (.v (.tup ((playersB f).map ent))) .no .no .no .no
  obtain ⟨x2,y2,z11⟩:=e11 (.v (.lst (ns.map D.int))) (.v (.int at_)) (.v (.int (manyV (f 1)))) (.v (.tup ((partsB f).map ent))) (.v (.tup ((playersB f).map ent))) (.o (.lst ((scenesB f C).map ent))) x1 y1 .no
  have p1:(partsB f).map ent = (List.range (manyV (f 1))).map fun k=>ent (partP (f 2) (f 0) k):=by unfold partsB;rw [List.map_map];rfl
  have p2:(playersB f).map ent = (List.range (f 1 / 56 % 7).toNat).map fun k=>ent (playerP (f 3) (f 4) k):=by unfold playersB;rw [List.map_map];rfl
  have p3:((playersB f).map ent).length = (f 1 / 56 % 7).toNat:=by rw [p2];simp
  rw [← p1] at e4
  rw [← p2] at e5
  simp only [cellsD] at e4 e5 z10 z11
  have h8:8 ≤ big:=by (first | lia | omega)
  have e6':callF T dfs (n + 2) 34 [.int (f 6),.int (((playersB f).map ent).length:Nat),.int (manyV (f 1)),.int 3] = .ok (.lst ((pairsV (f 6) 3 (f 1 / 56 % 7).toNat (manyV (f 1))).map prD)):=by rw [p3];exact e6
  have e7':callF T dfs (n + 2) 34 [.int (f 7),.int (manyV (f 1)),.int (((playersB f).map ent).length:Nat),.int 2] = .ok (.lst ((coversB f).map prD)):=by rw [p3];exact e7
  rw [List.length_map] at e6' e7'
  have z11':forL (bodyF T (callF T dfs (n + 2)) (.many [10,11]) b_drawn_5) ((pairsV (f 6) 3 (f 1 / 56 % 7).toNat (manyV (f 1))).map prD) _ = .ok (.nx _):=z11
  rw [List.nil_append,show (pairsV (f 6) 3 (f 1 / 56 % 7).toNat (manyV (f 1))).map (likeT (f 6)) = likesB f from rfl] at z11'
  unfold b_law_drawn
  have s1:exS T (callF T dfs (n + 2)) (.asg (.one 2) (.comp 1 [0,1] (.one 0) e_drawn_1 (.rng (.con (.int 8))) (.con (.bl true)))) [.v (.lst (ns.map D.int)),.v (.int at_),.no,.no,.no,.no,.no,.no,.no,.no,.no,.no,.no] = .ok (.nx [.v (.lst (ns.map D.int)),.v (.int at_),.v (.lst [.int (f 0),.int (f 1),.int (f 2),.int (f 3),.int (f 4),.int (f 5),.int (f 6),.int (f 7)]),.no,.no,.no,.no,.no,.no,.no,.no,.no,.no]):=by
    simp [e0,e1',h8]
  rw [show [D.lst (ns.map D.int),D.int at_].map Sl.v ++ List.replicate (13 - 2) Sl.no = [.v (.lst (ns.map D.int)),.v (.int at_),.no,.no,.no,.no,.no,.no,.no,.no,.no,.no,.no] from rfl,exS_step s1]
  have v1:∀ env:Nv,env.at 2 = .v (.lst [.int (f 0),.int (f 1),.int (f 2),.int (f 3),.int (f 4),.int (f 5),.int (f 6),.int (f 7)]) → evE T (callF T dfs (n + 2)) (.bin .Add (.bin .Mod (.ix (.var 2) (.con (.int 1))) (.con (.int 7))) (.bin .Mult (.con (.int 2)) (.bt .int (.acons (.and (.cmp .Eq (.bin .Mod (.bin .FloorDiv (.ix (.var 2) (.con (.int 1))) (.con (.int 7))) (.con (.int 8))) (.con (.int 5))) (.cmp .Eq (.bin .Mod (.ix (.var 2) (.con (.int 1))) (.con (.int 7))) (.con (.int 6)))) .anil)))) env = .ok (.int (manyV (f 1))):=by
    intro env h
    have w:f 1 % 7 + (if f 1 / 7 % 8 = 5 ∧ f 1 % 7 = 6 then (2:Int) else 0) = (manyV (f 1):Int):=by unfold manyV;split <;> (first | lia | omega)
    rw [← w]
    by_cases q1:f 1 / 7 % 8 = 5
    · by_cases q2:f 1 % 7 = 6
      · simp [h,q1,q2,e13]
        rfl
      · have q3:(f 1 % 7 == 6) = false:=by simpa using q2
        simp [h,q1,q2,q3,b2z]
    · simp [h,q1,b2z]
  have s2:exS T (callF T dfs (n + 2)) (.asg (.one 3) (.bin .Add (.bin .Mod (.ix (.var 2) (.con (.int 1))) (.con (.int 7))) (.bin .Mult (.con (.int 2)) (.bt .int (.acons (.and (.cmp .Eq (.bin .Mod (.bin .FloorDiv (.ix (.var 2) (.con (.int 1))) (.con (.int 7))) (.con (.int 8))) (.con (.int 5))) (.cmp .Eq (.bin .Mod (.ix (.var 2) (.con (.int 1))) (.con (.int 7))) (.con (.int 6)))) .anil))))) [.v (.lst (ns.map D.int)),.v (.int at_),.v (.lst [.int (f 0),.int (f 1),.int (f 2),.int (f 3),.int (f 4),.int (f 5),.int (f 6),.int (f 7)]),.no,.no,.no,.no,.no,.no,.no,.no,.no,.no] = .ok (.nx [.v (.lst (ns.map D.int)),.v (.int at_),.v (.lst [.int (f 0),.int (f 1),.int (f 2),.int (f 3),.int (f 4),.int (f 5),.int (f 6),.int (f 7)]),.v (.int (manyV (f 1))),.no,.no,.no,.no,.no,.no,.no,.no,.no]):=by
    rw [exS_asg,v1 _ rfl];rfl
  rw [exS_step s2]
  clear s1 s2 v1
  simp [e2,e3,e4,e5,hl1,hl2,e9,enumR,z10,e6',e7',z11',bookD]
theorem given_able (n:Nat) (P:List Part) (Q:List Player) (X Y Z:D) (hv:∀ p ∈ P,(signs p.voice).length = 1) (k:Nat) (hk:k < P.length) (a b d f:Sl) :
    compL (compF T (callF T dfs n) 1 [3,0] (.one 0) e_given_2 c_given_1 [.v (.tup [.tup (P.map Part.enc),.tup (Q.map Player.enc),X,Y,Z]),a,b,.v (.int k),d,f]) ((List.range Q.length).map natI) = .ok ((ableL P Q k).map natI):=by
  refine compL_keep natI _ ?_
  intro j hj
  have hj:j < Q.length:=by simpa using hj
  have e1:=ps_at (List.getElem?_eq_getElem hk)
  have e2:=qs_at (List.getElem?_eq_getElem hj)
  have e3:=in_voices (p:=P[k]) (q:=Q[j]) (hv _ (List.getElem_mem hk))
  rw [← mayB_at hk hj] at e3
  generalize mayB P Q k j = c at e3
  cases c with
  | true=>simp [compF,Tr.compEnv,natI,c_given_1,e_given_2,e1,e2,e3]
  | false=>simp [compF,Tr.compEnv,natI,c_given_1,e_given_2,e1,e2,e3]
theorem given_body (n:Nat) (P:List Part) (Q:List Player) (X Y Z:D) (cell:Int) (hp:P.length ≤ 8) (hq:Q.length ≤ 6) (hv:∀ p ∈ P,(signs p.voice).length = 1) (k:Nat) (hk:k < P.length) (acc:List D) (ha:acc.length < 1000) (x3 x4 x5:Sl) :
    ∃ o:Option Nat,(∀ j,o = some j → j < Q.length) ∧ bodyF T (callF T dfs (n + 1)) (.one 3) b_given_3 (natI k) [.v (.tup [.tup (P.map Part.enc),.tup (Q.map Player.enc),X,Y,Z]),.v (.int cell),.o (.lst acc),x3,x4,x5] =
      .ok (.nx [.v (.tup [.tup (P.map Part.enc),.tup (Q.map Player.enc),X,Y,Z]),.v (.int cell),.o (.lst (acc ++ [optN o])),.v (.int k),.v (.int (mixN cell k)),.v (.lst ((ableL P Q k).map natI))]):=by
  have hb:=ten_big
  have rq:=rng_nat (n:=Q.length) (by (first | lia | omega))
  have e1:=law_mix n cell k (by (first | lia | omega))
  have e2:=fun b d f=>given_able (n + 1) P Q X Y Z hv k hk (.v (.int cell)) b d f
  have r:=mixN_range cell k
  have e3:Q.length ≤ big:=by (first | lia | omega)
  have e4:acc.length < big:=by (first | lia | omega)
  have e5:=cmp_tup_nil (pls_map Player.enc 29 (player_pl 28) Q)
  have e6:=cmp_lst_nil (pls_map natI 29 (natI_pl 29) (ableL P Q k))
  have hA:∀ j ∈ ableL P Q k,j < Q.length:=fun j hj=>ableL_lt hj
  generalize ableL P Q k = A at *
  by_cases c1:mixN cell k % 9 = 4
  · exact ⟨none,by simp,by simp [bodyF,b_given_3,natI,e1,rq,e2,e3,e4,c1]⟩
  · by_cases c2:Q = []
    · have c2':Q.isEmpty = true:=by simp [c2]
      exact ⟨none,by simp,by simp [bodyF,b_given_3,natI,e1,rq,e2,e3,e4,c1,e5,c2']⟩
    · have c2':Q.isEmpty = false:=by simp [c2]
      have hL:0 < (Q.length:Int):=by have:=List.length_pos_iff.mpr c2;(first | lia | omega)
      have m1:D.bin .Mod (.int (mixN cell k / 9)) (.int (Q.length:Int)) = .ok (.int (mixN cell k / 9 % (Q.length:Int))):=bin_mod hL
      by_cases c3:mixN cell k % 9 = 5 ∨ A = []
      · refine ⟨some (mixN cell k / 9 % (Q.length:Int)).toNat,?_,?_⟩
        · intro j hj
          cases hj
          have:=Int.emod_lt_of_pos (mixN cell k / 9) hL
          have:=Int.emod_nonneg (mixN cell k / 9) (Int.ne_of_gt hL)
          (first | lia | omega)
        · have e7:(((mixN cell k / 9 % (Q.length:Int)).toNat:Nat):Int) = mixN cell k / 9 % (Q.length:Int):=Int.toNat_of_nonneg (Int.emod_nonneg _ (Int.ne_of_gt hL))
          rw [optN_some,e7]
          rcases c3 with c3 | c3
          · simp [bodyF,b_given_3,natI,e1,rq,e2,e3,e4,c1,e5,c2',c3,m1]
          · have c4:A.isEmpty = true:=by simp [c3]
            by_cases c5:mixN cell k % 9 = 5
            · simp [bodyF,b_given_3,natI,e1,rq,e2,e3,e4,c1,e5,e6,c2',c4,c5,m1]
            · simp [bodyF,b_given_3,natI,e1,rq,e2,e3,e4,c1,e5,e6,c2',c4,c5,m1]
      · rw [not_or] at c3
        have c4:A.isEmpty = false:=by simp [c3.2]
        have hM:0 < (A.length:Int):=by have:=List.length_pos_iff.mpr c3.2;(first | lia | omega)
        have m2:D.bin .Mod (.int (mixN cell k / 9)) (.int (A.length:Int)) = .ok (.int (mixN cell k / 9 % (A.length:Int))):=bin_mod hM
        have i1:=Int.emod_lt_of_pos (mixN cell k / 9) hM
        have i2:=Int.emod_nonneg (mixN cell k / 9) (Int.ne_of_gt hM)
        have hlt:(mixN cell k / 9 % (A.length:Int)).toNat < A.length:=by (first | lia | omega)
        refine ⟨some (A[(mixN cell k / 9 % (A.length:Int)).toNat]),?_,?_⟩
        · intro j hj
          cases hj
          exact hA _ (List.getElem_mem hlt)
        · have e8:D.ix (.lst (A.map natI)) (.int (mixN cell k / 9 % (A.length:Int))) = .ok (optN (some (A[(mixN cell k / 9 % (A.length:Int)).toNat]))):=by
            refine ix_lI i2 ?_
            rw [List.getElem?_map,List.getElem?_eq_getElem hlt];rfl
          generalize optN (some (A[(mixN cell k / 9 % (A.length:Int)).toNat])) = z at e8 ⊢
          simp [bodyF,b_given_3,natI,e1,rq,e2,e3,e4,c1,e5,e6,c2',c4,c3.1,m2,e8]
theorem given_loop (n:Nat) (P:List Part) (Q:List Player) (X Y Z:D) (cell:Int) (hp:P.length ≤ 8) (hq:Q.length ≤ 6) (hv:∀ p ∈ P,(signs p.voice).length = 1):∀ (ks:List Nat),(∀ k ∈ ks,k < P.length) → ∀ (acc:List D) (x3 x4 x5:Sl),acc.length + ks.length < 1000 →
    ∃ cs:List (Option Nat),cs.length = ks.length ∧ (∀ j,some j ∈ cs → j < Q.length) ∧ ∃ x3' x4' x5',forL (bodyF T (callF T dfs (n + 1)) (.one 3) b_given_3) (ks.map natI) [.v (.tup [.tup (P.map Part.enc),.tup (Q.map Player.enc),X,Y,Z]),.v (.int cell),.o (.lst acc),x3,x4,x5] =
      .ok (.nx [.v (.tup [.tup (P.map Part.enc),.tup (Q.map Player.enc),X,Y,Z]),.v (.int cell),.o (.lst (acc ++ cs.map optN)),x3',x4',x5'])
  | [],_,acc,x3,x4,x5,_=>⟨[],rfl,by simp,x3,x4,x5,by simp [forL_nil]⟩
  | k :: ks,hk,acc,x3,x4,x5,hl=>by
    rw [List.length_cons] at hl
    obtain ⟨o,ho,e⟩:=given_body n P Q X Y Z cell hp hq hv k (hk k List.mem_cons_self) acc (by (first | lia | omega)) x3 x4 x5
    obtain ⟨cs,h1,h2,x3',x4',x5',e2⟩:=given_loop n P Q X Y Z cell hp hq hv ks (fun k' h'=>hk k' (List.mem_cons_of_mem _ h')) (acc ++ [optN o]) _ _ _ (by simp;(first | lia | omega))
    refine ⟨o :: cs,by simp [h1],?_,x3',x4',x5',?_⟩
    · intro j hj
      rcases List.mem_cons.mp hj with z | z
      · exact ho j z.symm
      · exact h2 j z
    · rw [List.map_cons,forL_nx e,e2,List.append_assoc]
      rfl
theorem law_given (n:Nat) (P:List Part) (Q:List Player) (X Y Z:D) (cell:Int) (hp:P.length ≤ 8) (hq:Q.length ≤ 6) (hv:∀ p ∈ P,(signs p.voice).length = 1) :
    ∃ cs:List (Option Nat),cs.length = P.length ∧ (∀ j,some j ∈ cs → j < Q.length) ∧ callF T dfs (n + 2) 36 [.tup [.tup (P.map Part.enc),.tup (Q.map Player.enc),X,Y,Z],.int cell] = .ok (.lst (cs.map optN)):=by
  have rg:=rng_nat (n:=P.length) (by (first | lia | omega))
  obtain ⟨cs,h1,h2,x3,x4,x5,e⟩:=given_loop n P Q X Y Z cell hp hq hv (List.range P.length) (by simp) [] .no .no .no (by simp;(first | lia | omega))
  refine ⟨cs,by simpa using h1,h2,callF_rt (k:=true) rfl rfl rfl ?_⟩
  simp [b_law_given,rg,e]
noncomputable def partR (f:Nat → Int) (k:Nat):Part:=⟨nameV (f 0) k,chr1 (voiceV (mixN (f 2) k) (f 0)),minV (mixN (f 2) k / 4),minV (mixN (f 2) (k + 20))⟩
noncomputable def playerR (f:Nat → Int) (k:Nat):Player:=⟨nameV (f 4) k,voicesV (mixN (f 3) k),minV (mixN (f 3) k / 6)⟩
noncomputable def sceneR (base:Int) (many:Nat) (cell:Int) (k:Nat):Scene:=⟨nameV base k,minV (mixN cell k),minV (mixN cell (k + 20)),whoV cell k many⟩
noncomputable def scenesRE (base:Int) (many:Nat):Nat → List Int → List Scene
  | _,[]=>[]
  | j,c :: r=>sceneR base many c j :: scenesRE base many (j + 1) r
theorem scenesRE_enc (base:Int) (many:Nat):∀ (cs:List Int) (j:Nat),(scenesE base many j cs).map ent = (scenesRE base many j cs).map Scene.enc
  | [],_=>rfl
  | c :: r,j=>by rw [scenesE,scenesRE,List.map_cons,List.map_cons,scenesRE_enc base many r (j + 1)];rfl
theorem scenesRE_len (base:Int) (many:Nat):∀ (cs:List Int) (j:Nat),(scenesRE base many j cs).length = cs.length
  | [],_=>rfl
  | c :: r,j=>by rw [scenesRE,List.length_cons,List.length_cons,scenesRE_len base many r (j + 1)]
theorem who_nodup (cell:Int) (k many:Nat):(whoV cell k many).Nodup:=by
  unfold whoV
  refine (rot_perm _ _).nodup_iff.mpr ?_
  unfold someV
  exact List.Pairwise.filter _ List.nodup_range
theorem whoV_lt {cell:Int} {k many i:Nat} (h:i ∈ whoV cell k many):i < many:=by
  unfold whoV at h
  rw [rot_mem] at h
  unfold someV at h
  simpa using (List.mem_filter.mp h).1
theorem scenesRE_good (base:Int) (many:Nat):∀ (cs:List Int) (j:Nat) (s:Scene),s ∈ scenesRE base many j cs → GoodScene many s
  | [],_,s,h=>by cases h
  | c :: r,j,s,h=>by
    rw [scenesRE] at h
    rcases List.mem_cons.mp h with rfl | h
    · exact ⟨(minV_range _).1,(minV_range _).1,who_nodup _ _ _,fun i hi=>whoV_lt hi⟩
    · exact scenesRE_good base many r (j + 1) s h
structure Drawn (P:List Part) (Q:List Player) (S:List Scene):Prop where
  hp:P.length ≤ 8
  hq:Q.length ≤ 6
  hs:S.length ≤ 9
  voice:∀ p ∈ P,(signs p.voice).length = 1
  good:∀ s ∈ S,GoodScene P.length s
  dress:∀ p ∈ P,0 ≤ p.off ∧ 0 ≤ p.on
theorem time_between (n:Nat) (P A B C:D) (ss:List Scene) (hl:ss.length ≤ 24) (s t:Nat) (h:s < t) (ht:t ≤ ss.length):callF T dfs (n + 1) 5 [.tup [P,A,.tup (ss.map Scene.enc),B,C],.int s,.int t] = .ok (.int (between ss s t)):=by
  refine callF_rt (k:=true) rfl rfl rfl ?_
  have hs:s < ss.length:=by (first | lia | omega)
  have e1:=ss_at (List.getElem?_eq_getElem hs)
  have e2:cut (ss.map Scene.enc) (some ((s:Int) + 1)) (some (t:Int)) = ((ss.drop (s + 1)).take (t - (s + 1))).map Scene.enc:=by
    have:=cut_nn (xs:=ss.map Scene.enc) (a:=s + 1) (b:=t) (by simp;(first | lia | omega)) (by simp;(first | lia | omega))
    rw [List.map_take,List.map_drop,← this]
    push_cast
    rfl
  have e3:compL (compF T (callF T dfs n) 1 [] (.one 0) e_time_between_1 (.con (.bl true)) [.v (.tup [P,A,.tup (ss.map Scene.enc),B,C]),.v (.int s),.v (.int t),.v (.tup (ss.map Scene.enc))]) (((ss.drop (s + 1)).take (t - (s + 1))).map Scene.enc) = .ok ((((ss.drop (s + 1)).take (t - (s + 1))).map Scene.both).map D.int):=by
    rw [List.map_map]
    have:∀ xs:List Scene,compL (compF T (callF T dfs n) 1 [] (.one 0) e_time_between_1 (.con (.bl true)) [.v (.tup [P,A,.tup (ss.map Scene.enc),B,C]),.v (.int s),.v (.int t),.v (.tup (ss.map Scene.enc))]) (xs.map Scene.enc) = .ok (xs.map (D.int ∘ Scene.both)):=by
      intro xs
      induction xs with
      | nil=>rfl
      | cons x r ih =>
        rw [List.map_cons,compL,ih]
        simp [compF,Tr.compEnv,e_time_between_1,Scene.both]
    exact this _
  have e4:((ss.map Scene.enc).length:Nat) ≤ big:=by have:=ten_big;simp;(first | lia | omega)
  have e5:((((ss.drop (s + 1)).take (t - (s + 1))).map Scene.enc).length:Nat) ≤ big:=by have:=ten_big;simp;(first | lia | omega)
  have e6:((ss[s]?).map Scene.pause).getD 0 = ss[s].pause:=by simp [hs]
  have e7:between ss s t = ss[s].pause + (((ss.drop (s + 1)).take (t - (s + 1))).map Scene.both).sum:=by unfold between;rw [e6]
  rw [e7]
  clear e7 e4 ht
  generalize (ss.drop (s + 1)).take (t - (s + 1)) = X at *
  simp only [List.length_map] at e5
  simp [b_time_between,e1,e2,e3,e5]
theorem change_time (n:Nat) (A S B C:D) (ps:List Part) (i j:Nat) (hi:i < ps.length) (hj:j < ps.length):callF T dfs (n + 1) 6 [.tup [.tup (ps.map Part.enc),A,S,B,C],.int i,.int j] = .ok (.int (needV ps i j)):=by
  refine callF_rt (k:=true) rfl rfl rfl ?_
  simp [b_change_time,ps_at (List.getElem?_eq_getElem hi),ps_at (List.getElem?_eq_getElem hj),need_at hi hj]
theorem short_change (n:Nat) (A B C:D) (ps:List Part) (ss:List Scene) (hl:ss.length ≤ 24) (s i j:Nat) (hs:s < ss.length) (hi:i < ps.length) (hj:j < ps.length) :
    callF T dfs (n + 2) 7 [.tup [.tup (ps.map Part.enc),A,.tup (ss.map Scene.enc),B,C],.int s,.int i,.int j] = .ok (optR (shortFrom ps ss s i j)):=by
  have ct:=change_time n A (.tup (ss.map Scene.enc)) B C ps i j hi hj
  have rg:=rng2_succ (s:=s) (m:=ss.length) (by (first | lia | omega)) (by (first | lia | omega))
  have loop:=rz_find (f:=bodyF T (callF T dfs (n + 1)) (.one 5) b_short_change_from_1) (g:=shortAt ps ss s i j) (ts:=List.range' (s + 1) (ss.length - (s + 1)))
    (e:=[.v (.tup [.tup (ps.map Part.enc),A,.tup (ss.map Scene.enc),B,C]),.v (.int s),.v (.int i),.v (.int j),.v (.int (needV ps i j)),.no,.no])
    (I:=fun e=>∃ s5 s6,e = [.v (.tup [.tup (ps.map Part.enc),A,.tup (ss.map Scene.enc),B,C]),.v (.int s),.v (.int i),.v (.int j),.v (.int (needV ps i j)),s5,s6]) ⟨_,_,rfl⟩ (by
      rintro t ht e ⟨s5,s6,rfl⟩
      have ht':s < t ∧ t < ss.length:=by have:=List.mem_range'_1.mp ht;(first | lia | omega)
      have e1:=ss_at (List.getElem?_eq_getElem ht'.2)
      have e2:=time_between n (.tup (ps.map Part.enc)) A B C ss hl s t ht'.1 (by (first | lia | omega))
      have e3:=who_at ht'.2
      unfold shortAt
      by_cases c1:j ∈ whoAt ss t
      · by_cases c2:between ss s t < needV ps i j
        · rw [if_pos ⟨c1,c2⟩]
          rw [e3] at c1
          simp [bodyF,b_short_change_from_1,natI,e1,e2,c1,c2,freshE,Rz.enc]
        · rw [if_neg (by simp [c2])]
          rw [e3] at c1
          refine ⟨?e1,?h1,?i1⟩
          case h1 =>
            simp [bodyF,b_short_change_from_1,natI,e1,e2,c1,c2,freshE]
            exact rfl
          case i1=>exact ⟨_,_,rfl⟩
      · rw [if_neg (by simp [c1])]
        rw [e3] at c1
        refine ⟨?e2,?h2,?i2⟩
        case h2 =>
          simp [bodyF,b_short_change_from_1,natI,e1,e2,c1,freshE]
          exact rfl
        case i2=>exact ⟨_,_,rfl⟩)
  refine callF_rt (k:=false) rfl rfl rfl ?_
  unfold shortFrom
  cases hg:(List.range' (s + 1) (ss.length - (s + 1))).findSome? (shortAt ps ss s i j) with
  | some r =>
    rw [hg] at loop
    simp [b_short_change_from,ct,rg,loop,optR]
  | none =>
    rw [hg] at loop
    obtain ⟨e',h1,s5,s6,rfl⟩:=loop
    simp [b_short_change_from,ct,rg,h1,optR,freshE]
theorem reason_from (n:Nat) (A B C:D) (ps:List Part) (ss:List Scene) (hl:ss.length ≤ 24) (s i j:Nat) (hs:s < ss.length) (hi:i < ps.length) (hj:j < ps.length) :
    callF T dfs (n + 3) 8 [.tup [.tup (ps.map Part.enc),A,.tup (ss.map Scene.enc),B,C],.int s,.int i,.int j] = .ok (optR (reasonFrom ps ss i j s)):=by
  have e1:=ss_at (List.getElem?_eq_getElem hs)
  have e2:=short_change n A B C ps ss hl s i j hs hi hj
  have e3:=short_change n A B C ps ss hl s j i hs hj hi
  have e4:=who_at hs
  refine callF_rt (k:=false) rfl rfl rfl ?_
  unfold reasonFrom
  rw [e4]
  by_cases c1:i ∈ ss[s].who <;> by_cases c2:j ∈ ss[s].who
  · simp [b_reason_from,e1,c1,c2,optR,Rz.enc,freshE]
  · simp [b_reason_from,e1,c1,c2,e2]
  · simp [b_reason_from,e1,c1,c2,e3]
  · simp [b_reason_from,e1,c1,c2,optR,freshE]
theorem reason_of (n:Nat) (A B C:D) (ps:List Part) (ss:List Scene) (hl:ss.length ≤ 24) (i j:Nat) (hi:i < ps.length) (hj:j < ps.length) :
    callF T dfs (n + 4) 9 [.tup [.tup (ps.map Part.enc),A,.tup (ss.map Scene.enc),B,C],.int i,.int j] = .ok (optR (reasonOf ps ss i j)):=by
  have rg:=rng_nat (n:=ss.length) (by (first | lia | omega))
  have loop:=rz_find (f:=bodyF T (callF T dfs (n + 3)) (.one 3) b_reason_of_1) (g:=reasonFrom ps ss i j) (ts:=List.range ss.length)
    (e:=[.v (.tup [.tup (ps.map Part.enc),A,.tup (ss.map Scene.enc),B,C]),.v (.int i),.v (.int j),.no,.no])
    (I:=fun e=>∃ s5 s6,e = [.v (.tup [.tup (ps.map Part.enc),A,.tup (ss.map Scene.enc),B,C]),.v (.int i),.v (.int j),s5,s6]) ⟨_,_,rfl⟩ (by
      rintro s ht e ⟨s5,s6,rfl⟩
      have e1:=reason_from n A B C ps ss hl s i j (by simpa using ht) hi hj
      cases hg:reasonFrom ps ss i j s with
      | some r =>
        rw [hg] at e1
        simp [bodyF,b_reason_of_1,natI,e1,freshE]
        rfl
      | none =>
        rw [hg] at e1
        refine ⟨?e1,?h1,?i1⟩
        case h1 =>
          simp [bodyF,b_reason_of_1,natI,e1]
          exact rfl
        case i1=>exact ⟨_,_,rfl⟩)
  refine callF_rt (k:=false) rfl rfl rfl ?_
  unfold reasonOf
  cases hg:(List.range ss.length).findSome? (reasonFrom ps ss i j) with
  | some r =>
    rw [hg] at loop
    simp [b_reason_of,rg,loop,optR]
  | none =>
    rw [hg] at loop
    obtain ⟨e',h1,s5,s6,rfl⟩:=loop
    simp [b_reason_of,rg,h1,optR,freshE]
theorem clashes_of (n:Nat) (A B C:D) (ps:List Part) (ss:List Scene) (hl:ss.length ≤ 24) (hp:ps.length ≤ 8) :
    callF T dfs (n + 5) 10 [.tup [.tup (ps.map Part.enc),A,.tup (ss.map Scene.enc),B,C]] = .ok (.lst (((pairsOf ps.length).filter fun p=>(reasonOf ps ss p.1 p.2).isSome).map pairD)):=by
  have rg:=rng_nat (n:=ps.length) (by (first | lia | omega))
  obtain ⟨e',h1,s3,rfl⟩:=forL_inv (f:=bodyF T (callF T dfs (n + 4)) (.one 3) b_clashes_of_3)
    (fun i e=>∃ s3,e = [.v (.tup [.tup (ps.map Part.enc),A,.tup (ss.map Scene.enc),B,C]),.o (.lst (((pairsTo ps.length i).filter fun p=>(reasonOf ps ss p.1 p.2).isSome).map pairD)),.v (.int ps.length),s3])
    ((List.range ps.length).map natI) [.v (.tup [.tup (ps.map Part.enc),A,.tup (ss.map Scene.enc),B,C]),.o (.lst []),.v (.int ps.length),.no] 0 ⟨_,rfl⟩ (by
      rintro i0 d e hd ⟨s3,rfl⟩
      rw [Nat.zero_add]
      rw [List.getElem?_map] at hd
      cases hx:(List.range ps.length)[i0]? with
      | none=>rw [hx] at hd;cases hd
      | some i =>
      rw [hx] at hd
      cases hd
      have hi':=List.getElem?_eq_some_iff.mp hx
      simp at hi'
      obtain ⟨hi,rfl⟩:=hi'
      have rg2:=rng2_succ (s:=i0) (m:=ps.length) (by (first | lia | omega)) (by (first | lia | omega))
      have hc:compL (compF T (callF T dfs (n + 4)) 1 [3,0] (.one 0) e_clashes_of_2 c_clashes_of_1 [.v (.tup [.tup (ps.map Part.enc),A,.tup (ss.map Scene.enc),B,C]),.o (.lst (((pairsTo ps.length i0).filter fun p=>(reasonOf ps ss p.1 p.2).isSome).map pairD)),.v (.int ps.length),.v (.int i0)]) ((List.range' (i0 + 1) (ps.length - (i0 + 1))).map natI) =
          .ok (((pairsFrom ps.length i0).filter fun p=>(reasonOf ps ss p.1 p.2).isSome).map pairD):=by
        rw [compL_enc natI (fun j=>if (reasonOf ps ss i0 j).isSome = true then some (pairD (i0,j)) else none) (by
          intro j hj
          have hj':=List.mem_range'_1.mp hj
          have e1:=reason_of n A B C ps ss hl i0 j hi (by (first | lia | omega))
          cases hr:reasonOf ps ss i0 j with
          | none=>rw [hr] at e1;simp [compF,Tr.compEnv,natI,c_clashes_of_1,e_clashes_of_2,e1]
          | some r=>rw [hr] at e1;simp [compF,Tr.compEnv,natI,c_clashes_of_1,e_clashes_of_2,e1,pairD])]
        refine congrArg Res.ok ?_
        unfold pairsFrom
        generalize List.range' (i0 + 1) (ps.length - (i0 + 1)) = l
        induction l with
        | nil=>rfl
        | cons j r ih =>
          rw [List.filterMap_cons,List.map_cons,List.filter_cons]
          dsimp only
          rw [ih]
          cases (reasonOf ps ss i0 j).isSome <;> rfl
      have b1:(((pairsTo ps.length i0).filter fun p=>(reasonOf ps ss p.1 p.2).isSome).map pairD).length + (((pairsFrom ps.length i0).filter fun p=>(reasonOf ps ss p.1 p.2).isSome).map pairD).length ≤ big:=by
        have h1:=pairsTo_length ps.length i0
        have h2:(pairsFrom ps.length i0).length ≤ 8:=by rw [pairsFrom,List.length_map,List.length_range'];(first | lia | omega)
        have h3:=List.length_filter_le (fun p:Nat × Nat=>(reasonOf ps ss p.1 p.2).isSome) (pairsTo ps.length i0)
        have h4:=List.length_filter_le (fun p:Nat × Nat=>(reasonOf ps ss p.1 p.2).isSome) (pairsFrom ps.length i0)
        have h5:i0 * ps.length ≤ 8 * 8:=Nat.mul_le_mul (by (first | lia | omega)) hp
        have:=ten_big
        rw [List.length_map,List.length_map]
        (first | lia | omega)
      have b2:((List.range' (i0 + 1) (ps.length - (i0 + 1))).map natI).length ≤ big:=by have:=ten_big;simp;(first | lia | omega)
      refine ⟨?e1,.inl ?h1,?i1⟩
      case h1 =>
        rw [bodyF]
        simp only [put_one,natI,Res.ok_bind,b_clashes_of_3,exS_cons,exS_ext,evE_comp,evI_rng2,evE_bin,evE_var,evE_con,List.set,at_succ,at_zero,val_v,bin_add,rg2,hc,fresh_comp,extO_eq,own_o,decide_eq_true b1,decide_eq_true b2,when_true,Bool.and_self,thenS_nx,exS_nil]
        exact rfl
      case i1=>exact ⟨.v (natI i0),by rw [pairsTo,List.filter_append,List.map_append];rfl⟩)
  refine callF_rt (k:=true) rfl rfl rfl ?_
  have hlen:((List.range ps.length).map natI).length = ps.length:=by simp
  rw [hlen,Nat.zero_add] at h1
  simp [b_clashes_of,rg,h1,pairsOf]
theorem name_not6 (c k:Int):(signs (nameV c k)).length ≠ 6:=by
  rw [signs_name,name_len]
  unfold tailL
  split
  · simp
  · split
    · simp
    · split <;> simp
theorem scenesRE_ok (base:Int) (many:Nat):∀ (cs:List Int) (j:Nat) (s:Scene),s ∈ scenesRE base many j cs → OkScene many s ∧ (signs s.name).length ≠ 6 ∧ isNm s.name
  | [],_,s,h=>by cases h
  | c :: r,j,s,h=>by
    rw [scenesRE] at h
    rcases List.mem_cons.mp h with rfl | h
    · have h1:=minV_range (mixN c j)
      have h2:=minV_range (mixN c (j + 20))
      exact ⟨⟨⟨h1.1,by show minV (mixN c j) ≤ _;(first | lia | omega)⟩,⟨h2.1,by show minV (mixN c (j + 20)) ≤ _;(first | lia | omega)⟩,who_nodup _ _ _,fun i hi=>whoV_lt hi⟩,name_not6 _ _,name_nm _ _⟩
    · exact scenesRE_ok base many r (j + 1) s h
theorem like_len (f:Nat → Int):(likesB f).length < 1000 ∧ (coversB f).length < 1000:=by
  have hm:=many_le (f 1)
  have h6:(f 1 / 56 % 7).toNat ≤ 6:=by (first | lia | omega)
  have h1:=pairs_len (cell:=f 6) (share:=3) (one:=(f 1 / 56 % 7).toNat) (other:=manyV (f 1))
  have h2:=pairs_len (cell:=f 7) (share:=2) (one:=manyV (f 1)) (other:=(f 1 / 56 % 7).toNat)
  have h3:(f 1 / 56 % 7).toNat * manyV (f 1) ≤ 6 * 8:=Nat.mul_le_mul h6 hm
  have h4:manyV (f 1) * (f 1 / 56 % 7).toNat ≤ 8 * 6:=Nat.mul_le_mul hm h6
  unfold likesB coversB
  rw [List.length_map]
  (first | lia | omega)
theorem names_nodup (base:Int) (many:Nat):∀ (cs:List Int) (j:Nat),j + cs.length ≤ 26 → ((scenesRE base many j cs).map Scene.name).Nodup ∧ ∀ x ∈ (scenesRE base many j cs).map Scene.name,∃ k:Nat,j ≤ k ∧ k < j + cs.length ∧ x = nameV base k
  | [],_,_=>⟨by simp [scenesRE],fun x h=>by simp [scenesRE] at h⟩
  | c :: r,j,h=>by
    rw [List.length_cons] at h
    obtain ⟨h1,h2⟩:=names_nodup base many r (j + 1) (by (first | lia | omega))
    rw [scenesRE,List.map_cons]
    refine ⟨List.nodup_cons.mpr ⟨fun hx=>?_,h1⟩,fun x hx=>?_⟩
    · obtain ⟨k,k1,k2,e⟩:=h2 _ hx
      have e:nameV base j = nameV base k:=e
      have:=name_inj ⟨by (first | lia | omega),by (first | lia | omega)⟩ ⟨by (first | lia | omega),by (first | lia | omega)⟩ e
      (first | lia | omega)
    · rcases List.mem_cons.mp hx with rfl | hx
      · exact ⟨j,Nat.le_refl _,by rw [List.length_cons];(first | lia | omega),rfl⟩
      · obtain ⟨k,k1,k2,e⟩:=h2 x hx
        exact ⟨k,by (first | lia | omega),by rw [List.length_cons];(first | lia | omega),e⟩
theorem drawn_bookC (n:Nat) (ns:List Int) (at_:Nat) (hn:ns.length ≤ 63) (ha:at_ ≤ 20):∃ (P:List Part) (Q:List Player) (S:List Scene) (L:List (Nat × Nat × Nat)) (C:List (Nat × Nat)),Drawn P Q S ∧ (∀ s ∈ S,OkScene P.length s ∧ (signs s.name).length ≠ 6 ∧ isNm s.name) ∧ (L.length < 1000 ∧ C.length < 1000 ∧ (S.map Scene.name).Nodup) ∧
    callF T dfs (n + 3) 35 [.lst (ns.map D.int),.int at_] = .ok (.tup [.tup (P.map Part.enc),.tup (Q.map Player.enc),.tup (S.map Scene.enc),.tup (L.map lkD),.tup (C.map prD)]):=by
  have e:=law_drawn n ns at_ hn ha
  generalize hf:fV ns at_ = f at e
  generalize hC:(ns.drop (at_ + 8)).take 9 = cs at e
  have hcl:cs.length ≤ 9:=by rw [← hC,List.length_take];(first | lia | omega)
  have hm:=many_le (f 1)
  refine ⟨(List.range (manyV (f 1))).map (partR f),(List.range (f 1 / 56 % 7).toNat).map (playerR f),scenesRE (f 5) (manyV (f 1)) 0 cs,likesB f,coversB f,⟨by simpa using hm,by simp;(first | lia | omega),by rw [scenesRE_len];exact hcl,?_,?_,?_⟩,?_,⟨(like_len f).1,(like_len f).2,(names_nodup _ _ cs 0 (by (first | lia | omega))).1⟩,?_⟩
  · intro p hp
    obtain ⟨k,_,rfl⟩:=List.mem_map.mp hp
    rfl
  · intro s hs
    rw [List.length_map,List.length_range]
    exact scenesRE_good _ _ _ _ s hs
  · intro p hp
    obtain ⟨k,_,rfl⟩:=List.mem_map.mp hp
    exact ⟨(minV_range _).1,(minV_range _).1⟩
  · intro s hs
    rw [List.length_map,List.length_range]
    exact scenesRE_ok _ _ _ _ s hs
  · rw [e]
    unfold bookD partsB playersB scenesB
    rw [scenesRE_enc,List.map_map,List.map_map,List.map_map,List.map_map]
    rfl
theorem okS_who {many:Nat} {S:List Scene} (hm:many ≤ 8) (g:∀ s ∈ S,OkScene many s):∀ x ∈ S,x.who.length < 100:=fun x hx=>by
  have:=nodup_le (g x hx).nd (g x hx).lt
  (first | lia | omega)
theorem consists_of (n:Nat) (g w:Str) (hw:w.length ≤ big):callF T dfs (n + 1) 0 [.str g,.str w] = .ok (.bl ((signs w).all (hasC g))):=by
  refine callF_rt (k:=false) rfl rfl rfl ?_
  have e:∀ xs:List Nat,compL (compF T (callF T dfs n) 1 [0] (.one 0) e_consists_of_1 (.con (.bl true)) [.v (.str g),.v (.str w)]) (xs.map fun c=>D.str (chr1 c)) = .ok (xs.map fun c=>D.bl (hasC g c)):=by
    intro xs
    induction xs with
    | nil=>rfl
    | cons x r ih =>
      rw [List.map_cons,compL,ih]
      simp [compF,Tr.compEnv,e_consists_of_1]
  have e2:(signs w).length ≤ big:=by rw [← len_signs];exact hw
  have e4:=blsOf_map (hasC g) (signs w)
  simp [b_consists_of,e,e2,e4]
theorem are_unlike_t (n:Nat) (ns:List Nat) (h:ns.length < 1000) (hn:ns.Nodup):callF T dfs (n + 1) 1 [.tup (natD ns)] = .ok (.bl true):=by
  refine callF_rt (k:=false) rfl rfl rfl ?_
  have e1:(ns.map fun i:Nat=>(Sum.inl (i:Int):Sum Int Str)).Nodup:=by
    exact nodup_map (fun a b e=>by simp at e;exact Int.ofNat.inj e) hn
  have e2:=metD_nodup e1
  have e3:(metD (ns.map fun i:Nat=>(Sum.inl (i:Int):Sum Int Str))).length = ns.length:=by rw [e2,List.length_map]
  have e4:ns.length + 1 < 4096:=by (first | lia | omega)
  have es:=setN_of (x:=.tup (natD ns)) (keys_nats ns)
  have e5:Bt.run .len [.tup (natD ns)] = .ok (.int ns.length):=by rw [run_len_t,natD_length]
  simp [b_are_unlike,es,e3,e4,e5]
theorem is_name (n:Nat) (w:Str) (h:isNm w):callF T dfs (n + 2) 2 [.str w] = .ok (.bl true):=by
  refine callF_rt (k:=false) rfl rfl rfl ?_
  obtain ⟨h1,h2,h3⟩:=h
  have hb:=ten_big
  have hl:=len_signs w
  have e1:=consists_of n "abcdefghijklmnopqrstuvwxyz" w (by (first | lia | omega))
  have e2:(signs w).length ≤ big:=by (first | lia | omega)
  have e3:(1:Int) ≤ ((signs w).length:Int):=by (first | lia | omega)
  have e4:((signs w).length:Int) ≤ 8:=by (first | lia | omega)
  rw [h3] at e1
  simp [b_is_name,hl,e1,e2,e3,e4]
theorem named_loop (n:Nat) (a:Sl) (w:Str):∀ (S:List Scene) (k:Int) (x y:Sl),(∀ s ∈ S,s.name ≠ w) →
    ∃ x' y',forL (bodyF T (callF T dfs n) (.many [2,3]) b_number_named_1) (enumD k (S.map Scene.enc)) [a,.v (.str w),x,y] = .ok (.nx [a,.v (.str w),x',y'])
  | [],k,x,y,_=>⟨x,y,rfl⟩
  | s :: r,k,x,y,h=>by
    have h0:(s.name == w) = false:=by simpa using h s List.mem_cons_self
    have e:bodyF T (callF T dfs n) (.many [2,3]) b_number_named_1 (.tup [.int k,s.enc]) [a,.v (.str w),x,y] = .ok (.nx [a,.v (.str w),.v (.int k),.v s.enc]):=by
      simp [bodyF,b_number_named_1,Scene.enc,cmp_eq_str,h0]
    obtain ⟨x',y',e2⟩:=named_loop n a w r (k + 1) (.v (.int k)) (.v s.enc) fun s' hs=>h s' (List.mem_cons_of_mem _ hs)
    exact ⟨x',y',by rw [List.map_cons,enumD,forL_nx e,e2]⟩
theorem number_named (n:Nat) (S:List Scene) (w:Str) (h:∀ s ∈ S,s.name ≠ w):callF T dfs (n + 1) 3 [.tup (S.map Scene.enc),.str w] = .ok .non:=by
  refine callF_rt (k:=false) rfl rfl rfl ?_
  obtain ⟨x',y',e⟩:=named_loop n (.v (.tup (S.map Scene.enc))) w S 0 .no .no h
  simp [b_number_named,enumR,e]
theorem is_new_name (n:Nat) (S:List Scene) (w:Str) (hw:isNm w) (h:∀ s ∈ S,s.name ≠ w):callF T dfs (n + 3) 4 [.tup (S.map Scene.enc),.str w] = .ok (.bl true):=by
  refine callF_rt (k:=false) rfl rfl rfl ?_
  have e1:=is_name n w hw
  have e2:=number_named (n + 1) S w h
  simp [b_is_new_name,e1,e2]
theorem are_minutes (n:Nat) (m:Int) (h:minOk m):callF T dfs (n + 1) 12 [.int m] = .ok (.bl true):=by
  refine callF_rt (k:=false) rfl rfl rfl ?_
  obtain ⟨h1,h2⟩:=h
  simp [b_are_minutes,h1,h2]
theorem is_part (n:Nat) (P:List Part) (A S B C:D) (i:Nat) (h:i < P.length):callF T dfs (n + 1) 13 [.tup [.tup (P.map Part.enc),A,S,B,C],.int i] = .ok (.bl true):=by
  refine callF_rt (k:=false) rfl rfl rfl ?_
  have h1:(0:Int) ≤ (i:Int):=by (first | lia | omega)
  have h2:(i:Int) < (P.length:Int):=by (first | lia | omega)
  simp [b_is_part,h2]
theorem is_scene (n:Nat) (P A B C:D) (S:List Scene) (i:Nat) (h:i < S.length):callF T dfs (n + 1) 14 [.tup [P,A,.tup (S.map Scene.enc),B,C],.int i] = .ok (.bl true):=by
  refine callF_rt (k:=false) rfl rfl rfl ?_
  have h2:(i:Int) < (S.length:Int):=by (first | lia | omega)
  simp [b_is_scene,h2]
theorem may_be_added (n:Nat) (P:List Part) (A B C:D) (S:List Scene) (s:Scene) (hp:P.length ≤ 8) (h:NewScene P.length S s) :
    callF T dfs (n + 4) 15 [.tup [.tup (P.map Part.enc),A,.tup (S.map Scene.enc),B,C],s.enc] = .ok (.bl true):=by
  refine callF_rt (k:=false) rfl rfl rfl ?_
  have hb:=ten_big
  have hl:=nodup_le h.nd h.lt
  have e1:=is_new_name n S s.name h.nm h.new
  have e2:=are_minutes (n + 2) s.len h.len
  have e3:=are_minutes (n + 2) s.pause h.pause
  have e4:=are_unlike_t (n + 2) s.who (by (first | lia | omega)) h.nd
  have c1:∀ env,compL (compF T (callF T dfs (n + 3)) 1 [0] (.one 0) e_may_be_added_1 (.con (.bl true)) (.v (.tup [.tup (P.map Part.enc),A,.tup (S.map Scene.enc),B,C]) :: env)) (natD s.who) = .ok (s.who.map fun _=>D.bl true):=by
    intro env
    rw [natD_natI,compL_enc natI (fun _=>some (D.bl true)) (by
      intro i hi
      have:=is_part (n + 2) P A (.tup (S.map Scene.enc)) B C i (h.lt i hi)
      simp [compF,Tr.compEnv,natI,e_may_be_added_1,this]),List.filterMap_eq_map']
  have e5:=blsOf_map (fun _=>true) s.who
  have e6:(natD s.who).length ≤ big:=by rw [natD_length];(first | lia | omega)
  have e7:(s.who.map fun _=>true).all id = true:=by simp
  simp only [Scene.enc] at *
  simp [b_may_be_added,e1,e2,e3,e4,c1,e5,e6]
theorem fits_move (n:Nat) (P A B C:D) (S:List Scene) (a t:Nat) (h1:a < S.length) (h2:t < S.length):callF T dfs (n + 5) 17 [.tup [P,A,.tup (S.map Scene.enc),B,C],(Chg.mov a t).enc] = .ok (.bl true):=by
  refine callF_rt (k:=false) rfl rfl rfl ?_
  have e1:=is_scene (n + 3) P A B C S a h1
  have e2:=is_scene (n + 3) P A B C S t h2
  simp [b_fits,Chg.enc,cmp_eq_str,e1,e2]
theorem fits_cut (n:Nat) (P A B C:D) (S:List Scene) (a:Nat) (h1:a < S.length):callF T dfs (n + 5) 17 [.tup [P,A,.tup (S.map Scene.enc),B,C],(Chg.cut a).enc] = .ok (.bl true):=by
  refine callF_rt (k:=false) rfl rfl rfl ?_
  have e1:=is_scene (n + 3) P A B C S a h1
  simp [b_fits,Chg.enc,cmp_eq_str,e1]
theorem fits_add (n:Nat) (P:List Part) (A B C:D) (S:List Scene) (a:Nat) (s:Scene) (hp:P.length ≤ 8) (h1:a ≤ S.length) (h:NewScene P.length S s):callF T dfs (n + 5) 17 [.tup [.tup (P.map Part.enc),A,.tup (S.map Scene.enc),B,C],(Chg.add a s).enc] = .ok (.bl true):=by
  refine callF_rt (k:=false) rfl rfl rfl ?_
  have e1:=may_be_added n P A B C S s hp h
  have h2:(a:Int) ≤ (S.length:Int):=by (first | lia | omega)
  have e2:D.ix (.tup [.str "add", .int a,s.enc]) (.int 2) = .ok s.enc:=ix_t2
  simp [b_fits,Chg.enc,cmp_eq_str,e1,h2,e2]
theorem fits_mod (n:Nat) (P:List Part) (A B C:D) (S:List Scene) (c:Chg) (hc:∃ a m,(c = .len a m ∨ c = .pau a m) ∨ ∃ p,c = .ent a p ∨ c = .lea a p) (hf:c.fit P.length S):callF T dfs (n + 5) 17 [.tup [.tup (P.map Part.enc),A,.tup (S.map Scene.enc),B,C],c.enc] = .ok (.bl true):=by
  refine callF_rt (k:=false) rfl rfl rfl ?_
  have one:∀ a,a < S.length → callF T dfs (n + 4) 14 [.tup [.tup (P.map Part.enc),A,.tup (S.map Scene.enc),B,C],.int a] = .ok (.bl true) ∧ D.ix (.tup (S.map Scene.enc)) (.int (a:Int)) = .ok (sceneAt S a).enc:=fun a h=>⟨is_scene (n + 3) (.tup (P.map Part.enc)) A B C S a h,ss_at (sceneAt_get h)⟩
  obtain ⟨a,m,(rfl | rfl) | ⟨p,rfl | rfl⟩⟩:=hc
  · obtain ⟨e1,e2⟩:=one a hf.1
    have e3:callF T dfs (n + 4) 16 [.tup [.tup (P.map Part.enc),A,.tup (S.map Scene.enc),B,C],.str "length", (sceneAt S a).enc,.int m] = .ok (.bl true):=by
      refine callF_rt (k:=false) rfl rfl rfl ?_
      have e4:=are_minutes (n + 2) m hf.2
      simp [b_fits_scene,cmp_eq_str,e4]
    simp [b_fits,Chg.enc,cmp_eq_str,e1,e2,e3]
  · obtain ⟨e1,e2⟩:=one a hf.1
    have e3:callF T dfs (n + 4) 16 [.tup [.tup (P.map Part.enc),A,.tup (S.map Scene.enc),B,C],.str "pause", (sceneAt S a).enc,.int m] = .ok (.bl true):=by
      refine callF_rt (k:=false) rfl rfl rfl ?_
      have e4:=are_minutes (n + 2) m hf.2
      simp [b_fits_scene,cmp_eq_str,e4]
    simp [b_fits,Chg.enc,cmp_eq_str,e1,e2,e3]
  · obtain ⟨e1,e2⟩:=one a hf.1
    have hw:=hf.2.2
    rw [who_sceneAt hf.1] at hw
    have e3:callF T dfs (n + 4) 16 [.tup [.tup (P.map Part.enc),A,.tup (S.map Scene.enc),B,C],.str "enter", (sceneAt S a).enc,.int p] = .ok (.bl true):=by
      refine callF_rt (k:=false) rfl rfl rfl ?_
      have e4:=is_part (n + 2) P A (.tup (S.map Scene.enc)) B C p hf.2.1
      have e5:=notin_natD (i:=p) (ws:=(sceneAt S a).who)
      rw [decide_eq_false hw] at e5
      simp [b_fits_scene,cmp_eq_str,e4,e5]
    simp [b_fits,Chg.enc,cmp_eq_str,e1,e2,e3]
  · obtain ⟨e1,e2⟩:=one a hf.1
    have hw:=hf.2
    rw [who_sceneAt hf.1] at hw
    have e3:callF T dfs (n + 4) 16 [.tup [.tup (P.map Part.enc),A,.tup (S.map Scene.enc),B,C],.str "leave", (sceneAt S a).enc,.int p] = .ok (.bl true):=by
      refine callF_rt (k:=false) rfl rfl rfl ?_
      have e5:=inn_natD (i:=p) (ws:=(sceneAt S a).who)
      rw [decide_eq_true hw] at e5
      simp [b_fits_scene,cmp_eq_str,e5]
    simp [b_fits,Chg.enc,cmp_eq_str,e1,e2,e3]
theorem fits_all (n:Nat) (P:List Part) (A B C:D) (S:List Scene) (c:Chg) (hp:P.length ≤ 8) (hf:c.fit P.length S):callF T dfs (n + 5) 17 [.tup [.tup (P.map Part.enc),A,.tup (S.map Scene.enc),B,C],c.enc] = .ok (.bl true):=by
  cases c with
  | mov a t=>exact fits_move n _ A B C S a t hf.1 hf.2
  | cut a=>exact fits_cut n _ A B C S a hf
  | add a s=>exact fits_add n P A B C S a s hp hf.1 hf.2
  | len a m=>exact fits_mod n P A B C S _ ⟨a,m,.inl (.inl rfl)⟩ hf
  | pau a m=>exact fits_mod n P A B C S _ ⟨a,m,.inl (.inr rfl)⟩ hf
  | ent a p=>exact fits_mod n P A B C S _ ⟨a,0,.inr ⟨p,.inl rfl⟩⟩ hf
  | lea a p=>exact fits_mod n P A B C S _ ⟨a,0,.inr ⟨p,.inr rfl⟩⟩ hf
theorem ask_fits (n:Nat) (P:List Part) (A B C:D) (S:List Scene) (c:Chg) (hp:P.length ≤ 8) (hf:c.fit P.length S):callF T dfs (n + 6) 18 [.tup [.tup (P.map Part.enc),A,.tup (S.map Scene.enc),B,C],c.enc] = .ok .non:=by
  have e:=fits_all n P A B C S c hp hf
  generalize c.enc = z at e ⊢
  refine callF_nx (e:=[.v (.tup [.tup (P.map Part.enc),A,.tup (S.map Scene.enc),B,C]),.v z]) rfl rfl rfl ?_
  simp [b_ask_that_it_fits,e]
theorem tupL_sc (S:List Scene):tupL (.tup (S.map Scene.enc)) = false:=by cases S <;> rfl
theorem taken_out (n:Nat) (S:List Scene) (a:Nat) (h:a < S.length) (hs:S.length < 1000):callF T dfs (n + 1) 19 [.tup (S.map Scene.enc),.int a] = .ok (.tup ((outS S a).map Scene.enc)):=by
  refine callF_rt (k:=true) rfl rfl rfl ?_
  have hb:=ten_big
  have c1:cut (S.map Scene.enc) none (some (a:Int)) = (S.take a).map Scene.enc:=by rw [cut_to (by rw [List.length_map];(first | lia | omega)),List.map_take]
  have c2:cut (S.map Scene.enc) (some ((a:Int) + 1)) none = (S.drop (a + 1)).map Scene.enc:=by
    have:=cut_from (xs:=S.map Scene.enc) (a:=a + 1) (by rw [List.length_map];(first | lia | omega))
    rw [List.map_drop]
    simpa using this
  have e:=add_tups (a:=(S.take a).map Scene.enc) (b:=(S.drop (a + 1)).map Scene.enc) (by rw [List.length_map,List.length_map,List.length_take,List.length_drop];(first | lia | omega))
  have e2:(outS S a).map Scene.enc = (S.take a).map Scene.enc ++ (S.drop (a + 1)).map Scene.enc:=by unfold outS;rw [List.map_append]
  have e3:tupL (.tup ((S.take a).map Scene.enc ++ (S.drop (a + 1)).map Scene.enc)) = false:=by rw [← e2];exact tupL_sc _
  rw [e2]
  generalize (S.take a).map Scene.enc = X at *
  generalize (S.drop (a + 1)).map Scene.enc = Y at *
  simp [b_taken_out,c1,c2,e,e3]
theorem put_in (n:Nat) (S:List Scene) (a:Nat) (x:Scene) (h:a ≤ S.length) (hs:S.length < 1000):callF T dfs (n + 1) 20 [.tup (S.map Scene.enc),.int a,x.enc] = .ok (.tup ((putS S a x).map Scene.enc)):=by
  refine callF_rt (k:=true) rfl rfl rfl ?_
  have hb:=ten_big
  have c1:cut (S.map Scene.enc) none (some (a:Int)) = (S.take a).map Scene.enc:=by rw [cut_to (by rw [List.length_map];(first | lia | omega)),List.map_take]
  have c2:cut (S.map Scene.enc) (some (a:Int)) none = (S.drop a).map Scene.enc:=by rw [cut_from (by rw [List.length_map];(first | lia | omega)),List.map_drop]
  have e:=add_tups (a:=(S.take a).map Scene.enc) (b:=[x.enc]) (by rw [List.length_map,List.length_take,List.length_singleton];(first | lia | omega))
  have e1:=add_tups (a:=(S.take a).map Scene.enc ++ [x.enc]) (b:=(S.drop a).map Scene.enc) (by rw [List.length_append,List.length_map,List.length_map,List.length_take,List.length_drop,List.length_singleton];(first | lia | omega))
  have e2:(putS S a x).map Scene.enc = ((S.take a).map Scene.enc ++ [x.enc]) ++ (S.drop a).map Scene.enc:=by unfold putS;simp
  have e3:tupL (.tup (((S.take a).map Scene.enc ++ [x.enc]) ++ (S.drop a).map Scene.enc)) = false:=by rw [← e2];exact tupL_sc _
  rw [e2]
  generalize (S.take a).map Scene.enc = X at *
  generalize (S.drop a).map Scene.enc = Y at *
  generalize x.enc = z at *
  rw [List.append_assoc] at e3
  replace e3:tupL (.tup (X ++ z :: Y)) = false:=e3
  simp [b_put_in,c1,c2,e,e1,e3]
theorem changed_scene (n:Nat) (c:Chg) (k:Str) (a:Nat) (v:D) (x:Scene) (he:c.enc = .tup [.str k,.int a,v]) (hc:(∃ m,c = .len a m ∨ c = .pau a m) ∨ ∃ p,c = .ent a p ∨ c = .lea a p) (hw:x.who.length < 100) :
    callF T dfs (n + 1) 21 [.str k,x.enc,v] = .ok (c.mod x).enc:=by
  refine callF_rt (k:=false) rfl rfl rfl ?_
  have hb:=ten_big
  rcases hc with ⟨m,rfl | rfl⟩ | ⟨p,rfl | rfl⟩
  · cases he
    simp [b_changed_scene,Scene.enc,cmp_eq_str,Chg.mod]
  · cases he
    simp [b_changed_scene,Scene.enc,cmp_eq_str,Chg.mod]
  · cases he
    have e:=add_tups (a:=natD x.who) (b:=[.int (p:Int)]) (by rw [natD_length,List.length_singleton];(first | lia | omega))
    have e2:natD (x.who ++ [p]) = natD x.who ++ [.int (p:Int)]:=by unfold natD;simp
    simp [b_changed_scene,Scene.enc,cmp_eq_str,Chg.mod,e,e2]
  · cases he
    have c1:∀ x0 x1 x3 x4 x5 x6,compL (compF T (callF T dfs n) 1 [2] (.one 0) e_changed_scene_2 c_changed_scene_1 [x0,x1,.v (.int (p:Int)),x3,x4,x5,x6]) (natD x.who) = .ok (natD (x.who.filter fun i=>!(i == p))):=by
      intro x0 x1 x3 x4 x5 x6
      rw [natD_natI,compL_keep natI (fun i=>!(i == p)) (by
        intro i _
        by_cases h:i = p
        · subst h;simp [compF,Tr.compEnv,natI,c_changed_scene_1,e_changed_scene_2]
        · have h':((i:Int) == (p:Int)) = false:=by simp;(first | lia | omega)
          have h2:(i == p) = false:=by simp [h]
          simp [compF,Tr.compEnv,natI,c_changed_scene_1,e_changed_scene_2,h',h2])]
      rfl
    have e6:(natD x.who).length ≤ big:=by rw [natD_length];(first | lia | omega)
    simp [b_changed_scene,Scene.enc,cmp_eq_str,Chg.mod,c1,e6]
theorem changed_scenes (n many:Nat) (S:List Scene) (c:Chg) (hf:c.fit many S) (hs:S.length < 100) (hw:∀ x ∈ S,x.who.length < 100):callF T dfs (n + 2) 22 [.tup (S.map Scene.enc),c.enc] = .ok (.tup ((c.on S).map Scene.enc)):=by
  refine callF_rt (k:=false) rfl rfl rfl ?_
  have mods:∀ (k:Str) (a:Nat) (v:D),a < S.length → c.enc = .tup [.str k,.int a,v] → (k == "add") = false → (k == "cut") = false → (k == "move") = false → ((∃ m,c = .len a m ∨ c = .pau a m) ∨ ∃ p,c = .ent a p ∨ c = .lea a p) → c.on S = putS (outS S a) a (c.mod (sceneAt S a)) →
      exS T (callF T dfs (n + 1)) b_changed_scenes [.v (.tup (S.map Scene.enc)),.v c.enc,.no,.no,.no] = .ok (.rt (.tup ((c.on S).map Scene.enc)) false):=by
    intro k a v ha he k1 k2 k3 hc hon
    have e1:=taken_out n S a ha (by (first | lia | omega))
    have e2:=changed_scene n c k a v (sceneAt S a) he hc (hw _ (sceneAt_mem ha))
    have e3:=put_in n (outS S a) a (c.mod (sceneAt S a)) (by rw [outS_len ha];(first | lia | omega)) (by rw [outS_len ha];(first | lia | omega))
    have e4:=ss_at (sceneAt_get ha)
    rw [hon,he]
    generalize (c.mod (sceneAt S a)).enc = y at *
    generalize (sceneAt S a).enc = z at *
    generalize ((putS (outS S a) a (c.mod (sceneAt S a))).map Scene.enc) = W at *
    simp [b_changed_scenes,cmp_eq_str,k1,k2,k3,e1,e4,e2,e3]
  cases c with
  | mov a t =>
    obtain ⟨h1,h2⟩:=hf
    have e1:=taken_out n S a h1 (by (first | lia | omega))
    have e2:=put_in n (outS S a) t (sceneAt S a) (by rw [outS_len h1];(first | lia | omega)) (by rw [outS_len h1];(first | lia | omega))
    have e4:=ss_at (sceneAt_get h1)
    show exS T (callF T dfs (n + 1)) b_changed_scenes [.v (.tup (S.map Scene.enc)),.v (Chg.mov a t).enc,.no,.no,.no] = .ok (.rt (.tup ((putS (outS S a) t (sceneAt S a)).map Scene.enc)) false)
    generalize (sceneAt S a).enc = z at *
    simp [b_changed_scenes,Chg.enc,cmp_eq_str,e1,e2,e4]
  | cut a =>
    have e1:=taken_out n S a hf (by (first | lia | omega))
    show exS T (callF T dfs (n + 1)) b_changed_scenes [.v (.tup (S.map Scene.enc)),.v (Chg.cut a).enc,.no,.no,.no] = .ok (.rt (.tup ((outS S a).map Scene.enc)) false)
    simp [b_changed_scenes,Chg.enc,cmp_eq_str,e1]
  | add a s =>
    have e2:=put_in n S a s hf.1 (by (first | lia | omega))
    show exS T (callF T dfs (n + 1)) b_changed_scenes [.v (.tup (S.map Scene.enc)),.v (Chg.add a s).enc,.no,.no,.no] = .ok (.rt (.tup ((putS S a s).map Scene.enc)) false)
    simp only [Chg.enc]
    generalize s.enc = z at *
    simp [b_changed_scenes,cmp_eq_str,e2]
  | len a m=>exact mods "length" a _ hf.1 rfl (by simp) (by simp) (by simp) (.inl ⟨m,.inl rfl⟩) rfl
  | pau a m=>exact mods "pause" a _ hf.1 rfl (by simp) (by simp) (by simp) (.inl ⟨m,.inr rfl⟩) rfl
  | ent a p=>exact mods "enter" a _ hf.1 rfl (by simp) (by simp) (by simp) (.inr ⟨p,.inl rfl⟩) rfl
  | lea a p=>exact mods "leave" a _ hf.1 rfl (by simp) (by simp) (by simp) (.inr ⟨p,.inr rfl⟩) rfl
theorem changed (n:Nat) (P:List Part) (A B C:D) (S:List Scene) (c:Chg) (hp:P.length ≤ 8) (hf:c.fit P.length S) (hs:S.length < 100) (hw:∀ x ∈ S,x.who.length < 100) :
    callF T dfs (n + 7) 23 [.tup [.tup (P.map Part.enc),A,.tup (S.map Scene.enc),B,C],c.enc] = .ok (.tup [.tup (P.map Part.enc),A,.tup ((c.on S).map Scene.enc),B,C]):=by
  refine callF_rt (k:=true) rfl rfl rfl ?_
  have e1:=ask_fits n P A B C S c hp hf
  have e2:=changed_scenes (n + 4) P.length S c hf hs hw
  have c1:cut [D.tup (P.map Part.enc),A,.tup (S.map Scene.enc),B,C] none (some 2) = [D.tup (P.map Part.enc),A]:=rfl
  have c2:cut [D.tup (P.map Part.enc),A,.tup (S.map Scene.enc),B,C] (some 3) none = [B,C]:=rfl
  have hb:∀ k:Nat,k ≤ 10 → k ≤ big:=fun k h=>by have:=ten_big;(first | lia | omega)
  have a1:∀ x,D.bin .Add (.tup [D.tup (P.map Part.enc),A]) (.tup [x]) = .ok (.tup [D.tup (P.map Part.enc),A,x]):=fun x=>add_tups (hb 3 (by (first | lia | omega)))
  have a2:∀ x,D.bin .Add (.tup [D.tup (P.map Part.enc),A,x]) (.tup [B,C]) = .ok (.tup [D.tup (P.map Part.enc),A,x,B,C]):=fun x=>add_tups (hb 5 (by (first | lia | omega)))
  generalize c.enc = z at *
  simp [b_changed,e1,e2,c1,c2,a1,a2]
theorem new_comp (n:Nat) (x:Int) (a b c d f:Sl):∀ xs:List Nat,(∀ j ∈ xs,j < 8) → compL (compF T (callF T dfs n) 1 [2] (.one 0) e_new_scene_2 c_new_scene_1 [a,b,.v (.int x),c,d,f]) (xs.map fun j:Nat=>D.int j) = .ok ((xs.filter (inV x)).map fun j:Nat=>D.int j)
  | [],_=>rfl
  | j :: r,hj=>by
    have h8:=hj j List.mem_cons_self
    have e1:D.ix (.lst [.int 1,.int 3,.int 9,.int 27,.int 81,.int 243,.int 729,.int 2187]) (.int j) = .ok (.int (powV j)):=by
      show Res.of (atI _ _) = _
      rw [eight_at _ _ _ _ _ _ _ _ j h8]
      unfold powV
      repeat' split
      all_goals rfl
    have hp:=powV_pos j
    have e2:D.bin .FloorDiv (.int x) (.int (powV j)) = .ok (.int (x / powV j)):=by
      show when (decide (0 < powV j) && decide (powV j < 1073741824)) _ = _
      rw [show decide (0 < powV j) = true by simpa using hp.1,show decide (powV j < 1073741824) = true by simpa using hp.2]
      rfl
    rw [List.map_cons,compL,new_comp n x a b c d f r fun i hi=>hj i (List.mem_cons_of_mem _ hi)]
    by_cases q:x / powV j % 3 = 0
    · have q':inV x j = true:=by unfold inV;simpa using q
      rw [List.filter_cons_of_pos q']
      simp [compF,Tr.compEnv,e_new_scene_2,c_new_scene_1,e1,e2,q]
    · have q':¬ inV x j = true:=by unfold inV;simpa using q
      rw [List.filter_cons_of_neg q']
      simp [compF,Tr.compEnv,e_new_scene_2,c_new_scene_1,e1,e2,q]
theorem eight_letters (i:Int) (h:0 ≤ i ∧ i < 8):∃ (y w:Str),D.ix (.str "abcdefgh") (.int i) = .ok (.str y) ∧ isNm w ∧ D.bin .Add (.str "new") (.str y) = .ok (.str w):=by
  have:i = 0 ∨ i = 1 ∨ i = 2 ∨ i = 3 ∨ i = 4 ∨ i = 5 ∨ i = 6 ∨ i = 7:=by (first | lia | omega)
  rcases this with rfl | rfl | rfl | rfl | rfl | rfl | rfl | rfl
  · exact ⟨"a", "newa", rfl,⟨by decide,by decide,by decide⟩,rfl⟩
  · exact ⟨"b", "newb", rfl,⟨by decide,by decide,by decide⟩,rfl⟩
  · exact ⟨"c", "newc", rfl,⟨by decide,by decide,by decide⟩,rfl⟩
  · exact ⟨"d", "newd", rfl,⟨by decide,by decide,by decide⟩,rfl⟩
  · exact ⟨"e", "newe", rfl,⟨by decide,by decide,by decide⟩,rfl⟩
  · exact ⟨"f", "newf", rfl,⟨by decide,by decide,by decide⟩,rfl⟩
  · exact ⟨"g", "newg", rfl,⟨by decide,by decide,by decide⟩,rfl⟩
  · exact ⟨"h", "newh", rfl,⟨by decide,by decide,by decide⟩,rfl⟩
theorem new_scene (n:Nat) (P:List Part) (A S B C:D) (cell:Int) (hp:P.length ≤ 8):∃ s:Scene,isNm s.name ∧ minOk s.len ∧ minOk s.pause ∧ s.who.Nodup ∧ (∀ i ∈ s.who,i < P.length) ∧
    callF T dfs (n + 2) 37 [.tup [.tup (P.map Part.enc),A,S,B,C],.int cell] = .ok s.enc:=by
  have hb:=ten_big
  have e0:=law_mix n cell 3 (by (first | lia | omega))
  have e1:=law_mix n cell 5 (by (first | lia | omega))
  have e2:=law_minutes n (mixN cell 3)
  have e3:=law_minutes n (mixN cell 5)
  have e6:rngR (.int (P.length:Int)) = .ok ((List.range P.length).map fun j:Nat=>D.int j):=by
    rw [rng_ok (by (first | lia | omega)),rangeD_eq]
    simp
  have e7:∀ a b c d f,compL (compF T (callF T dfs (n + 1)) 1 [2] (.one 0) e_new_scene_2 c_new_scene_1 [a,b,.v (.int (mixN cell 3)),c,d,f]) ((List.range P.length).map fun j:Nat=>D.int j) = .ok ((someV (mixN cell 3) P.length).map fun j:Nat=>D.int j):=fun a b c d f=>new_comp (n + 1) (mixN cell 3) a b c d f (List.range P.length) fun j hj=>by rw [List.mem_range] at hj;(first | lia | omega)
  have hl:=some_len (mixN cell 3) P.length
  have hnd:(someV (mixN cell 3) P.length).Nodup:=List.Pairwise.filter _ List.nodup_range
  have hlt:∀ i ∈ someV (mixN cell 3) P.length,i < P.length:=fun i hi=>by simpa using (List.mem_filter.mp hi).1
  generalize someV (mixN cell 3) P.length = W at *
  have hr:=rot_le cell W
  have e8:cell % ((W.length:Int) + 1) = (((cell % ((W.length:Int) + 1)).toNat:Nat):Int):=by
    have:=Int.emod_nonneg cell (show (W.length:Int) + 1 ≠ 0 by (first | lia | omega))
    (first | lia | omega)
  have e9:(0:Int) < (W.length:Int) + 1:=by (first | lia | omega)
  have hL:(W.map fun j:Nat=>D.int j).length = W.length:=List.length_map ..
  have e10:cut (W.map fun j:Nat=>D.int j) (some (cell % ((W.length:Int) + 1))) none = (W.map fun j:Nat=>D.int j).drop (cell % ((W.length:Int) + 1)).toNat:=by
    rw [e8];exact cut_from (by rw [hL];(first | lia | omega))
  have e11:cut (W.map fun j:Nat=>D.int j) none (some (cell % ((W.length:Int) + 1))) = (W.map fun j:Nat=>D.int j).take (cell % ((W.length:Int) + 1)).toNat:=by
    rw [e8];exact cut_to (by rw [hL];(first | lia | omega))
  have e12:D.bin .Add (.lst ((W.map fun j:Nat=>D.int j).drop (cell % ((W.length:Int) + 1)).toNat)) (.lst ((W.map fun j:Nat=>D.int j).take (cell % ((W.length:Int) + 1)).toNat)) = .ok (.lst (natD (rotV cell W))):=by
    rw [add_lsts (by rw [List.length_drop,List.length_take,hL];(first | lia | omega))]
    unfold natD
    rw [← rot_map]
    unfold rotV
    rw [hL]
  obtain ⟨y,w,l1,l2,l3⟩:=eight_letters (cell % 8) (by (first | lia | omega))
  have h1:=minV_range (mixN cell 3)
  have h2:=minV_range (mixN cell 5)
  refine ⟨⟨w,minV (mixN cell 3),minV (mixN cell 5),rotV cell W⟩,l2,⟨h1.1,by show minV _ ≤ _;(first | lia | omega)⟩,⟨h2.1,by show minV _ ≤ _;(first | lia | omega)⟩,(rot_perm _ _).nodup_iff.mpr hnd,fun i hi=>hlt i (by rw [rot_mem] at hi;exact hi),?_⟩
  refine callF_rt (k:=false) rfl rfl rfl ?_
  have e13:P.length ≤ big:=by (first | lia | omega)
  have e14:W.length ≤ big:=by (first | lia | omega)
  generalize mixN cell 3 = m3 at *
  generalize mixN cell 5 = m5 at *
  simp [b_law_new_scene,e0,e1,e2,e3,e6,e7,e9,e10,e11,e12,e13,e14,l1,l3,Scene.enc]
noncomputable def tl1:S → S
  | .cons _ r=>r
  | x=>x
noncomputable def hdS:S → S
  | .cons a _=>a
  | x=>x
noncomputable def gcT:S:=tl1 (tl1 (tl1 (tl1 b_law_good_change)))
theorem mem_namesV (w:Str):∀ S:List Scene,D.mem (.str w) (S.map fun s:Scene=>D.str s.name) = S.any fun s:Scene=>s.name == w
  | []=>rfl
  | s :: r=>by rw [List.map_cons,D.mem,mem_namesV w r,List.any_cons];rfl
theorem notin_names (w:Str) (S:List Scene):D.cmp .NotIn (.str w) (.lst (S.map fun s:Scene=>D.str s.name)) = .ok (.bl (!S.any fun s:Scene=>s.name == w)):=by
  show (do let k ← when (D.pls 30 (S.map fun s:Scene=>D.str s.name) && D.pl 29 (.str w)) (.ok (D.mem (.str w) (S.map fun s:Scene=>D.str s.name)));.ok (D.bl (!k))) = _
  rw [when_of (by rw [pls_map (fun s:Scene=>D.str s.name) 29 (fun _=>rfl) S];rfl),mem_namesV];rfl
theorem cmp_tup_nil_neV {xs:List D} (h:D.pls 30 xs = true):D.cmp .NotEq (.tup xs) (.tup []) = .ok (.bl (!xs.isEmpty)):=by
  show when (D.eqOk (.tup xs) (.tup [])) _ = _
  rw [when_of (by unfold D.eqOk;rw [pl_tup,h];rfl)]
  cases xs <;> rfl
theorem pickV {w:List Nat} (h:w ≠ []) (c:Int):0 ≤ c % (w.length:Int) ∧ ∃ p ∈ w,w[(c % (w.length:Int)).toNat]? = some p:=by
  have hl:0 < w.length:=List.length_pos_iff.mpr h
  have h1:=Int.emod_nonneg c (show (w.length:Int) ≠ 0 by (first | lia | omega))
  have h2:=Int.emod_lt_of_pos c (show 0 < (w.length:Int) by (first | lia | omega))
  have h3:(c % (w.length:Int)).toNat < w.length:=by (first | lia | omega)
  exact ⟨h1,w[(c % (w.length:Int)).toNat],List.getElem_mem h3,List.getElem?_eq_getElem h3⟩
theorem good_change (n:Nat) (P:List Part) (A B C:D) (S:List Scene) (cell:Int) (hp:P.length ≤ 8) (hs:S.length ≤ 100) (g:∀ s ∈ S,OkScene P.length s) :
    ∃ c:Chg,c.fit P.length S ∧ callF T dfs (n + 3) 38 [.tup [.tup (P.map Part.enc),A,.tup (S.map Scene.enc),B,C],.int cell] = .ok c.enc:=by
  have hb:=ten_big
  obtain ⟨s,s1,s2,s3,s4,s5,e0⟩:=new_scene n P A (.tup (S.map Scene.enc)) B C (cell / 7) hp
  have e1:=law_mix (n + 1) (cell / 7) 1 (by (first | lia | omega))
  have hN:=mixN_range (cell / 7) 1
  generalize hNN:mixN (cell / 7) 1 = N at *
  have pre:∀ d,exS T (callF T dfs (n + 2)) gcT [.v (.tup [.tup (P.map Part.enc),A,.tup (S.map Scene.enc),B,C]),.v (.int cell),.v (.tup (S.map Scene.enc)),.v (.int (cell % 7)),.v (.int N),.v s.enc,.no,.no,.no,.no] = .ok (.rt d false) →
      callF T dfs (n + 3) 38 [.tup [.tup (P.map Part.enc),A,.tup (S.map Scene.enc),B,C],.int cell] = .ok d:=by
    intro d h
    refine callF_rt (k:=false) rfl rfl rfl ?_
    show exS T (callF T dfs (n + 2)) (.cons (hdS b_law_good_change) (.cons (hdS (tl1 b_law_good_change)) (.cons (hdS (tl1 (tl1 b_law_good_change))) (.cons (hdS (tl1 (tl1 (tl1 b_law_good_change)))) gcT)))) _ = _
    generalize gcT = R at h ⊢
    simp [hdS,tl1,b_law_good_change,e0,e1,h]
  have c1:∀ env,compL (compF T (callF T dfs (n + 2)) 1 [] (.one 0) e_good_change_1 (.con (.bl true)) env) (S.map Scene.enc) = .ok (S.map fun s:Scene=>D.str s.name):=by
    intro env
    rw [compL_enc Scene.enc (fun s=>some (D.str s.name)) (by
      intro s _
      simp [compF,Tr.compEnv,e_good_change_1,Scene.enc]),List.filterMap_eq_map']
  have t1:=cmp_tup_nil (pls_map Scene.enc 29 (scene_pl 27) S)
  have n1:=notin_names s.name S
  have x0:D.ix s.enc (.int 0) = .ok (.str s.name):=rfl
  have l1:S.length ≤ big:=by (first | lia | omega)
  have w7:cell % 7 = 0 ∨ cell % 7 = 1 ∨ cell % 7 = 2 ∨ cell % 7 = 3 ∨ cell % 7 = 4 ∨ cell % 7 = 5 ∨ cell % 7 = 6:=by (first | lia | omega)
  by_cases hA:S = [] ∨ cell % 7 = 0
  · have hor:((S.map Scene.enc).isEmpty || (cell % 7 == 0)) = true:=by
      rcases hA with h | h
      · simp [h]
      · simp [h]
    by_cases hadd:(S.any fun x:Scene=>x.name == s.name) = false ∧ S.length < 20
    · obtain ⟨h1,h2⟩:=hadd
      rw [h1] at n1
      have m0:0 < (S.length:Int) + 1:=by (first | lia | omega)
      have m1:=Int.emod_nonneg N (show (S.length:Int) + 1 ≠ 0 by (first | lia | omega))
      have m2:=Int.emod_lt_of_pos N m0
      obtain ⟨a,ha⟩ : ∃ a:Nat,N % ((S.length:Int) + 1) = a:=⟨(N % ((S.length:Int) + 1)).toNat,by (first | lia | omega)⟩
      refine ⟨.add a s,⟨by (first | lia | omega),s1,fun x hx e=>by
        have:=List.any_eq_false.mp h1 x hx
        exact this (by rw [e];simp),s2,s3,s4,s5⟩,pre _ ?_⟩
      have h2':(S.length:Int) < 20:=by (first | lia | omega)
      simp only [Chg.enc]
      generalize s.enc = z at *
      rcases hA with h | h
      · have t1':D.cmp .Eq (.tup (S.map Scene.enc)) (.tup []) = .ok (.bl true):=by rw [t1,h];rfl
        simp [gcT,tl1,b_law_good_change,t1',x0,c1,l1,n1,h2',m0,ha]
      · cases hE:(S.map Scene.enc).isEmpty with
        | true =>
          rw [hE] at t1
          simp [gcT,tl1,b_law_good_change,t1,x0,c1,l1,n1,h2',m0,ha]
        | false =>
          rw [hE] at t1
          simp [gcT,tl1,b_law_good_change,t1,h,x0,c1,l1,n1,h2',m0,ha]
    · have hS:S ≠ []:=fun h=>hadd (by subst h;exact ⟨rfl,by simp⟩)
      have hL0:0 < (S.length:Int):=by have:=List.length_pos_iff.mpr hS;(first | lia | omega)
      have h0:cell % 7 = 0:=hA.resolve_left hS
      have m1:=Int.emod_nonneg N (show (S.length:Int) ≠ 0 by (first | lia | omega))
      have m2:=Int.emod_lt_of_pos N hL0
      obtain ⟨a,ha⟩ : ∃ a:Nat,N % (S.length:Int) = a:=⟨(N % (S.length:Int)).toNat,by (first | lia | omega)⟩
      have md:D.bin .Mod (.int N) (.int (S.length:Int)) = .ok (.int (a:Int)):=by rw [bin_mod hL0,ha]
      refine ⟨.cut a,show a < S.length by (first | lia | omega),pre _ ?_⟩
      simp only [Chg.enc]
      have hE:(S.map Scene.enc).isEmpty = false:=by simp [hS]
      rw [hE] at t1
      generalize s.enc = z at *
      by_cases h2:S.length < 20
      · have h1:(S.any fun x:Scene=>x.name == s.name) = true:=by
          cases h:(S.any fun x:Scene=>x.name == s.name) with
          | true=>rfl
          | false=>exact absurd ⟨h,h2⟩ hadd
        rw [h1] at n1
        simp [gcT,tl1,b_law_good_change,t1,h0,x0,c1,l1,n1,md]
      · have h2':¬ ((S.length:Int) < 20):=by (first | lia | omega)
        cases h1:(S.any fun x:Scene=>x.name == s.name) with
        | true =>
          rw [h1] at n1
          simp [gcT,tl1,b_law_good_change,t1,h0,x0,c1,l1,n1,md]
        | false =>
          rw [h1] at n1
          simp [gcT,tl1,b_law_good_change,t1,h0,x0,c1,l1,n1,h2',md]
  · have hS:S ≠ []:=fun h=>hA (.inl h)
    have h0:cell % 7 ≠ 0:=fun h=>hA (.inr h)
    have hL0:0 < (S.length:Int):=by have:=List.length_pos_iff.mpr hS;(first | lia | omega)
    have m1:=Int.emod_nonneg N (show (S.length:Int) ≠ 0 by (first | lia | omega))
    have m2:=Int.emod_lt_of_pos N hL0
    obtain ⟨a,ha⟩ : ∃ a:Nat,N % (S.length:Int) = a:=⟨(N % (S.length:Int)).toNat,by (first | lia | omega)⟩
    have md:D.bin .Mod (.int N) (.int (S.length:Int)) = .ok (.int (a:Int)):=by rw [bin_mod hL0,ha]
    have hal:a < S.length:=by (first | lia | omega)
    have d1:D.bin .FloorDiv (.int N) (.int (S.length:Int)) = .ok (.int (N / (S.length:Int))):=bin_fdiv ⟨hL0,by (first | lia | omega)⟩
    have hM0:0 ≤ N / (S.length:Int):=Int.ediv_nonneg hN.1 (by (first | lia | omega))
    generalize N / (S.length:Int) = M at *
    have e5:=law_minutes (n + 1) M
    have hmin:=minV_range M
    have hmin':minOk (minV M):=⟨hmin.1,by show minV M ≤ _;(first | lia | omega)⟩
    have e6:=ss_at (sceneAt_get hal)
    have e7:D.ix (sceneAt S a).enc (.int 3) = .ok (.tup (natD (sceneAt S a).who)):=enc3
    have hE:(S.map Scene.enc).isEmpty = false:=by simp [hS]
    rw [hE] at t1
    have rg:=rng_nat (n:=P.length) (by (first | lia | omega))
    have hwho:=who_sceneAt hal
    generalize (sceneAt S a).who = W at *
    have c2:∀ x0 x1 x2 x3 x4 x5 x6 x7 x9,compL (compF T (callF T dfs (n + 2)) 1 [8] (.one 0) e_good_change_3 c_good_change_2 [x0,x1,x2,x3,x4,x5,x6,x7,.v (.tup (natD W)),x9]) ((List.range P.length).map natI) = .ok (((List.range P.length).filter fun k=>!decide (k ∈ W)).map natI):=by
      intro x0 x1 x2 x3 x4 x5 x6 x7 x9
      refine compL_keep natI _ fun k _=>?_
      have e:=notin_natD (i:=k) (ws:=W)
      generalize decide (k ∈ W) = b at e ⊢
      cases b <;> simp [compF,Tr.compEnv,natI,c_good_change_2,e_good_change_3,e]
    have l2:P.length ≤ big:=by (first | lia | omega)
    have f1:=cmp_lst_nil_ne (pls_map natI 29 (natI_pl 29) ((List.range P.length).filter fun k=>!decide (k ∈ W)))
    have f2:=cmp_tup_nil_neV (natD_pls 29 W)
    have lw:Bt.run .len [.tup (natD W)] = .ok (.int W.length):=by rw [run_len_t,natD_length]
    have hout:∀ k ∈ (List.range P.length).filter (fun k=>!decide (k ∈ W)),k < P.length ∧ k ∉ W:=fun k hk=>by
      obtain ⟨h1,h2⟩:=List.mem_filter.mp hk
      exact ⟨by simpa using h1,by simpa using h2⟩
    generalize (List.range P.length).filter (fun k=>!decide (k ∈ W)) = U at *
    have mv1:=Int.emod_nonneg M (show (S.length:Int) ≠ 0 by (first | lia | omega))
    have mv2:=Int.emod_lt_of_pos M hL0
    obtain ⟨t,ht⟩ : ∃ t:Nat,M % (S.length:Int) = t:=⟨(M % (S.length:Int)).toNat,by (first | lia | omega)⟩
    have htl:t < S.length:=by (first | lia | omega)
    have mt:D.bin .Mod (.int M) (.int (S.length:Int)) = .ok (.int (t:Int)):=by rw [bin_mod hL0,ht]
    have hmf:(Chg.mov a t).fit P.length S:=⟨hal,htl⟩
    generalize s.enc = z at *
    generalize (sceneAt S a).enc = y at *
    rcases w7 with h | h | h | h | h | h | h
    · exact absurd h h0
    · refine ⟨.cut a,hal,pre _ ?_⟩
      simp [gcT,tl1,b_law_good_change,t1,h,md,d1,Chg.enc]
    · refine ⟨.len a (minV M),⟨hal,hmin'⟩,pre _ ?_⟩
      simp [gcT,tl1,b_law_good_change,t1,h,md,d1,Chg.enc,e5]
      rfl
    · refine ⟨.pau a (minV M),⟨hal,hmin'⟩,pre _ ?_⟩
      simp [gcT,tl1,b_law_good_change,t1,h,md,d1,Chg.enc,e5]
      rfl
    · refine ⟨.mov a t,hmf,pre _ ?_⟩
      simp [gcT,tl1,b_law_good_change,t1,h,md,d1,Chg.enc,e6,e7,rg,c2,l2,mt]
    · by_cases hU:U = []
      · refine ⟨.mov a t,hmf,pre _ ?_⟩
        have f1':D.cmp .NotEq (.lst (U.map natI)) (.lst []) = .ok (.bl false):=by rw [f1,hU];rfl
        simp [gcT,tl1,b_law_good_change,t1,h,md,d1,Chg.enc,e6,e7,rg,c2,l2,mt,f1']
      · obtain ⟨p1,p,p2,p3⟩:=pickV hU M
        have hUl:0 < (U.length:Int):=by have:=List.length_pos_iff.mpr hU;(first | lia | omega)
        have f1':D.cmp .NotEq (.lst (U.map natI)) (.lst []) = .ok (.bl true):=by rw [f1];simp [hU]
        have e8:D.ix (.lst (U.map natI)) (.int (M % (U.length:Int))) = .ok (.int (p:Int)):=ix_lI p1 (by rw [List.getElem?_map,p3];rfl)
        refine ⟨.ent a p,⟨hal,(hout p p2).1,by rw [hwho];exact (hout p p2).2⟩,pre _ ?_⟩
        simp [gcT,tl1,b_law_good_change,t1,h,md,d1,Chg.enc,e6,e7,rg,c2,l2,f1',bin_mod hUl,e8]
    · by_cases hW:W = []
      · refine ⟨.mov a t,hmf,pre _ ?_⟩
        have f2':D.cmp .NotEq (.tup (natD W)) (.tup []) = .ok (.bl false):=by rw [hW];rfl
        simp [gcT,tl1,b_law_good_change,t1,h,md,d1,Chg.enc,e6,e7,rg,c2,l2,mt,f2']
      · obtain ⟨p1,p,p2,p3⟩:=pickV hW M
        have hWl:0 < (W.length:Int):=by have:=List.length_pos_iff.mpr hW;(first | lia | omega)
        have f2':D.cmp .NotEq (.tup (natD W)) (.tup []) = .ok (.bl true):=by
          rw [f2]
          cases W with
          | nil=>exact absurd rfl hW
          | cons _ _=>rfl
        have e8:D.ix (.tup (natD W)) (.int (M % (W.length:Int))) = .ok (.int (p:Int)):=ix_tI p1 (by rw [natD_natI,List.getElem?_map,p3];rfl)
        refine ⟨.lea a p,⟨hal,by rw [hwho];exact p2⟩,pre _ ?_⟩
        simp [gcT,tl1,b_law_good_change,t1,h,md,d1,Chg.enc,e6,e7,rg,c2,l2,f2',bin_mod hWl,lw,e8]
theorem shift_of (n:Nat) (P:List Part) (A B C A' B' C':D) (S S':List Scene) (hp:P.length ≤ 8) (hs:S.length ≤ 24) (hs':S'.length ≤ 24) :
    callF T dfs (n + 6) 24 [.tup [.tup (P.map Part.enc),A,.tup (S.map Scene.enc),B,C],.tup [.tup (P.map Part.enc),A',.tup (S'.map Scene.enc),B',C']] =
      .ok (.tup [.lst ((lessV (clashV P S') (clashV P S)).map pairD),.lst ((lessV (clashV P S) (clashV P S')).map pairD)]):=by
  refine callF_rt (k:=true) rfl rfl rfl ?_
  have hb:=ten_big
  have e1:callF T dfs (n + 5) 10 [.tup [.tup (P.map Part.enc),A,.tup (S.map Scene.enc),B,C]] = .ok (.lst ((clashV P S).map pairD)):=clashes_of n A B C P S hs hp
  have e2:callF T dfs (n + 5) 10 [.tup [.tup (P.map Part.enc),A',.tup (S'.map Scene.enc),B',C']] = .ok (.lst ((clashV P S').map pairD)):=clashes_of n A' B' C' P S' hs' hp
  have l1:=clashV_len (S:=S) hp
  have l2:=clashV_len (S:=S') hp
  generalize clashV P S = X at *
  generalize clashV P S' = Y at *
  have c1:∀ x0 x1,compL (compF T (callF T dfs (n + 5)) 1 [2] (.one 0) e_shift_of_4 c_shift_of_3 [x0,x1,.v (.lst (X.map pairD)),.v (.lst (Y.map pairD))]) (Y.map pairD) = .ok ((lessV Y X).map pairD):=by
    intro x0 x1
    unfold lessV
    refine compL_keep pairD _ fun p _=>?_
    have e:=notin_pairD p X
    generalize decide (p ∈ X) = b at e ⊢
    cases b <;> simp [compF,Tr.compEnv,c_shift_of_3,e_shift_of_4,e]
  have c2:∀ x0 x1,compL (compF T (callF T dfs (n + 5)) 1 [3] (.one 0) e_shift_of_2 c_shift_of_1 [x0,x1,.v (.lst (X.map pairD)),.v (.lst (Y.map pairD))]) (X.map pairD) = .ok ((lessV X Y).map pairD):=by
    intro x0 x1
    unfold lessV
    refine compL_keep pairD _ fun p _=>?_
    have e:=notin_pairD p Y
    generalize decide (p ∈ Y) = b at e ⊢
    cases b <;> simp [compF,Tr.compEnv,c_shift_of_1,e_shift_of_2,e]
  have l3:X.length ≤ big:=by (first | lia | omega)
  have l4:Y.length ≤ big:=by (first | lia | omega)
  simp [b_shift_of,e1,e2,c1,c2,l3,l4]
theorem have_one_player (n:Nat) (cs:List (Option Nat)) (i j:Nat) (hi:i < cs.length) (hj:j < cs.length):callF T dfs (n + 1) 11 [.lst (cs.map optN),.int i,.int j] = .ok (.bl (oneB cs i j)):=by
  refine callF_rt (k:=false) rfl rfl rfl ?_
  have e1:=castD_at hi
  have e2:=castD_at hj
  have e3:=cast_eqo (cs.getD i none) (cs.getD j none)
  unfold oneB
  generalize cs.getD i none = a at *
  generalize cs.getD j none = b at *
  cases a with
  | none=>simp [b_have_one_player,e1]
  | some x=>simp only [optN_some] at e1 e3;simp [b_have_one_player,e1,e2,e3]
theorem is_hurt (n:Nat) (ps:List (Nat × Nat)) (cs:List (Option Nat)) (h:∀ p ∈ ps,p.1 < cs.length ∧ p.2 < cs.length) (hl:ps.length ≤ 100):callF T dfs (n + 2) 25 [.lst (ps.map pairD),castD cs] = .ok (.bl (hurtB ps cs)):=by
  refine callF_rt (k:=false) rfl rfl rfl ?_
  have hb:=ten_big
  have c1:compL (compF T (callF T dfs (n + 1)) 2 [1] (.many [0,1]) e_is_hurt_1 (.con (.bl true)) [.v (.lst (ps.map pairD)),.v (castD cs)]) (ps.map pairD) = .ok (ps.map fun p=>D.bl (oneB cs p.1 p.2)):=by
    rw [compL_enc pairD (fun p=>some (D.bl (oneB cs p.1 p.2))) (by
      intro p hp
      have e:=have_one_player n cs p.1 p.2 (h p hp).1 (h p hp).2
      simp [compF,Tr.compEnv,e_is_hurt_1,pairD,castD,e]),List.filterMap_eq_map']
  have l1:ps.length ≤ big:=by (first | lia | omega)
  have e2:=blsOf_map (fun p:Nat × Nat=>oneB cs p.1 p.2) ps
  have e3:(ps.map fun p:Nat × Nat=>oneB cs p.1 p.2).any id = hurtB ps cs:=by unfold hurtB;rw [List.any_map];rfl
  simp [b_is_hurt,c1,l1,e2,e3]
theorem hurt_by (n:Nat) (ps:List (Nat × Nat)) (r:D) (CS:List (List (Option Nat))) (m:Nat) (hc:∀ cs ∈ CS,cs.length = m) (h:∀ p ∈ ps,p.1 < m ∧ p.2 < m) (hl:ps.length ≤ 100) (hC:CS.length ≤ 100) :
    callF T dfs (n + 3) 26 [.tup [.lst (ps.map pairD),r],.lst (CS.map castD)] = .ok (.lst ((hurtV ps CS).map natI)):=by
  refine callF_rt (k:=true) rfl rfl rfl ?_
  have hb:=ten_big
  have l1:CS.length ≤ big:=by (first | lia | omega)
  have e0:=enumD_range castD [] CS 0
  have c1:compL (compF T (callF T dfs (n + 2)) 2 [0] (.many [0,1]) e_hurt_by_2 c_hurt_by_1 [.v (.tup [.lst (ps.map pairD),r]),.v (.lst (CS.map castD))]) (enumD 0 (CS.map castD)) = .ok ((hurtV ps CS).map natI):=by
    have e0':enumD 0 (CS.map castD) = _:=e0
    rw [e0',compL_enc (fun k:Nat=>D.tup [.int ((0 + k:Nat):Int),castD (CS.getD k [])]) (fun k=>if hurtB ps (CS.getD k []) = true then some (natI k) else none) (by
      intro k hk
      have hk:k < CS.length:=by simpa using hk
      have hm:CS.getD k [] ∈ CS:=by
        rw [List.getD_eq_getElem?_getD,List.getElem?_eq_getElem hk]
        exact List.getElem_mem hk
      have e:=is_hurt n ps (CS.getD k []) (fun p hp=>by rw [hc _ hm];exact h p hp) hl
      generalize CS.getD k [] = cs at *
      generalize castD cs = z at *
      have y1:D.ix (.tup [.lst (ps.map pairD),r]) (.int 0) = .ok (.lst (ps.map pairD)):=rfl
      generalize hurtB ps cs = b at *
      cases b <;> simp [compF,Tr.compEnv,e_hurt_by_2,c_hurt_by_1,e,y1,natI])]
    unfold hurtV
    rw [keep_map (fun k=>hurtB ps (CS.getD k [])) natI]
  simp [b_hurt_by,c1,l1]
theorem law_is_hurt (n:Nat) (ps:List (Nat × Nat)) (cs:List (Option Nat)) (h:∀ p ∈ ps,p.1 < cs.length ∧ p.2 < cs.length) (hl:ps.length ≤ 100):callF T dfs (n + 1) 39 [.lst (ps.map pairD),castD cs] = .ok (.bl (hurtB ps cs)):=by
  refine callF_rt (k:=false) rfl rfl rfl ?_
  have hb:=ten_big
  have c1:compL (compF T (callF T dfs n) 1 [1] (.one 0) e_is_hurt_3 c_is_hurt_2 [.v (.lst (ps.map pairD)),.v (castD cs)]) (ps.map pairD) = .ok ((ps.filter fun p=>oneB cs p.1 p.2).map pairD):=by
    refine compL_keep pairD _ fun p hp=>?_
    have e1:=castD_at (h p hp).1
    have e2:=castD_at (h p hp).2
    have e3:=cast_eqo (cs.getD p.1 none) (cs.getD p.2 none)
    unfold oneB
    unfold castD
    have y0:D.ix (pairD p) (.int 0) = .ok (.int p.1):=rfl
    have y1:D.ix (pairD p) (.int 1) = .ok (.int p.2):=rfl
    generalize cs.getD p.1 none = a at *
    generalize cs.getD p.2 none = b at *
    cases a with
    | none=>simp [compF,Tr.compEnv,e_is_hurt_3,c_is_hurt_2,y0,y1,e1]
    | some x =>
      simp only [optN_some] at e1 e3
      by_cases hx:some x = b
      · subst hx
        simp only [optN_some] at e2 e3
        simp [compF,Tr.compEnv,e_is_hurt_3,c_is_hurt_2,y0,y1,e1,e2,e3]
      · simp [compF,Tr.compEnv,e_is_hurt_3,c_is_hurt_2,y0,y1,e1,e2,e3,hx]
  have l1:ps.length ≤ big:=by (first | lia | omega)
  have e3:D.cmp .NotEq (.lst ((ps.filter fun p=>oneB cs p.1 p.2).map pairD)) (.lst []) = .ok (.bl (hurtB ps cs)):=by
    have hpl:=pls_map pairD 29 (pairD_pl 28) (ps.filter fun p=>oneB cs p.1 p.2)
    show when (D.eqOk (.lst _) (.lst [])) _ = _
    rw [when_of (by unfold D.eqOk;rw [pl_lst,hpl];rfl)]
    unfold hurtB
    rw [← filter_any]
    cases (ps.filter fun p=>oneB cs p.1 p.2) <;> rfl
  simp [b_law_is_hurt,c1,l1,e3]
noncomputable abbrev bkD (P:List Part) (Q:List Player) (S:List Scene) (L C:D):D:=.tup [.tup (P.map Part.enc),.tup (Q.map Player.enc),.tup (S.map Scene.enc),L,C]
theorem k73_loop (ns:List Int) (P:List Part) (Q:List Player) (L C:D) (hp:P.length ≤ 8) (x1 x4 x5 x6 x7 x8 x9 x10:Sl):∀ (ks:List Nat) (S:List Scene) (x3:Sl),S.length + ks.length ≤ 20 → (∀ k ∈ ks,k < 100) → (∀ s ∈ S,OkScene P.length s) →
    ∃ S' x3',S'.length ≤ S.length + ks.length ∧ (∀ s ∈ S',OkScene P.length s) ∧ forL (bodyF T (callF T dfs 19) (.one 3) b_law_1) (ks.map natI) [.v (.lst (ns.map D.int)),x1,.v (bkD P Q S L C),x3,x4,x5,x6,x7,x8,x9,x10] = .ok (.nx [.v (.lst (ns.map D.int)),x1,.v (bkD P Q S' L C),x3',x4,x5,x6,x7,x8,x9,x10])
  | [],S,x3,_,_,g=>⟨S,x3,by simp,g,rfl⟩
  | k :: r,S,x3,hl,hk,g=>by
    rw [List.length_cons] at hl
    have hw:=okS_who hp g
    have e0:=law_mix 18 (cellV ns 1) k (by have:=hk k List.mem_cons_self;(first | lia | omega))
    obtain ⟨c,hf,e1⟩:=good_change 16 P (.tup (Q.map Player.enc)) L C S (mixN (cellV ns 1) k) hp (by (first | lia | omega)) g
    have e3:=changed 12 P (.tup (Q.map Player.enc)) L C S c hp hf (by (first | lia | omega)) hw
    have g':=on_ok g hf
    have hl':=on_len hf
    obtain ⟨S',x3',h1,h2,e4⟩:=k73_loop ns P Q L C hp x1 x4 x5 x6 x7 x8 x9 x10 r (c.on S) (.v (.int k)) (by (first | lia | omega)) (fun k' h'=>hk k' (List.mem_cons_of_mem _ h')) g'
    refine ⟨S',x3',by rw [List.length_cons];(first | lia | omega),h2,?_⟩
    have q2:callF T dfs 19 27 [.lst (ns.map D.int),.int 1] = .ok (.int (cellV ns 1)):=cell_at 18 ns 1
    have e0:callF T dfs 19 28 [.int (cellV ns 1),.int k] = _:=e0
    have e1:callF T dfs 19 38 _ = _:=e1
    have e3:callF T dfs 19 23 _ = _:=e3
    have e:bodyF T (callF T dfs 19) (.one 3) b_law_1 (natI k) [.v (.lst (ns.map D.int)),x1,.v (bkD P Q S L C),x3,x4,x5,x6,x7,x8,x9,x10] =
        .ok (.nx [.v (.lst (ns.map D.int)),x1,.v (bkD P Q (c.on S) L C),.v (.int k),x4,x5,x6,x7,x8,x9,x10]):=by
      generalize c.enc = z at *
      simp [bodyF,b_law_1,natI,q2,e0,e1,e3]
    rw [List.map_cons,forL_nx e,e4]
theorem k73_cast (P:List Part) (Q:List Player) (S:List Scene) (L C:D) (hp:P.length ≤ 8) (hq:Q.length ≤ 6) (hv:∀ p ∈ P,(signs p.voice).length = 1) (x0 x2 x3 x4 x5 x6 x7 x8 x9 x10:Sl):∀ cells:List Int,∃ CS:List (List (Option Nat)),CS.length = cells.length ∧ (∀ cs ∈ CS,cs.length = P.length) ∧
    compL (compF T (callF T dfs 19) 1 [1] (.one 0) e_law_6 (.con (.bl true)) [x0,.v (bkD P Q S L C),x2,x3,x4,x5,x6,x7,x8,x9,x10]) (cells.map D.int) = .ok (CS.map castD)
  | []=>⟨[],rfl,by simp,rfl⟩
  | c :: r=>by
    obtain ⟨cs,hl,_,e1⟩:=law_given 17 P Q (.tup (S.map Scene.enc)) L C c hp hq hv
    have e1:callF T dfs 19 36 _ = _:=e1
    obtain ⟨CS,h1,h2,e2⟩:=k73_cast P Q S L C hp hq hv x0 x2 x3 x4 x5 x6 x7 x8 x9 x10 r
    refine ⟨cs :: CS,by simp [h1],?_,?_⟩
    · intro x hx
      rcases List.mem_cons.mp hx with z | z
      · rw [z];exact hl
      · exact h2 x z
    · rw [List.map_cons,List.map_cons,compL,e2]
      have e:compF T (callF T dfs 19) 1 [1] (.one 0) e_law_6 (.con (.bl true)) [x0,.v (bkD P Q S L C),x2,x3,x4,x5,x6,x7,x8,x9,x10] (.int c) = .ok (some (castD cs)):=by
        simp [compF,Tr.compEnv,e_law_6,e1,castD]
      rw [e];rfl
theorem law_true (ns:List Int) (hn:ns.length ≤ 63):callF T dfs 20 40 [.lst (ns.map D.int)] = .ok (.bl true):=by
  have hb:=ten_big
  obtain ⟨P,Q,S0,L0,C0,G,g0,_,e0⟩:=drawn_bookC 16 ns 2 hn (by (first | lia | omega))
  have hsub:∀ s ∈ S0.take 5,s ∈ S0:=fun s h=>List.mem_of_mem_take h
  have g:∀ s ∈ S0.take 5,OkScene P.length s:=fun s h=>(g0 s (hsub s h)).1
  have hS5:(S0.take 5).length ≤ 5:=by rw [List.length_take];(first | lia | omega)
  have ct:cut (S0.map Scene.enc) none (some 5) = (S0.take 5).map Scene.enc:=by
    rw [cut_map]
    congr 1
    unfold cut sIx
    simp
  generalize hL:D.tup (L0.map lkD) = L at e0
  generalize hC:D.tup (C0.map prD) = C at e0
  generalize S0.take 5 = S at *
  have c1:∀ x,cut [D.tup (P.map Part.enc),D.tup (Q.map Player.enc),x,L,C] none (some 2) = [D.tup (P.map Part.enc),D.tup (Q.map Player.enc)]:=fun x=>rfl
  have c2:∀ x,cut [D.tup (P.map Part.enc),D.tup (Q.map Player.enc),x,L,C] (some 3) none = [L,C]:=fun x=>rfl
  have hbk:∀ k:Nat,k ≤ 10 → k ≤ big:=fun k h=>by (first | lia | omega)
  have a1:∀ x,D.bin .Add (.tup [D.tup (P.map Part.enc),D.tup (Q.map Player.enc)]) (.tup [x]) = .ok (.tup [D.tup (P.map Part.enc),D.tup (Q.map Player.enc),x]):=fun x=>add_tups (hbk 3 (by (first | lia | omega)))
  have a2:∀ x,D.bin .Add (.tup [D.tup (P.map Part.enc),D.tup (Q.map Player.enc),x]) (.tup [L,C]) = .ok (.tup [D.tup (P.map Part.enc),D.tup (Q.map Player.enc),x,L,C]):=fun x=>add_tups (hbk 5 (by (first | lia | omega)))
  have q1:callF T dfs 19 27 [.lst (ns.map D.int),.int 0] = .ok (.int (cellV ns 0)):=cell_at 18 ns 0
  have e0:callF T dfs 19 35 [.lst (ns.map D.int),.int 2] = _:=e0
  have i1:=Int.emod_lt_of_pos (cellV ns 0) (show (0:Int) < 3 by decide)
  have i2:=Int.emod_nonneg (cellV ns 0) (show (3:Int) ≠ 0 by decide)
  obtain ⟨m,hm⟩ : ∃ m:Nat,1 + cellV ns 0 % 3 = m:=⟨(1 + cellV ns 0 % 3).toNat,by (first | lia | omega)⟩
  have rg:=rng_nat (n:=m) (by (first | lia | omega))
  obtain ⟨S',x3',hS',g',e1⟩:=k73_loop ns P Q L C G.hp (.v (bkD P Q S L C)) .no .no .no .no .no .no .no (List.range m) S .no (by rw [List.length_range];(first | lia | omega)) (by intro k hk;have:=List.mem_range.mp hk;(first | lia | omega)) g
  rw [List.length_range] at hS'
  have k1:callF T dfs 19 10 [bkD P Q S L C] = .ok (.lst ((clashV P S).map pairD)):=clashes_of 14 (.tup (Q.map Player.enc)) L C P S (by (first | lia | omega)) G.hp
  have k2:callF T dfs 19 10 [bkD P Q S' L C] = .ok (.lst ((clashV P S').map pairD)):=clashes_of 14 (.tup (Q.map Player.enc)) L C P S' (by (first | lia | omega)) G.hp
  have f1:callF T dfs 19 24 [bkD P Q S L C,bkD P Q S' L C] = _:=shift_of 13 P (.tup (Q.map Player.enc)) L C (.tup (Q.map Player.enc)) L C S S' G.hp (by (first | lia | omega)) (by (first | lia | omega))
  have f2:callF T dfs 19 24 [bkD P Q S' L C,bkD P Q S L C] = _:=shift_of 13 P (.tup (Q.map Player.enc)) L C (.tup (Q.map Player.enc)) L C S' S G.hp (by (first | lia | omega)) (by (first | lia | omega))
  have f3:callF T dfs 19 24 [bkD P Q S L C,bkD P Q S L C] = _:=shift_of 13 P (.tup (Q.map Player.enc)) L C (.tup (Q.map Player.enc)) L C S S G.hp (by (first | lia | omega)) (by (first | lia | omega))
  rw [lessV_nil (fun _ h=>h),List.map_nil] at f3
  have ct2:cut (ns.map D.int) (some 19) (some 24) = (cut ns (some 19) (some 24)).map D.int:=cut_map ..
  have hcl:(cut ns (some 19) (some 24)).length ≤ 63:=by
    unfold cut
    rw [List.length_take,List.length_drop]
    (first | lia | omega)
  have l1:=clashV_len (S:=S) G.hp
  have l2:=clashV_len (S:=S') G.hp
  have b1:=lessV_len (X:=clashV P S') (Y:=clashV P S)
  have b2:=lessV_len (X:=clashV P S) (Y:=clashV P S')
  have lt1:∀ p ∈ lessV (clashV P S') (clashV P S),p.1 < P.length ∧ p.2 < P.length:=fun p h=>clashV_lt (lessV_mem h)
  have kc1:∀ x0 x1 x2 x3 x6 x7 x8 x9 x10,compL (compF T (callF T dfs 19) 1 [4] (.one 0) e_law_5 c_law_4 [x0,x1,x2,x3,.v (.lst ((clashV P S).map pairD)),.v (.lst ((clashV P S').map pairD)),x6,x7,x8,x9,x10]) ((clashV P S').map pairD) = .ok ((lessV (clashV P S') (clashV P S)).map pairD):=by
    intro x0 x1 x2 x3 x6 x7 x8 x9 x10
    generalize clashV P S = X
    generalize clashV P S' = Y
    unfold lessV
    refine compL_keep pairD _ fun p _=>?_
    have e:=notin_pairD p X
    generalize decide (p ∈ X) = b at e ⊢
    cases b <;> simp [compF,Tr.compEnv,c_law_4,e_law_5,e]
  have kc2:∀ x0 x1 x2 x3 x6 x7 x8 x9 x10,compL (compF T (callF T dfs 19) 1 [5] (.one 0) e_law_3 c_law_2 [x0,x1,x2,x3,.v (.lst ((clashV P S).map pairD)),.v (.lst ((clashV P S').map pairD)),x6,x7,x8,x9,x10]) ((clashV P S).map pairD) = .ok ((lessV (clashV P S) (clashV P S')).map pairD):=by
    intro x0 x1 x2 x3 x6 x7 x8 x9 x10
    generalize clashV P S = X
    generalize clashV P S' = Y
    unfold lessV
    refine compL_keep pairD _ fun p _=>?_
    have e:=notin_pairD p Y
    generalize decide (p ∈ Y) = b at e ⊢
    cases b <;> simp [compF,Tr.compEnv,c_law_2,e_law_3,e]
  have lb1:(clashV P S).length ≤ big:=by (first | lia | omega)
  have lb2:(clashV P S').length ≤ big:=by (first | lia | omega)
  generalize clashV P S = X at *
  generalize clashV P S' = Y at *
  have hA:=fun x0 x2 x3 x4 x5 x6 x7 x8 x9 x10=>k73_cast P Q S L C G.hp G.hq G.voice x0 x2 x3 x4 x5 x6 x7 x8 x9 x10 (cut ns (some 19) (some 24))
  obtain ⟨CS,hC1,hC2,m1⟩:=hA (.v (.lst (ns.map D.int))) (.v (bkD P Q S' L C)) x3' (.v (.lst (X.map pairD))) (.v (.lst (Y.map pairD))) (.v (.tup [.lst ((lessV Y X).map pairD),.lst ((lessV X Y).map pairD)])) (.t [.lst ((lessV Y X).map pairD),.lst ((lessV X Y).map pairD)]) .no .no .no
  clear hA
  have m2:∀ env,compL (compF T (callF T dfs 19) 1 [] (.one 0) e_law_7 (.con (.bl true)) env) (CS.map castD) = .ok (CS.map castD):=by
    intro env
    rw [compL_enc castD (fun cs=>some (castD cs)) (by
      intro cs _
      simp [compF,Tr.compEnv,e_law_7,castD]),List.filterMap_eq_map']
  have hu1:callF T dfs 19 26 _ = _:=hurt_by 16 (lessV Y X) (.lst ((lessV X Y).map pairD)) CS P.length hC2 lt1 (by (first | lia | omega)) (by (first | lia | omega))
  have m3:∀ x0 x1 x2 x3 x4 x5 x7 x9 x10,compL (compF T (callF T dfs 19) 1 [6,8] (.one 0) e_law_9 c_law_8 [x0,x1,x2,x3,x4,x5,.v (.tup [.lst ((lessV Y X).map pairD),.lst ((lessV X Y).map pairD)]),x7,.v (.lst (CS.map castD)),x9,x10]) ((List.range CS.length).map natI) = .ok ((hurtV (lessV Y X) CS).map natI):=by
    intro x0 x1 x2 x3 x4 x5 x7 x9 x10
    unfold hurtV
    refine compL_keep natI _ fun k hk=>?_
    have hk:k < CS.length:=by simpa using hk
    have hm':CS.getD k [] ∈ CS:=by
      rw [List.getD_eq_getElem?_getD,List.getElem?_eq_getElem hk]
      exact List.getElem_mem hk
    have e:=law_is_hurt 18 (lessV Y X) (CS.getD k []) (fun p hp=>by rw [hC2 _ hm'];exact lt1 p hp) (by (first | lia | omega))
    have e:callF T dfs 19 39 _ = _:=e
    have y1:∀ r s,D.ix (.tup [r,s]) (.int 0) = .ok r:=fun r s=>rfl
    have y2:D.ix (.lst (CS.map castD)) (.int (k:Int)) = .ok (castD (CS.getD k [])):=by
      refine ix_lI (by (first | lia | omega)) ?_
      rw [List.getElem?_map,Int.toNat_natCast,List.getD_eq_getElem?_getD,List.getElem?_eq_getElem hk];rfl
    generalize CS.getD k [] = cs at *
    generalize castD cs = z at *
    generalize hurtB (lessV Y X) cs = b at *
    cases b <;> simp [compF,Tr.compEnv,c_law_8,e_law_9,natI,e,y1,y2]
  have rg2:=rng_nat (n:=CS.length) (by (first | lia | omega))
  have hlc:(cut ns (some 19) (some 24)).length ≤ big:=by (first | lia | omega)
  have hlr:CS.length ≤ big:=by (first | lia | omega)
  have hf:=flats_nat (hurtV (lessV Y X) CS)
  have pU:D.pl 30 (.lst ((hurtV (lessV Y X) CS).map natI)) = true:=by rw [pl_lst];exact pls_map natI 29 (natI_pl 29) _
  have hul:(hurtV (lessV Y X) CS).length < big:=by
    have:=List.length_filter_le (fun k=>hurtB (lessV Y X) (CS.getD k [])) (List.range CS.length)
    unfold hurtV
    rw [List.length_range] at this
    (first | lia | omega)
  generalize hurtV (lessV Y X) CS = U at *
  have cU:D.cmp .NotEq (.lst (U.map natI)) (.lst (U.map natI)) = .ok (.bl false):=cmp_same_ne pU
  have cU2:D.cmp .Eq (.lst (U.map natI)) (.lst (U.map natI)) = .ok (.bl true):=cmp_same pU
  have cC:D.cmp .NotEq (.lst (CS.map castD)) (.lst (CS.map castD)) = .ok (.bl false):=cmp_same_ne (by rw [pl_lst];exact pls_map castD 29 (castD_pl 28) CS)
  have hz1:((lessV Y X).map pairD).length < big:=by rw [List.length_map];(first | lia | omega)
  have pZ:D.pls 29 ((lessV Y X).map pairD) = true:=pls_map pairD 28 (pairD_pl 27) _
  have pW:D.pls 29 ((lessV X Y).map pairD) = true:=pls_map pairD 28 (pairD_pl 27) _
  generalize (lessV Y X).map pairD = Z at *
  generalize (lessV X Y).map pairD = W at *
  have cZ:D.cmp .NotEq (.tup [.lst Z,.lst W]) (.tup [.lst Z,.lst W]) = .ok (.bl false):=cmp_same_ne (by rw [pl_tup];simp only [D.pls,pl_lst,pZ,pW,Bool.and_self])
  have cZ2:D.cmp .Eq (.tup [.lst Z,.lst W]) (.tup [.lst Z,.lst W]) = .ok (.bl true):=cmp_same (by rw [pl_tup];simp only [D.pls,pl_lst,pZ,pW,Bool.and_self])
  have cZ3:D.cmp .NotEq (.tup [.lst W,.lst Z]) (.tup [.lst W,.lst Z]) = .ok (.bl false):=cmp_same_ne (by rw [pl_tup];simp only [D.pls,pl_lst,pZ,pW,Bool.and_self])
  have n0:D.cmp .Eq (.tup [.lst [],.lst []]) (.tup [.lst [],.lst []]) = .ok (.bl true):=rfl
  have y1:∀ r s,D.ix (.tup [r,s]) (.int 0) = .ok r:=fun r s=>rfl
  have y2:∀ r s,D.ix (.tup [r,s]) (.int 1) = .ok s:=fun r s=>rfl
  have t2:D.cmp .NotEq (.int 2) (.int 2) = .ok (.bl false):=rfl
  have cl:cut (U.map natI ++ [D.non]) none (some (-1)) = U.map natI:=by
    unfold cut sIx
    simp
    rw [show ((-1:Int) + (((U.length:Nat):Int) + 1)).toNat = U.length by (first | lia | omega),List.take_append_of_le_length (by rw [List.length_map];(first | lia | omega)),List.take_of_length_le (by rw [List.length_map];(first | lia | omega))]
  refine callF_rt (k:=false) rfl rfl rfl ?_
  have w1:∀ a,(D.tup a).isTy .tuple = true:=fun a=>rfl
  have w2:∀ a,(D.lst a).isTy .list = true:=fun a=>rfl
  simp [b_law,w1,w2,e0,c1,c2,ct,a1,a2,q1,hm,rg,e1,k1,k2,kc1,kc2,lb1,lb2,f1,f2,f3,y1,y2,t2,cZ,cZ2,cZ3,ct2,m1,m2,m3,hlc,hlr,hu1,hf,cU,cU2,cC,rg2,hz1,hul,cl,n0]
end K73
namespace K73
open PySem L2 Tr
noncomputable def top (i:Nat):Stmt:=PySem.Challenge.pw_troupe_k73_shifts.main.body.getD i (.Pass ⟨0,0,0,0⟩)
noncomputable abbrev d_consists_of:DefT:=⟨"consists_of", top 7,["signs", "word"],["signs", "word"],b_consists_of,none⟩
noncomputable abbrev d_are_unlike:DefT:=⟨"are_unlike", top 8,["things"],["things"],b_are_unlike,none⟩
noncomputable abbrev d_is_name:DefT:=⟨"is_name", top 9,["word"],["word"],b_is_name,none⟩
noncomputable abbrev d_number_named:DefT:=⟨"number_named", top 10,["entries", "name", "number", "entry"],["entries", "name"],b_number_named,none⟩
noncomputable abbrev d_is_new_name:DefT:=⟨"is_new_name", top 11,["entries", "word"],["entries", "word"],b_is_new_name,none⟩
noncomputable abbrev d_time_between:DefT:=⟨"time_between", top 13,["book", "s", "t", "scenes"],["book", "s", "t"],b_time_between,none⟩
noncomputable abbrev d_change_time:DefT:=⟨"change_time", top 14,["book", "one", "other"],["book", "one", "other"],b_change_time,none⟩
noncomputable abbrev d_short_change_from:DefT:=⟨"short_change_from", top 15,["book", "s", "one", "other", "need", "t", "have"],["book", "s", "one", "other"],b_short_change_from,none⟩
noncomputable abbrev d_reason_from:DefT:=⟨"reason_from", top 16,["book", "s", "i", "j", "numbers"],["book", "s", "i", "j"],b_reason_from,none⟩
noncomputable abbrev d_reason_of:DefT:=⟨"reason_of", top 17,["book", "i", "j", "s", "reason"],["book", "i", "j"],b_reason_of,none⟩
noncomputable abbrev d_clashes_of:DefT:=⟨"clashes_of", top 18,["book", "pairs", "many", "i"],["book"],b_clashes_of,none⟩
noncomputable abbrev d_have_one_player:DefT:=⟨"have_one_player", top 20,["casting", "i", "j"],["casting", "i", "j"],b_have_one_player,none⟩
noncomputable abbrev d_are_minutes:DefT:=⟨"are_minutes", top 23,["number"],["number"],b_are_minutes,none⟩
noncomputable abbrev d_is_part:DefT:=⟨"is_part", top 24,["book", "number"],["book", "number"],b_is_part,none⟩
noncomputable abbrev d_is_scene:DefT:=⟨"is_scene", top 25,["book", "number"],["book", "number"],b_is_scene,none⟩
noncomputable abbrev d_may_be_added:DefT:=⟨"may_be_added", top 26,["book", "scene", "name", "length", "pause", "numbers"],["book", "scene"],b_may_be_added,none⟩
noncomputable abbrev d_fits_scene:DefT:=⟨"fits_scene", top 27,["book", "kind", "scene", "number"],["book", "kind", "scene", "number"],b_fits_scene,none⟩
noncomputable abbrev d_fits:DefT:=⟨"fits", top 28,["book", "change", "kind", "at"],["book", "change"],b_fits,none⟩
noncomputable abbrev d_ask_that_it_fits:DefT:=⟨"ask_that_it_fits", top 29,["book", "change"],["book", "change"],b_ask_that_it_fits,none⟩
noncomputable abbrev d_taken_out:DefT:=⟨"taken_out", top 30,["scenes", "at"],["scenes", "at"],b_taken_out,none⟩
noncomputable abbrev d_put_in:DefT:=⟨"put_in", top 31,["scenes", "at", "scene"],["scenes", "at", "scene"],b_put_in,none⟩
noncomputable abbrev d_changed_scene:DefT:=⟨"changed_scene", top 32,["kind", "scene", "number", "name", "length", "pause", "numbers"],["kind", "scene", "number"],b_changed_scene,none⟩
noncomputable abbrev d_changed_scenes:DefT:=⟨"changed_scenes", top 33,["scenes", "change", "kind", "at", "others"],["scenes", "change"],b_changed_scenes,none⟩
noncomputable abbrev d_changed:DefT:=⟨"changed", top 34,["book", "change"],["book", "change"],b_changed,none⟩
noncomputable abbrev d_shift_of:DefT:=⟨"shift_of", top 35,["book", "other", "first", "second"],["book", "other"],b_shift_of,none⟩
noncomputable abbrev d_is_hurt:DefT:=⟨"is_hurt", top 36,["come", "casting"],["come", "casting"],b_is_hurt,none⟩
noncomputable abbrev d_hurt_by:DefT:=⟨"hurt_by", top 37,["shift", "castings"],["shift", "castings"],b_hurt_by,none⟩
noncomputable abbrev d_law_cell_at:DefT:=⟨"_law_cell_at", top 39,["_law_script", "_law_k"],["_law_script", "_law_k"],b_law_cell_at,none⟩
noncomputable abbrev d_law_mix:DefT:=⟨"_law_mix", top 40,["_law_cell", "_law_k"],["_law_cell", "_law_k"],b_law_mix,none⟩
noncomputable abbrev d_law_name:DefT:=⟨"_law_name", top 41,["_law_cell", "_law_k", "_law_letter", "_law_tail", "_law_at"],["_law_cell", "_law_k"],b_law_name,none⟩
noncomputable abbrev d_law_minutes:DefT:=⟨"_law_minutes", top 42,["_law_number"],["_law_number"],b_law_minutes,none⟩
noncomputable abbrev d_law_part:DefT:=⟨"_law_part", top 43,["_law_cell", "_law_k", "_law_base", "_law_number", "_law_voice"],["_law_cell", "_law_k", "_law_base"],b_law_part,none⟩
noncomputable abbrev d_law_player:DefT:=⟨"_law_player", top 44,["_law_cell", "_law_k", "_law_base", "_law_number", "_law_voices"],["_law_cell", "_law_k", "_law_base"],b_law_player,none⟩
noncomputable abbrev d_law_scene:DefT:=⟨"_law_scene", top 45,["_law_cell", "_law_k", "_law_base", "_law_many", "_law_number", "_law_some", "_law_middle", "_law_pause"],["_law_cell", "_law_k", "_law_base", "_law_many"],b_law_scene,none⟩
noncomputable abbrev d_law_pairs:DefT:=⟨"_law_pairs", top 46,["_law_cell", "_law_one", "_law_other", "_law_share", "_law_found", "_law_k", "_law_number", "_law_pair", "_law_middle"],["_law_cell", "_law_one", "_law_other", "_law_share"],b_law_pairs,none⟩
noncomputable abbrev d_law_drawn:DefT:=⟨"_law_drawn", top 47,["_law_script", "_law_at", "_law_cells", "_law_many", "_law_parts", "_law_players", "_law_scenes", "_law_k", "_law_cell", "_law_likes", "_law_player_here", "_law_part_here", "_law_covers"],["_law_script", "_law_at"],b_law_drawn,none⟩
noncomputable abbrev d_law_given:DefT:=⟨"_law_given", top 48,["_law_book", "_law_cell", "_law_found", "_law_k", "_law_number", "_law_able"],["_law_book", "_law_cell"],b_law_given,none⟩
noncomputable abbrev d_law_new_scene:DefT:=⟨"_law_new_scene", top 49,["_law_book", "_law_cell", "_law_number", "_law_some", "_law_middle", "_law_minutes_here"],["_law_book", "_law_cell"],b_law_new_scene,none⟩
noncomputable abbrev d_law_good_change:DefT:=⟨"_law_good_change", top 50,["_law_book", "_law_cell", "_law_scenes", "_law_way", "_law_number", "_law_scene_here", "_law_at", "_law_more", "_law_inside", "_law_outside"],["_law_book", "_law_cell"],b_law_good_change,none⟩
noncomputable abbrev d_law_is_hurt:DefT:=⟨"_law_is_hurt", top 51,["_law_come", "_law_casting"],["_law_come", "_law_casting"],b_law_is_hurt,none⟩
noncomputable abbrev d_law:DefT:=⟨"law", top 52,["_law_script", "_law_book", "_law_other", "_law_k", "_law_ahead", "_law_behind", "_law_due", "_law_found", "_law_castings", "_law_kept", "_law_hurt"],["_law_script"],b_law,none⟩
noncomputable def defs:List DefT:=[d_consists_of,d_are_unlike,d_is_name,d_number_named,d_is_new_name,d_time_between,d_change_time,d_short_change_from,d_reason_from,d_reason_of,d_clashes_of,d_have_one_player,d_are_minutes,d_is_part,d_is_scene,d_may_be_added,d_fits_scene,d_fits,d_ask_that_it_fits,d_taken_out,d_put_in,d_changed_scene,d_changed_scenes,d_changed,d_shift_of,d_is_hurt,d_hurt_by,d_law_cell_at,d_law_mix,d_law_name,d_law_minutes,d_law_part,d_law_player,d_law_scene,d_law_pairs,d_law_drawn,d_law_given,d_law_new_scene,d_law_good_change,d_law_is_hurt,d_law]
noncomputable def Tx:Txt:=⟨["LETTERS", "PARTS", "SCENES", "MOST_MINUTES"],[("consists_of":Str),("are_unlike":Str),("is_name":Str),("number_named":Str),("is_new_name":Str),("time_between":Str),("change_time":Str),("short_change_from":Str),("reason_from":Str),("reason_of":Str),("clashes_of":Str),("have_one_player":Str),("are_minutes":Str),("is_part":Str),("is_scene":Str),("may_be_added":Str),("fits_scene":Str),("fits":Str),("ask_that_it_fits":Str),("taken_out":Str),("put_in":Str),("changed_scene":Str),("changed_scenes":Str),("changed":Str),("shift_of":Str),("is_hurt":Str),("hurt_by":Str),("_law_cell_at":Str),("_law_mix":Str),("_law_name":Str),("_law_minutes":Str),("_law_part":Str),("_law_player":Str),("_law_scene":Str),("_law_pairs":Str),("_law_drawn":Str),("_law_given":Str),("_law_new_scene":Str),("_law_good_change":Str),("_law_is_hurt":Str),("law":Str)],[],[],[]⟩
theorem okB:defs.all (·.okB Tx) = true:=by decide +kernel
end K73
open PySem PySem.W PyProof.Rows
set_option maxRecDepth 100000 in
set_option maxHeartbeats 0 in
theorem PySem.Challenge.cw_troupe_k73_shifts_holds : PySem.Challenge.rw_troupe_k73_shifts.Holds := by
  refine K73.hd ?_
  k_fill
  refine Tr.walkT (l:=PySem.Challenge.rw_troupe_k73_shifts) (T:=K73.T) (Tx:=K73.Tx) (defs:=K73.defs) (i:=40) (n:=20) rfl rfl rfl rfl rfl ⟨rfl,by decide,by decide⟩ K73.law_true (fun w h Y=>PySem.W.kIn_of Y) ?X (fun _ _ _ _ _ _ _=>rfl)
  case X =>
    intro w mg h KX G
    refine' Tr.text_plain ⟨rfl,K73.okB,(Tr.all_cons (Tr.fun_in KX G ?a0 ?l0 ?c0 ?k0 ?b0) (Tr.all_cons (Tr.fun_in KX G ?a1 ?l1 ?c1 ?k1 ?b1) (Tr.all_cons (Tr.fun_in KX G ?a2 ?l2 ?c2 ?k2 ?b2) (Tr.all_cons (Tr.fun_in KX G ?a3 ?l3 ?c3 ?k3 ?b3) (Tr.all_cons (Tr.fun_in KX G ?a4 ?l4 ?c4 ?k4 ?b4) (Tr.all_cons (Tr.fun_in KX G ?a5 ?l5 ?c5 ?k5 ?b5) (Tr.all_cons (Tr.fun_in KX G ?a6 ?l6 ?c6 ?k6 ?b6) (Tr.all_cons (Tr.fun_in KX G ?a7 ?l7 ?c7 ?k7 ?b7) (Tr.all_cons (Tr.fun_in KX G ?a8 ?l8 ?c8 ?k8 ?b8) (Tr.all_cons (Tr.fun_in KX G ?a9 ?l9 ?c9 ?k9 ?b9) (Tr.all_cons (Tr.fun_in KX G ?a10 ?l10 ?c10 ?k10 ?b10) (Tr.all_cons (Tr.fun_in KX G ?a11 ?l11 ?c11 ?k11 ?b11) (Tr.all_cons (Tr.fun_in KX G ?a12 ?l12 ?c12 ?k12 ?b12) (Tr.all_cons (Tr.fun_in KX G ?a13 ?l13 ?c13 ?k13 ?b13) (Tr.all_cons (Tr.fun_in KX G ?a14 ?l14 ?c14 ?k14 ?b14) (Tr.all_cons (Tr.fun_in KX G ?a15 ?l15 ?c15 ?k15 ?b15) (Tr.all_cons (Tr.fun_in KX G ?a16 ?l16 ?c16 ?k16 ?b16) (Tr.all_cons (Tr.fun_in KX G ?a17 ?l17 ?c17 ?k17 ?b17) (Tr.all_cons (Tr.fun_in KX G ?a18 ?l18 ?c18 ?k18 ?b18) (Tr.all_cons (Tr.fun_in KX G ?a19 ?l19 ?c19 ?k19 ?b19) (Tr.all_cons (Tr.fun_in KX G ?a20 ?l20 ?c20 ?k20 ?b20) (Tr.all_cons (Tr.fun_in KX G ?a21 ?l21 ?c21 ?k21 ?b21) (Tr.all_cons (Tr.fun_in KX G ?a22 ?l22 ?c22 ?k22 ?b22) (Tr.all_cons (Tr.fun_in KX G ?a23 ?l23 ?c23 ?k23 ?b23) (Tr.all_cons (Tr.fun_in KX G ?a24 ?l24 ?c24 ?k24 ?b24) (Tr.all_cons (Tr.fun_in KX G ?a25 ?l25 ?c25 ?k25 ?b25) (Tr.all_cons (Tr.fun_in KX G ?a26 ?l26 ?c26 ?k26 ?b26) (Tr.all_cons (Tr.fun_in KX G ?a27 ?l27 ?c27 ?k27 ?b27) (Tr.all_cons (Tr.fun_in KX G ?a28 ?l28 ?c28 ?k28 ?b28) (Tr.all_cons (Tr.fun_in KX G ?a29 ?l29 ?c29 ?k29 ?b29) (Tr.all_cons (Tr.fun_in KX G ?a30 ?l30 ?c30 ?k30 ?b30) (Tr.all_cons (Tr.fun_in KX G ?a31 ?l31 ?c31 ?k31 ?b31) (Tr.all_cons (Tr.fun_in KX G ?a32 ?l32 ?c32 ?k32 ?b32) (Tr.all_cons (Tr.fun_in KX G ?a33 ?l33 ?c33 ?k33 ?b33) (Tr.all_cons (Tr.fun_in KX G ?a34 ?l34 ?c34 ?k34 ?b34) (Tr.all_cons (Tr.fun_in KX G ?a35 ?l35 ?c35 ?k35 ?b35) (Tr.all_cons (Tr.fun_in KX G ?a36 ?l36 ?c36 ?k36 ?b36) (Tr.all_cons (Tr.fun_in KX G ?a37 ?l37 ?c37 ?k37 ?b37) (Tr.all_cons (Tr.fun_in KX G ?a38 ?l38 ?c38 ?k38 ?b38) (Tr.all_cons (Tr.fun_in KX G ?a39 ?l39 ?c39 ?k39 ?b39) (Tr.all_cons (Tr.fun_in KX G ?a40 ?l40 ?c40 ?k40 ?b40) Tr.all_nil))))))))))))))))))))))))))))))))))))))))),(Tr.gl_cons (Tr.glob_str KX G ?gg0) (Tr.gl_cons (Tr.glob_int KX G ?gg1) (Tr.gl_cons (Tr.glob_int KX G ?gg2) (Tr.gl_cons (Tr.glob_int KX G ?gg3) Tr.gl_nil)))),(Tr.all_cons (Tr.blt_none KX G ?z0) (Tr.all_cons (Tr.blt_none KX G ?z1) (Tr.all_cons (Tr.blt_none KX G ?z2) (Tr.all_cons (Tr.blt_none KX G ?z3) (Tr.all_cons (Tr.blt_none KX G ?z4) (Tr.all_cons (Tr.blt_none KX G ?z5) (Tr.all_cons (Tr.blt_none KX G ?z6) (Tr.all_cons (Tr.blt_none KX G ?z7) (Tr.all_cons (Tr.blt_none KX G ?z8) (Tr.all_cons (Tr.blt_none KX G ?z9) (Tr.all_cons (Tr.blt_none KX G ?z10) (Tr.all_cons (Tr.blt_none KX G ?z11) (Tr.all_cons (Tr.blt_none KX G ?z12) (Tr.all_cons (Tr.blt_none KX G ?z13) (Tr.all_cons (Tr.blt_none KX G ?z14) (Tr.all_cons (Tr.blt_none KX G ?z15) (Tr.all_cons (Tr.blt_none KX G ?z16) (Tr.all_cons (Tr.blt_none KX G ?z17) Tr.all_nil)))))))))))))))))),Tr.all_nil,Tr.all_nil,Tr.all_nil⟩ rfl
    (case a0=>k_is);(case l0=>k_is);(case c0=>k_is);(case k0=>k_is)
    (case b0=>exact fun _ _ _ _ _ _=>Tr.len2 (fun _ _=>rfl))
    (case a1=>k_is);(case l1=>k_is);(case c1=>k_is);(case k1=>k_is)
    (case b1=>exact fun _ _ _ _ _ _=>Tr.len1 (fun _=>rfl))
    (case a2=>k_is);(case l2=>k_is);(case c2=>k_is);(case k2=>k_is)
    (case b2=>exact fun _ _ _ _ _ _=>Tr.len1 (fun _=>rfl))
    (case a3=>k_is);(case l3=>k_is);(case c3=>k_is);(case k3=>k_is)
    (case b3=>exact fun _ _ _ _ _ _=>Tr.len2 (fun _ _=>rfl))
    (case a4=>k_is);(case l4=>k_is);(case c4=>k_is);(case k4=>k_is)
    (case b4=>exact fun _ _ _ _ _ _=>Tr.len2 (fun _ _=>rfl))
    (case a5=>k_is);(case l5=>k_is);(case c5=>k_is);(case k5=>k_is)
    (case b5=>exact fun _ _ _ _ _ _=>Tr.len3 (fun _ _ _=>rfl))
    (case a6=>k_is);(case l6=>k_is);(case c6=>k_is);(case k6=>k_is)
    (case b6=>exact fun _ _ _ _ _ _=>Tr.len3 (fun _ _ _=>rfl))
    (case a7=>k_is);(case l7=>k_is);(case c7=>k_is);(case k7=>k_is)
    (case b7=>exact fun _ _ _ _ _ _=>Tr.len4 (fun _ _ _ _=>rfl))
    (case a8=>k_is);(case l8=>k_is);(case c8=>k_is);(case k8=>k_is)
    (case b8=>exact fun _ _ _ _ _ _=>Tr.len4 (fun _ _ _ _=>rfl))
    (case a9=>k_is);(case l9=>k_is);(case c9=>k_is);(case k9=>k_is)
    (case b9=>exact fun _ _ _ _ _ _=>Tr.len3 (fun _ _ _=>rfl))
    (case a10=>k_is);(case l10=>k_is);(case c10=>k_is);(case k10=>k_is)
    (case b10=>exact fun _ _ _ _ _ _=>Tr.len1 (fun _=>rfl))
    (case a11=>k_is);(case l11=>k_is);(case c11=>k_is);(case k11=>k_is)
    (case b11=>exact fun _ _ _ _ _ _=>Tr.len3 (fun _ _ _=>rfl))
    (case a12=>k_is);(case l12=>k_is);(case c12=>k_is);(case k12=>k_is)
    (case b12=>exact fun _ _ _ _ _ _=>Tr.len1 (fun _=>rfl))
    (case a13=>k_is);(case l13=>k_is);(case c13=>k_is);(case k13=>k_is)
    (case b13=>exact fun _ _ _ _ _ _=>Tr.len2 (fun _ _=>rfl))
    (case a14=>k_is);(case l14=>k_is);(case c14=>k_is);(case k14=>k_is)
    (case b14=>exact fun _ _ _ _ _ _=>Tr.len2 (fun _ _=>rfl))
    (case a15=>k_is);(case l15=>k_is);(case c15=>k_is);(case k15=>k_is)
    (case b15=>exact fun _ _ _ _ _ _=>Tr.len2 (fun _ _=>rfl))
    (case a16=>k_is);(case l16=>k_is);(case c16=>k_is);(case k16=>k_is)
    (case b16=>exact fun _ _ _ _ _ _=>Tr.len4 (fun _ _ _ _=>rfl))
    (case a17=>k_is);(case l17=>k_is);(case c17=>k_is);(case k17=>k_is)
    (case b17=>exact fun _ _ _ _ _ _=>Tr.len2 (fun _ _=>rfl))
    (case a18=>k_is);(case l18=>k_is);(case c18=>k_is);(case k18=>k_is)
    (case b18=>exact fun _ _ _ _ _ _=>Tr.len2 (fun _ _=>rfl))
    (case a19=>k_is);(case l19=>k_is);(case c19=>k_is);(case k19=>k_is)
    (case b19=>exact fun _ _ _ _ _ _=>Tr.len2 (fun _ _=>rfl))
    (case a20=>k_is);(case l20=>k_is);(case c20=>k_is);(case k20=>k_is)
    (case b20=>exact fun _ _ _ _ _ _=>Tr.len3 (fun _ _ _=>rfl))
    (case a21=>k_is);(case l21=>k_is);(case c21=>k_is);(case k21=>k_is)
    (case b21=>exact fun _ _ _ _ _ _=>Tr.len3 (fun _ _ _=>rfl))
    (case a22=>k_is);(case l22=>k_is);(case c22=>k_is);(case k22=>k_is)
    (case b22=>exact fun _ _ _ _ _ _=>Tr.len2 (fun _ _=>rfl))
    (case a23=>k_is);(case l23=>k_is);(case c23=>k_is);(case k23=>k_is)
    (case b23=>exact fun _ _ _ _ _ _=>Tr.len2 (fun _ _=>rfl))
    (case a24=>k_is);(case l24=>k_is);(case c24=>k_is);(case k24=>k_is)
    (case b24=>exact fun _ _ _ _ _ _=>Tr.len2 (fun _ _=>rfl))
    (case a25=>k_is);(case l25=>k_is);(case c25=>k_is);(case k25=>k_is)
    (case b25=>exact fun _ _ _ _ _ _=>Tr.len2 (fun _ _=>rfl))
    (case a26=>k_is);(case l26=>k_is);(case c26=>k_is);(case k26=>k_is)
    (case b26=>exact fun _ _ _ _ _ _=>Tr.len2 (fun _ _=>rfl))
    (case a27=>k_is);(case l27=>k_is);(case c27=>k_is);(case k27=>k_is)
    (case b27=>exact fun _ _ _ _ _ _=>Tr.len2 (fun _ _=>rfl))
    (case a28=>k_is);(case l28=>k_is);(case c28=>k_is);(case k28=>k_is)
    (case b28=>exact fun _ _ _ _ _ _=>Tr.len2 (fun _ _=>rfl))
    (case a29=>k_is);(case l29=>k_is);(case c29=>k_is);(case k29=>k_is)
    (case b29=>exact fun _ _ _ _ _ _=>Tr.len2 (fun _ _=>rfl))
    (case a30=>k_is);(case l30=>k_is);(case c30=>k_is);(case k30=>k_is)
    (case b30=>exact fun _ _ _ _ _ _=>Tr.len1 (fun _=>rfl))
    (case a31=>k_is);(case l31=>k_is);(case c31=>k_is);(case k31=>k_is)
    (case b31=>exact fun _ _ _ _ _ _=>Tr.len3 (fun _ _ _=>rfl))
    (case a32=>k_is);(case l32=>k_is);(case c32=>k_is);(case k32=>k_is)
    (case b32=>exact fun _ _ _ _ _ _=>Tr.len3 (fun _ _ _=>rfl))
    (case a33=>k_is);(case l33=>k_is);(case c33=>k_is);(case k33=>k_is)
    (case b33=>exact fun _ _ _ _ _ _=>Tr.len4 (fun _ _ _ _=>rfl))
    (case a34=>k_is);(case l34=>k_is);(case c34=>k_is);(case k34=>k_is)
    (case b34=>exact fun _ _ _ _ _ _=>Tr.len4 (fun _ _ _ _=>rfl))
    (case a35=>k_is);(case l35=>k_is);(case c35=>k_is);(case k35=>k_is)
    (case b35=>exact fun _ _ _ _ _ _=>Tr.len2 (fun _ _=>rfl))
    (case a36=>k_is);(case l36=>k_is);(case c36=>k_is);(case k36=>k_is)
    (case b36=>exact fun _ _ _ _ _ _=>Tr.len2 (fun _ _=>rfl))
    (case a37=>k_is);(case l37=>k_is);(case c37=>k_is);(case k37=>k_is)
    (case b37=>exact fun _ _ _ _ _ _=>Tr.len2 (fun _ _=>rfl))
    (case a38=>k_is);(case l38=>k_is);(case c38=>k_is);(case k38=>k_is)
    (case b38=>exact fun _ _ _ _ _ _=>Tr.len2 (fun _ _=>rfl))
    (case a39=>k_is);(case l39=>k_is);(case c39=>k_is);(case k39=>k_is)
    (case b39=>exact fun _ _ _ _ _ _=>Tr.len2 (fun _ _=>rfl))
    (case a40=>k_is);(case l40=>k_is);(case c40=>k_is);(case k40=>k_is)
    (case b40=>exact fun _ _ _ _ _ _=>Tr.len1 (fun _=>rfl))
    (case gg0=>k_is)
    (case gg1=>k_is)
    (case gg2=>k_is)
    (case gg3=>k_is)
    (case z0=>k_is)
    (case z1=>k_is)
    (case z2=>k_is)
    (case z3=>k_is)
    (case z4=>k_is)
    (case z5=>k_is)
    (case z6=>k_is)
    (case z7=>k_is)
    (case z8=>k_is)
    (case z9=>k_is)
    (case z10=>k_is)
    (case z11=>k_is)
    (case z12=>k_is)
    (case z13=>k_is)
    (case z14=>k_is)
    (case z15=>k_is)
    (case z16=>k_is)
    (case z17=>k_is)
