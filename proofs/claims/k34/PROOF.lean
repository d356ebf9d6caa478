import PyProof.Rows.All
import Wide.All
import OpenK.AllK
import Wide.FinOn
import Lean
import PyProof.EqAt
import PyProof.EqKinds
import PyProof.TupleCall
import PySem.Challenge.RW_troupe_k34_one_or_apart
set_option Elab.async false
set_option linter.all false
set_option maxRecDepth 100000
set_option Elab.async false
set_option linter.all false
set_option maxRecDepth 100000
namespace L2
open PySem PySem.Spec PyProof.Rows
abbrev Key := Sum Int Str
def keyIs : Key → Value → Bool
  | .inl k, v => Value.isInt k v
  | .inr x, v => Value.isStrOf x v
def keyH (w : World) : Key → Int
  | .inl k => hashInt k
  | .inr x => hashStr w x
theorem keyIs_shape : ∀ {k : Key} {v : Value}, keyIs k v = true → (∃ i t, k = Sum.inl i ∧ v = Value.int i t) ∨ (∃ x t, k = Sum.inr x ∧ v = Value.str x t)
  | .inl i, v, h => by
    obtain ⟨t, e⟩ := Value.isInt_shape (k := i) (v := v) h
    exact .inl ⟨i, t, rfl, e⟩
  | .inr x, v, h => by
    obtain ⟨t, e⟩ := Value.isStrOf_shape (x := x) (v := v) h
    exact .inr ⟨x, t, rfl, e⟩
theorem keyIs_int (i : Int) (t : Tok) : keyIs (.inl i) (.int i t) = true := by simp [keyIs, Value.isInt]
theorem keyIs_str (x : Str) (t : Tok) : keyIs (.inr x) (.str x t) = true := by simp [keyIs, Value.isStrOf]
theorem key_ll (a b : Int) : decide ((Sum.inl a : Key) = Sum.inl b) = (a == b) := by
  by_cases e : a = b
  · subst e; simp
  · have h : ¬ (Sum.inl a : Key) = Sum.inl b := fun q => e (Sum.inl.inj q)
    rw [decide_eq_false h]
    exact (beq_eq_false_iff_ne.mpr e).symm
theorem key_rr (a b : Str) : decide ((Sum.inr a : Key) = Sum.inr b) = decide (a = b) := by
  by_cases e : a = b
  · subst e; simp
  · have h : ¬ (Sum.inr a : Key) = Sum.inr b := fun q => e (Sum.inr.inj q)
    rw [decide_eq_false h, decide_eq_false e]
theorem key_lr (a : Int) (b : Str) : decide ((Sum.inl a : Key) = Sum.inr b) = false := decide_eq_false (fun q => nomatch q)
theorem key_rl (a : Str) (b : Int) : decide ((Sum.inr a : Key) = Sum.inl b) = false := decide_eq_false (fun q => nomatch q)
def mixKind (prog : Program) (w : World) : PySem.KeyKind prog w Key where
  is := keyIs
  hash := keyH w
  inj := fun v a b ha hb => by
    rcases keyIs_shape ha with ⟨i, t, rfl, rfl⟩ | ⟨x, t, rfl, rfl⟩
    · rcases keyIs_shape hb with ⟨j, u, rfl, e⟩ | ⟨y, u, rfl, e⟩
      · injection e with e1 _; rw [e1]
      · exact nomatch e
    · rcases keyIs_shape hb with ⟨j, u, rfl, e⟩ | ⟨y, u, rfl, e⟩
      · exact nomatch e
      · injection e with e1 _; rw [e1]
  byValue := fun k v h => by
    rcases keyIs_shape h with ⟨i, t, rfl, rfl⟩ | ⟨x, t, rfl, rfl⟩ <;> rfl
  pyHash := fun hv h => by
    rcases keyIs_shape hv with ⟨i, t, rfl, rfl⟩ | ⟨x, t, rfl, rfl⟩
    · exact wpAny_pyHash_int h
    · exact wpAny_pyHash_str h
  eqBool := fun hu hv h => by
    rcases keyIs_shape hu with ⟨i, t, rfl, rfl⟩ | ⟨x, t, rfl, rfl⟩
    · rcases keyIs_shape hv with ⟨j, u, rfl, rfl⟩ | ⟨y, u, rfl, rfl⟩
      · rw [key_ll] at h; exact wpAny_eqBool_int h
      · rw [key_lr] at h; exact SeqAt.EqAt.int_str i t y u _ _ _ _ h
    · rcases keyIs_shape hv with ⟨j, u, rfl, rfl⟩ | ⟨y, u, rfl, rfl⟩
      · rw [key_rl] at h; exact SeqAt.EqAt.str_int x t j u _ _ _ _ h
      · rw [key_rr] at h; exact wpAny_eqBool_str h
  «strs» := fun k x t v h => by
    rcases keyIs_shape h with ⟨i, u, rfl, e⟩ | ⟨y, u, rfl, e⟩
    · exact nomatch e
    · injection e with e1 _
      subst e1
      cases v <;> rfl
theorem mixKind_int (prog : Program) (w : World) (i : Int) (t : Tok) : (mixKind prog w).is (.inl i) (.int i t) = true := keyIs_int i t
theorem mixKind_str (prog : Program) (w : World) (x : Str) (t : Tok) : (mixKind prog w).is (.inr x) (.str x t) = true := keyIs_str x t
end L2
namespace L2
open PySem PySem.Spec PyProof.Rows
inductive V where
  | non | bl (b : Bool) | int (i : Int) | str (x : Str) | byt (b : Array UInt8) | flt (b : UInt64) | ref (a : Addr) | ty (n : String)
  deriving DecidableEq
def RelV : V → Value → Prop
  | .non, u => u = Value.none
  | .bl b, u => u = Value.bool b
  | .int i, u => ∃ t, u = Value.int i t
  | .str x, u => ∃ t, u = Value.str x t
  | .byt b, u => ∃ t, u = Value.bytes b t
  | .flt b, u => ∃ t, u = Value.float b t
  | .ref a, u => u = Value.ref a
  | .ty n, u => u = Value.type n
abbrev Vals : List V → List Value → Prop := Paired RelV
theorem Vals.length {xs : List V} {us : List Value} (r : Vals xs us) : xs.length = us.length := Paired.length r
theorem Vals.get : ∀ {xs : List V} {us : List Value} {i : Nat} {x : V}, Vals xs us → xs[i]? = some x → ∃ u, us[i]? = some u ∧ RelV x u
  | _, _, _, _, .nil, e => by simp at e
  | _, _, 0, _, .cons r _, e => by simp at e; subst e; exact ⟨_, rfl, r⟩
  | _, _, i + 1, x, .cons _ t, e => by
    obtain ⟨u, h1, h2⟩ := Vals.get (i := i) (x := x) t (by simpa using e)
    exact ⟨u, by simpa using h1, h2⟩
theorem Vals.set {x : V} {u : Value} (r : RelV x u) : ∀ {xs : List V} {us : List Value} (i : Nat), Vals xs us → Vals (xs.set i x) (us.set i u)
  | _, _, _, .nil => .nil
  | _, _, 0, .cons _ t => .cons r t
  | _, _, i + 1, .cons q t => .cons q (Vals.set r i t)
theorem Vals.append : ∀ {xs ys : List V} {us ws : List Value}, Vals xs us → Vals ys ws → Vals (xs ++ ys) (us ++ ws)
  | _, _, _, _, .nil, s => s
  | _, _, _, _, .cons r t, s => .cons r (Vals.append t s)
theorem Vals.take : ∀ {xs : List V} {us : List Value} (n : Nat), Vals xs us → Vals (xs.take n) (us.take n)
  | _, _, 0, _ => .nil
  | _, _, _ + 1, .nil => .nil
  | _, _, n + 1, .cons r t => .cons r (Vals.take n t)
theorem Vals.drop : ∀ {xs : List V} {us : List Value} (n : Nat), Vals xs us → Vals (xs.drop n) (us.drop n)
  | _, _, 0, r => r
  | _, _, _ + 1, .nil => .nil
  | _, _, n + 1, .cons _ t => Vals.drop n t
def RelO : Option V → Option Value → Prop
  | some v, some u => RelV v u
  | none, none => True
  | _, _ => False
def KV {κ : Type} : List (κ × V) → List (κ × Value) → Prop := Paired fun (p : κ × V) (q : κ × Value) => p.1 = q.1 ∧ RelV p.2 q.2
def kV : Key → V
  | .inl i => .int i
  | .inr x => .str x
inductive HO where
  | lst (xs : List V)
  | tup (xs : List V)
  | dK (kvs : List (Key × V)) | dT (kvs : List (List Key × V))
  | set (S : Int → Bool) (n : Nat)
  | ins (C dx : Addr) (fs : List (Str × V))
  | own (x : Addr)
  | xd (fs : List (Str × V))
  | met (f x : Addr)
  | rng (lo hi : Int)
  | frz (o : Obj) (u : HO)
  | tbl (ps : Array Value)
  | ext (φ : Heap → Prop)
abbrev Hp := Addr → Option HO
def upd (H : Hp) (a : Addr) (o : HO) : Hp := fun b => if b = a then some o else H b
theorem upd_same {H : Hp} {a : Addr} {o : HO} : upd H a o a = some o := by unfold upd; rw [if_pos rfl]
theorem upd_ne {H : Hp} {a b : Addr} {o : HO} (h : b ≠ a) : upd H a o b = H b := by unfold upd; rw [if_neg h]
theorem ne_of {H : Hp} {a b : Addr} {o u : HO} (h : H a = some o) (h' : H b = some u) (d : o ≠ u) : a ≠ b := by
  intro e; subst e; rw [h] at h'; exact d (Option.some.inj h')
theorem ne_of_none {H : Hp} {a b : Addr} {o : HO} (h : H a = some o) (h' : H b = none) : a ≠ b := by
  intro e; subst e; rw [h] at h'; cases h'
section
variable (P : Program) (w : World)
def ObjOk (H : Hp) (h : Heap) (a : Addr) : HO → Prop
  | .lst xs => xs.length ≤ sizeLine ∧ ∃ (its : List Value) (n : Nat), Vals xs its ∧ h.get? a = some { cls := .type "list", data := .seq its.toArray n }
  | .tup xs => xs.length ≤ sizeLine ∧ ∃ its : List Value, Vals xs its ∧ IsTup h a its.toArray
  | .dK kvs => kvs.length ≤ sizeLine ∧ (a == sysModules) = false ∧ ∃ vs, KV kvs vs ∧ h.DictOf (mixKind P w) a vs
  | .dT kvs => kvs.length ≤ sizeLine ∧ (a == sysModules) = false ∧ ∃ xs : List (List Key × Addr × Value),
      Paired (fun (p : List Key × V) (q : List Key × Addr × Value) => p.1 = q.1 ∧ H q.2.1 = some (.tup (p.1.map kV)) ∧ RelV p.2 q.2.2) kvs xs ∧
      ∃ o es ep, h.get? a = some o ∧ o.ExactDict ∧ o.data = .dict es ep ∧ es.toList = xs.map (entryOfKey (tupleKind (mixKind P w))) ∧ (xs.map (·.1)).Nodup
  | .set S n => h.SetOf (intKind P w) a S n
  | .ins C dx fs => H dx = some (.own a) ∧ fs.length ≤ 1000 ∧ dx ≠ a ∧ h.get? a = some (PySem.W.instObj C dx) ∧
      ∃ mA, h.Ns1 dx mA ∧ (∀ f, RelO (fs.lookup f) (mA f)) ∧ PySem.Within mA (fs.map (·.1))
  | .own _ => ∃ o, h.get? a = some o
  | .xd fs => ∃ mA, h.Ns1 a mA ∧ ∀ f, RelO (fs.lookup f) (mA f)
  | .rng lo hi => ∃ t u v, h.get? a = some { cls := .type "range", data := .fields #[.int lo t, .int hi u, .int 1 v] }
  | .frz o u => h.get? a = some o ∧ ObjOk H h a u
  | .tbl ps => h.get? a = some { cls := .none, data := .fields ps }
  | .met f x => h.get? a = some (PySem.W.methodObj (.ref f) (.ref x))
  | .ext φ => φ h ∧ (∃ o, h.get? a = some o) ∧ ∀ h1 h2 : Heap, φ h1 → (∀ o, h1.get? a = some o → h2.get? a = some o) → φ h2
def HOk (H : Hp) (h : Heap) : Prop := ∀ a o, H a = some o → ObjOk P w H h a o
end
section
variable {P : Program} {w : World} {H H' : Hp} {h h' : Heap} {a : Addr} {o : HO}
theorem ObjOk.lt (x : ObjOk P w H h a o) : a < h.objs.size := by
  cases o with
  | lst xs => obtain ⟨_, _, _, _, e⟩ := x; exact Heap.lt_size e
  | tup xs => obtain ⟨_, _, _, p⟩ := x; exact p.lt
  | dK kvs => obtain ⟨_, _, _, _, o, _, _, e, _⟩ := x; exact Heap.lt_size e
  | dT kvs => obtain ⟨_, _, _, _, o, _, _, e, _⟩ := x; exact Heap.lt_size e
  | set S n => obtain ⟨o, _, _, _, e, _⟩ := x; exact Heap.lt_size e
  | ins C dx fs => obtain ⟨_, _, _, e, _⟩ := x; exact Heap.lt_size e
  | own y => obtain ⟨_, e⟩ := x; exact Heap.lt_size e
  | xd fs => obtain ⟨_, ⟨_, _, _, e, _⟩, _⟩ := x; exact Heap.lt_size e
  | rng lo hi => obtain ⟨_, _, _, e⟩ := x; exact Heap.lt_size e
  | frz ob u => obtain ⟨e, _⟩ := x; exact Heap.lt_size e
  | tbl ps => exact Heap.lt_size (show h.get? a = some _ from x)
  | met f y => exact Heap.lt_size (show h.get? a = some _ from x)
  | ext φ => obtain ⟨_, ⟨_, e⟩, _⟩ := x; exact Heap.lt_size e
theorem Paired.mapP {α β : Type} {F G : α → β → Prop} : ∀ {l₁ : List α} {l₂ : List β}, Paired F l₁ l₂ → (∀ a b, F a b → G a b) → Paired G l₁ l₂
  | _, _, .nil, _ => .nil
  | _, _, .cons r t, f => .cons (f _ _ r) (Paired.mapP t f)
theorem ObjOk.stay (x : ObjOk P w H h a o) (k : ∀ b u, (b = a ∨ H b = some (.own a)) → h.get? b = some u → h'.get? b = some u)
    (ho : ∀ b, H b = some (.own a) → H' b = some (.own a)) (ht : ∀ b xs, H b = some (.tup xs) → H' b = some (.tup xs)) : ObjOk P w H' h' a o := by
  induction o with
  | lst xs => obtain ⟨z, its, n, r, e⟩ := x; exact ⟨z, its, n, r, k _ _ (.inl rfl) e⟩
  | tup xs => obtain ⟨z, its, r, ob, e, c⟩ := x; exact ⟨z, its, r, ob, k _ _ (.inl rfl) e, c⟩
  | dK kvs => obtain ⟨z, y, vs, r, ob, es, ep, e, c⟩ := x; exact ⟨z, y, vs, r, ob, es, ep, k _ _ (.inl rfl) e, c⟩
  | dT kvs =>
    obtain ⟨z, y, xs, r, ob, es, ep, e, c⟩ := x
    exact ⟨z, y, xs, Paired.mapP r fun p q z => ⟨z.1, ht _ _ z.2.1, z.2.2⟩, ob, es, ep, k _ _ (.inl rfl) e, c⟩
  | set S n => obtain ⟨ob, es, ep, t, e, c⟩ := x; exact ⟨ob, es, ep, t, k _ _ (.inl rfl) e, c⟩
  | ins C dx fs =>
    obtain ⟨d, z, ne, e, mA, ⟨od, es, ep, e2, c⟩, r⟩ := x
    exact ⟨ho _ d, z, ne, k _ _ (.inl rfl) e, mA, ⟨od, es, ep, k _ _ (.inr d) e2, c⟩, r⟩
  | own y => obtain ⟨ob, e⟩ := x; exact ⟨ob, k _ _ (.inl rfl) e⟩
  | xd fs => obtain ⟨mA, ⟨od, es, ep, e, c⟩, r⟩ := x; exact ⟨mA, ⟨od, es, ep, k _ _ (.inl rfl) e, c⟩, r⟩
  | rng lo hi => obtain ⟨t, u, v, e⟩ := x; exact ⟨t, u, v, k _ _ (.inl rfl) e⟩
  | frz ob u ih => obtain ⟨e, q⟩ := x; exact ⟨k _ _ (.inl rfl) e, ih q⟩
  | tbl ps =>
    have e : h.get? a = some { cls := .none, data := .fields ps } := x
    show h'.get? a = some { cls := .none, data := .fields ps }
    exact k a _ (.inl rfl) e
  | met f y =>
    have e : h.get? a = some (PySem.W.methodObj (.ref f) (.ref y)) := x
    show h'.get? a = some (PySem.W.methodObj (.ref f) (.ref y))
    exact k a _ (.inl rfl) e
  | ext φ => obtain ⟨p, ⟨o, e⟩, st⟩ := x; exact ⟨st _ _ p fun o q => k _ _ (.inl rfl) q, ⟨o, k _ _ (.inl rfl) e⟩, st⟩
theorem HOk.lt (x : HOk P w H h) (e : H a = some o) : a < h.objs.size := (x a o e).lt
theorem HOk.fresh (x : HOk P w H h) (e : h.objs.size ≤ a) : H a = none := by
  cases q : H a with
  | none => rfl
  | some u => exact absurd (Nat.lt_of_lt_of_le (x.lt q) e) (Nat.lt_irrefl _)
theorem HOk.kept (x : HOk P w H h) (k : ∀ b u, h.get? b = some u → h'.get? b = some u) : HOk P w H h' := fun a o e =>
  (x a o e).stay (fun b u _ q => k b u q) (fun _ q => q) fun _ _ q => q
theorem HOk.laid (x : HOk P w H h) (k : ∀ b u, h.get? b = some u → h'.get? b = some u) (hp : h.objs.size ≤ a) (new : ObjOk P w (upd H a o) h' a o) : HOk P w (upd H a o) h' := fun b u e => by
  have hn := x.fresh hp
  by_cases hb : b = a
  · subst hb; rw [upd_same] at e; cases e; exact new
  · rw [upd_ne hb] at e
    exact (x b u e).stay (fun c v _ q => k c v q) (fun c q => by rw [upd_ne (ne_of_none q hn)]; exact q) fun c xs q => by rw [upd_ne (ne_of_none q hn)]; exact q
end
def Rd (H : Hp) (a : Addr) (u : HO) : Prop := H a = some u ∨ ∃ o, H a = some (.frz o u)
theorem Rd.ok {P : Program} {w : World} {H : Hp} {h : Heap} {a : Addr} {u : HO} (r : Rd H a u) (x : HOk P w H h) : ObjOk P w H h a u := by
  rcases r with r | ⟨o, r⟩
  · exact x a u r
  · obtain ⟨_, q⟩ := x a _ r
    exact q
def Mut : Option HO → Prop
  | some (.lst _) => True
  | some (.dK _) => True
  | some (.dT _) => True
  | some (.set _ _) => True
  | some (.ins _ _ _) => True
  | some (.ext _) => True
  | _ => False
section
variable {P : Program} {w : World} {H : Hp} {h h' : Heap} {x e : Addr} {o' : HO}
theorem HOk.write (ok : HOk P w H h) (mu : Mut (H x)) (he : e = x ∨ H e = some (.own x)) (k : ∀ b u, b ≠ e → h.get? b = some u → h'.get? b = some u) (heo : ∃ u, h'.get? e = some u)
    (new : ObjOk P w (upd H x o') h' x o') : HOk P w (upd H x o') h' := fun b u q => by
  have nown : ∀ c y, H c = some (.own y) → c ≠ x := fun c y r z => by subst z; rw [r] at mu; exact mu
  have ntup : ∀ c xs, H c = some (.tup xs) → c ≠ x := fun c xs r z => by subst z; rw [r] at mu; exact mu
  by_cases hb : b = x
  · subst hb; rw [upd_same] at q; cases q; exact new
  · rw [upd_ne hb] at q
    by_cases hbe : b = e
    · have q' : H b = some (.own x) := by
        rcases he with z | z
        · exact absurd (hbe.trans z) hb
        · rw [hbe]; exact z
      rw [q] at q'; cases q'
      obtain ⟨v, hv⟩ := heo
      exact ⟨v, by rw [hbe]; exact hv⟩
    · refine (ok b u q).stay (fun c v hc r => k c v ?_ r) (fun c r => by rw [upd_ne (nown c b r)]; exact r) fun c xs r => by rw [upd_ne (ntup c xs r)]; exact r
      rcases hc with rfl | hc
      · exact hbe
      · rintro rfl
        rcases he with z | z
        · exact nown c b hc z
        · rw [hc] at z; cases z; exact hb rfl
end
structure Un (fs ex : List Addr) (H H' : Hp) (h h' : Heap) : Prop where
  keep : ∀ b o, h.get? b = some o → H b = none → b ∉ fs → b ∉ ex → h'.get? b = some o
  slot : ∀ b o, h.get? b = some o → H b = none → b ∈ fs → b ∉ ex → ∃ sl, h'.get? b = some { o with slots := sl }
  free : ∀ b o, h.get? b = some o → H b = none → b ∉ ex → H' b = none
  there : ∀ b o, h.get? b = some o → b ∉ ex → ∃ o', h'.get? b = some o'
  tups : ∀ b xs, H b = some (.tup xs) → H' b = some (.tup xs)
  frzs : ∀ b o u, H b = some (.frz o u) → H' b = some (.frz o u)
  tbls : ∀ b ps, H b = some (.tbl ps) → ∃ more, H' b = some (.tbl (ps ++ more))
section
variable {fs fs' ex ex' : List Addr} {H H1 H2 : Hp} {h h1 h2 h' : Heap} {a x e : Addr} {o : HO}
theorem Un.any (u : Un fs ex H H1 h h1) {b : Addr} {ob : Obj} (q : h.get? b = some ob) (n : H b = none) (hx : b ∉ ex) : ∃ sl, h1.get? b = some { ob with slots := sl } := by
  by_cases hb : b ∈ fs
  · exact u.slot b ob q n hb hx
  · exact ⟨ob.slots, u.keep b ob q n hb hx⟩
theorem Un.kept (k : ∀ b u, h.get? b = some u → h'.get? b = some u) : Un fs ex H H h h' :=
  ⟨fun b ob q _ _ _ => k b ob q, fun b ob q _ _ _ => ⟨ob.slots, k b ob q⟩, fun _ _ _ n _ => n, fun b ob q _ => ⟨ob, k b ob q⟩, fun _ _ q => q, fun _ _ _ q => q, fun _ ps q => ⟨#[], by rw [q]; simp⟩⟩
theorem Un.refl : Un fs ex H H h h := Un.kept fun _ _ q => q
theorem Un.laid (k : ∀ b u, h.get? b = some u → h'.get? b = some u) (hp : h.objs.size ≤ a) (hn : H a = none) : Un fs ex H (upd H a o) h h' where
  keep := fun b u q _ _ _ => k b u q
  slot := fun b u q _ _ _ => ⟨u.slots, k b u q⟩
  free := fun b u q n _ => by rw [upd_ne (Nat.ne_of_lt (Nat.lt_of_lt_of_le (Heap.lt_size q) hp))]; exact n
  there := fun b u q _ => ⟨u, k b u q⟩
  tups := fun b xs q => by rw [upd_ne (ne_of_none q hn)]; exact q
  frzs := fun b u xs q => by rw [upd_ne (ne_of_none q hn)]; exact q
  tbls := fun b ps q => ⟨#[], by rw [upd_ne (ne_of_none q hn), q]; simp⟩
theorem Un.write (mu : Mut (H x)) (he : e = x ∨ H e = some (.own x)) (k : ∀ b u, b ≠ e → h.get? b = some u → h'.get? b = some u) (heo : ∃ u, h'.get? e = some u) : Un fs ex H (upd H x o) h h' := by
  have hx : ∀ b, H b = none → b ≠ x := fun b n z => by subst z; rw [n] at mu; exact mu
  have hb : ∀ b, H b = none → b ≠ e := fun b n z => by
    subst z
    rcases he with r | r
    · exact hx b n r
    · rw [n] at r; cases r
  have hm : ∀ b u, H b = some u → ¬ Mut (some u) → b ≠ x := fun b u q nm z => by subst z; rw [q] at mu; exact nm mu
  refine ⟨fun b u q n _ _ => k b u (hb b n) q, fun b u q n _ _ => ⟨u.slots, k b u (hb b n) q⟩, fun b u q n _ => by rw [upd_ne (hx b n)]; exact n, fun b u q _ => ?_,
    fun b xs q => by rw [upd_ne (hm b _ q fun z => z)]; exact q, fun b u xs q => by rw [upd_ne (hm b _ q fun z => z)]; exact q, fun b ps q => ⟨#[], by rw [upd_ne (hm b _ q fun z => z), q]; simp⟩⟩
  by_cases hbe : b = e
  · subst hbe; exact heo
  · exact ⟨u, k b u hbe q⟩
end
def trk (h : Heap) (H : Hp) : List Addr := (List.range h.objs.size).filter fun a => (H a).isSome
def hidT (h : Heap) (H : Hp) : Heap := PySem.W.hideAll h (trk h H)
theorem hidT_size (h : Heap) (H : Hp) : (hidT h H).objs.size = h.objs.size := PySem.W.hideAll_size _ _
theorem hidT_get {h : Heap} {H : Hp} {b : Addr} {o : Obj} (e : h.get? b = some o) (n : H b = none) : (hidT h H).get? b = some o :=
  PySem.W.hideAll_get _ e fun hm => by
    have q : (H b).isSome = true := (List.mem_filter.mp hm).2
    rw [n] at q; simp at q
theorem of_hidT {h : Heap} {H : Hp} {b : Addr} {o : Obj} (e : (hidT h H).get? b = some o) : h.get? b = some o ∧ H b = none := by
  have e' : h.get? b = some o := PySem.W.of_hideAll (trk h H) e
  refine ⟨e', ?_⟩
  cases q : H b with
  | none => rfl
  | some x =>
    have hm : b ∈ trk h H := List.mem_filter.mpr ⟨List.mem_range.mpr (Heap.lt_size e'), by simp [q]⟩
    have z : (hidT h H).get? b = none := PySem.W.hideAll_none (trk h H) hm
    rw [z] at e; cases e
end L2
namespace L2
open PySem PySem.Spec PyProof.Rows
structure Mod (K : PySem.W.Frag) (mg : Str → Option Value) (base : Heap) : Prop where
  kin : K.In base
  glob : base.Ns mainGlobals mg
  blt : ∃ mb, base.Ns builtinsNs mb ∧ ∀ x : Str, x ≠ "__name__" → mb x = bootBuiltins x
  nolimit : base.NoLimit
structure Cx where
  prog : Program
  w : World
  K : PySem.W.Frag
  mg : Str → Option Value
  base : Heap
  A : Around
  N : List Str
  s₀ : Shared
  H₀ : Hp
  env : Env
  outer : List Env
  stack : List Env
  ex : List Addr
  fn : Str → Bool
  calm : Bool
  pn : List (Addr × Obj)
  xe : Value → Shared → Prop
def frs (l : List Env) : List Addr := l.filterMap (·.frame)
abbrev Cx.fs (X : Cx) : List Addr := frs X.outer
def Vis (sc : Scope) (x : Str) : Prop := sc.names.lookup x = some .local ∨ sc.names.lookup x = some .cell ∨ sc.names.lookup x = some .free
def Loc (sc : Scope) (x : Str) : Prop := sc.names.lookup x = some .local ∨ sc.names.lookup x = some .cell
def Look (env : Env) (h : Heap) (m : Str → Option Value) (x : Str) (u : Value) : Prop :=
  (env.kindOf x = some .local ∧ m x = some u) ∨ ((env.kindOf x = some .cell ∨ env.kindOf x = some .free) ∧ ∃ c, env.cells.lookup x = some c ∧ h.IsCell c (some u))
structure Cx.Ok (X : Cx) : Prop where
  mod : Mod X.K X.mg X.base
  kind : X.env.scope.kind = .function
  glob : X.env.globals = mainGlobals
  blt : X.env.builtins = builtinsNs
  above : X.s₀.heap.objs.size ≤ X.env.locals
  inj : ∀ x y c, X.env.cells.lookup x = some c → X.env.cells.lookup y = some c → x = y
  has : ∀ x, (X.env.kindOf x = some .cell ∨ X.env.kindOf x = some .free) → ∃ c, X.env.cells.lookup x = some c
  cab : ∀ x c, X.fn x = true → X.env.cells.lookup x = some c → X.s₀.heap.objs.size ≤ c
  hd : X.calm = true → X.A.handled = none
  frames : X.A.frames = some X.stack
  stk : X.stack = X.outer ∨ (X.stack = X.env :: X.outer ∧ X.env.frame = some X.env.locals)
  exf : ∀ b ∈ X.ex, b ≠ X.env.locals ∧ ∀ x c, X.env.cells.lookup x = some c → c ≠ b
  bs : ∀ b o, X.base.get? b = some o → X.s₀.heap.get? b = some o ∧ X.H₀ b = none
  bsz : X.base.objs.size ≤ X.s₀.heap.objs.size
  noex : ∀ b o, X.base.get? b = some o → b ∉ X.ex
  exfs : ∀ b ∈ X.ex, b ∉ X.fs
  funs : X.s₀.heap.FunFrames X.base X.outer
  frf : ∀ b ∈ X.fs, X.H₀ b = none
structure Inv (X : Cx) (pins : List (Addr × Obj)) (σ : List (Option V)) (H : Hp) (s : Shared) : Prop where
  ok : X.Ok
  os : s.os = X.s₀.os
  bare : AllBare s.gens
  base : Un X.fs X.ex X.H₀ H X.s₀.heap s.heap
  loc : ∃ m, s.heap.Ns X.env.locals m ∧ ∀ (i : Nat) (x : Str) (v : V), X.N[i]? = some x → σ[i]? = some (some v) → Vis X.env.scope x → ∃ u, RelV v u ∧ Look X.env s.heap m x u
  cell : ∀ x c, X.env.cells.lookup x = some c → ∃ v, s.heap.IsCell c v
  free : H X.env.locals = none
  freeC : ∀ x c, X.env.cells.lookup x = some c → H c = none
  pin : ∀ p ∈ X.pn ++ pins, s.heap.get? p.1 = some p.2 ∧ H p.1 = none ∧ p.1 ≠ X.env.locals ∧ p.1 ∉ X.fs ∧ ∀ v, p.2.data ≠ .cell v
  hok : HOk X.prog X.w H s.heap
  len : σ.length = X.N.length
section
variable {X : Cx} {pins : List (Addr × Obj)} {σ : List (Option V)} {H H' : Hp} {s : Shared} {h' : Heap}
theorem Cx.Ok.nofr (ok : X.Ok) {b : Addr} {o : Obj} (e : X.base.get? b = some o) : b ∉ X.fs := fun hb => by
  have := (ok.funs.mem hb).1
  rw [e] at this; cases this
theorem Inv.bs (I : Inv X pins σ H s) : ∀ b o, X.base.get? b = some o → s.heap.get? b = some o ∧ H b = none := fun b o e =>
  ⟨I.base.keep b o (I.ok.bs b o e).1 (I.ok.bs b o e).2 (I.ok.nofr e) (I.ok.noex b o e), I.base.free b o (I.ok.bs b o e).1 (I.ok.bs b o e).2 (I.ok.noex b o e)⟩
theorem Inv.bk (I : Inv X pins σ H s) : ∀ b o, X.base.get? b = some o → s.heap.get? b = some o := fun b o e => (I.bs b o e).1
theorem Inv.mod (I : Inv X pins σ H s) : Mod X.K X.mg X.base := I.ok.mod
theorem Inv.kIn (I : Inv X pins σ H s) : X.K.In s.heap := I.ok.mod.kin.keeps I.bk
theorem Inv.lt (I : Inv X pins σ H s) : X.env.locals < s.heap.objs.size := let ⟨_, hn, _⟩ := I.loc; hn.lt
theorem Inv.sz (I : Inv X pins σ H s) : X.s₀.heap.objs.size ≤ s.heap.objs.size := Nat.le_trans I.ok.above (Nat.le_of_lt I.lt)
theorem Inv.nofs (I : Inv X pins σ H s) {a : Addr} (h : s.heap.objs.size ≤ a) : a ∉ X.fs := fun hb => by
  obtain ⟨_, o, ho, _⟩ := I.ok.funs.mem hb
  exact absurd (Nat.lt_of_lt_of_le (Heap.lt_size ho) (Nat.le_trans I.sz h)) (Nat.lt_irrefl _)
theorem Inv.cne (I : Inv X pins σ H s) : ∀ x c, X.env.cells.lookup x = some c → c ≠ X.env.locals := fun x c e z => by
  obtain ⟨v, o, ho, hd⟩ := I.cell x c e
  obtain ⟨m, ⟨o', es, ep, ho', hd', _⟩, _⟩ := I.loc
  rw [z, ho'] at ho; cases ho; rw [hd'] at hd; cases hd
theorem Inv.funs (I : Inv X pins σ H s) : s.heap.FunFrames X.base X.outer := by
  have all : ∀ (l : List Env), (∀ b ∈ frs l, b ∈ X.fs) → X.s₀.heap.FunFrames X.base l → s.heap.FunFrames X.base l := by
    intro l
    induction l with
    | nil => intro _ _; trivial
    | cons env r ih =>
      intro hs hl
      obtain ⟨hk, ⟨L, o, hf, hn, ho, hd⟩, hr⟩ := hl
      have hL : L ∈ X.fs := hs L (by unfold frs; rw [List.filterMap_cons, hf]; exact List.mem_cons_self)
      obtain ⟨sl, e⟩ := I.base.slot L o ho (I.ok.frf L hL) hL fun z => I.ok.exfs L z hL
      exact ⟨hk, ⟨L, _, hf, hn, e, hd⟩, ih (fun b hb => hs b (by unfold frs; rw [List.filterMap_cons, hf]; exact List.mem_cons_of_mem _ hb)) hr⟩
  exact all X.outer (fun _ hb => hb) I.ok.funs
theorem Inv.stack (I : Inv X pins σ H s) : s.heap.FunFrames X.base X.stack := by
  rcases I.ok.stk with e | ⟨e, hf⟩
  · rw [e]; exact I.funs
  · rw [e]
    obtain ⟨m, hn, _⟩ := I.loc
    refine .cons (by rw [I.ok.kind]; decide) hf hn ?_ I.funs
    exact Heap.get?_none_of_le (Nat.le_trans I.ok.bsz I.ok.above)
theorem Inv.stkSub (I : Inv X pins σ H s) : ∀ b ∈ frs X.stack, b ∈ X.env.locals :: X.fs := fun b hb => by
  rcases I.ok.stk with e | ⟨e, hf⟩
  · rw [e] at hb; exact List.mem_cons_of_mem _ hb
  · rw [e] at hb
    unfold frs at hb
    rw [List.filterMap_cons, hf] at hb
    exact hb
theorem Inv.stkFree (I : Inv X pins σ H s) : ∀ b ∈ frs X.stack, H b = none := fun b hb => by
  rcases List.mem_cons.mp (I.stkSub b hb) with e | hb
  · rw [e]; exact I.free
  · obtain ⟨_, o, ho, _⟩ := I.ok.funs.mem hb
    exact I.base.free b o ho (I.ok.frf b hb) fun z => I.ok.exfs b z hb
theorem Inv.step {g' : Array GenState} {t' : Nat} {d' : Drawn} {ch : List Addr} (I : Inv X pins σ H s)
    (hch : ∀ b ∈ ch, (b ∈ X.ex ∨ X.s₀.heap.objs.size ≤ b) ∧ b ≠ X.env.locals ∧ (∀ x c, X.env.cells.lookup x = some c → c ≠ b) ∧ ∀ p ∈ X.pn ++ pins, p.1 ≠ b)
    (keep : ∀ b o, b ≠ X.env.locals → b ∉ X.fs → b ∉ ch → s.heap.get? b = some o → H b = none → h'.get? b = some o)
    (slot : ∀ b o, b ≠ X.env.locals → b ∈ X.fs → b ∉ ch → s.heap.get? b = some o → H b = none → ∃ sl, h'.get? b = some { o with slots := sl }) (free : ∀ b o, b ∉ ch → s.heap.get? b = some o → H b = none → H' b = none)
    (there : ∀ b o, b ∉ ch → s.heap.get? b = some o → ∃ o', h'.get? b = some o')
    (tups : ∀ b xs, H b = some (.tup xs) → H' b = some (.tup xs)) (frzs : ∀ b o u, H b = some (.frz o u) → H' b = some (.frz o u)) (tbls : ∀ b ps, H b = some (.tbl ps) → ∃ more, H' b = some (.tbl (ps ++ more)))
    (ns : ∀ m, s.heap.Ns X.env.locals m → h'.Ns X.env.locals m) (hok : HOk X.prog X.w H' h') (hg : AllBare g') :
    Inv X pins σ H' { s with heap := h', gens := g', drawn := d', toks := t' } := by
  have neL : ∀ b o, X.s₀.heap.get? b = some o → b ≠ X.env.locals := fun b o e => Nat.ne_of_lt (Nat.lt_of_lt_of_le (Heap.lt_size e) I.ok.above)
  have neC : ∀ b o, X.s₀.heap.get? b = some o → b ∉ X.ex → b ∉ ch := fun b o e hx hb => by
    rcases (hch b hb).1 with z | z
    · exact hx z
    · exact absurd (Nat.lt_of_lt_of_le (Heap.lt_size e) z) (Nat.lt_irrefl _)
  have cellK : ∀ x c, X.env.cells.lookup x = some c → ∀ v, s.heap.IsCell c v → h'.IsCell c v := fun x c e v ⟨o, ho, hd⟩ => by
    have nch : c ∉ ch := fun z => (hch c z).2.2.1 x c e rfl
    by_cases hc : c ∈ X.fs
    · obtain ⟨sl, q⟩ := slot c o (I.cne x c e) hc nch ho (I.freeC x c e)
      exact ⟨_, q, hd⟩
    · exact ⟨o, keep c o (I.cne x c e) hc nch ho (I.freeC x c e), hd⟩
  refine ⟨I.ok, I.os, hg, ⟨fun b o e n hb hx => ?_, fun b o e n hb hx => ?_, fun b o e n hx => ?_, fun b o e hx => ?_, fun b xs e => tups b xs (I.base.tups b xs e), fun b o xs e => frzs b o xs (I.base.frzs b o xs e), fun b ps e => ?_⟩, ?_, fun x c e => ?_, ?_, fun x c e => ?_, fun p hp => ?_, hok, I.len⟩
  · exact keep b o (neL b o e) hb (neC b o e hx) (I.base.keep b o e n hb hx) (I.base.free b o e n hx)
  · obtain ⟨sl, e1⟩ := I.base.slot b o e n hb hx
    obtain ⟨sl', e2⟩ := slot b _ (neL b o e) hb (neC b o e hx) e1 (I.base.free b o e n hx)
    exact ⟨sl', e2⟩
  · obtain ⟨o', e1⟩ := I.base.there b o e hx
    exact free b o' (neC b o e hx) e1 (I.base.free b o e n hx)
  · obtain ⟨o', e1⟩ := I.base.there b o e hx
    exact there b o' (neC b o e hx) e1
  · obtain ⟨m1, e1⟩ := I.base.tbls b ps e
    obtain ⟨m2, e2⟩ := tbls b _ e1
    exact ⟨m1 ++ m2, by rw [e2, Array.append_assoc]⟩
  · obtain ⟨m, hn, hl⟩ := I.loc
    refine ⟨m, ns m hn, fun i x v e1 e2 e3 => ?_⟩
    obtain ⟨u, r, l⟩ := hl i x v e1 e2 e3
    refine ⟨u, r, ?_⟩
    rcases l with l | ⟨k, c, e, z⟩
    · exact .inl l
    · exact .inr ⟨k, c, e, cellK x c e _ z⟩
  · obtain ⟨v, z⟩ := I.cell x c e
    exact ⟨v, cellK x c e v z⟩
  · obtain ⟨m, ⟨o, _, _, ho, _⟩, _⟩ := I.loc
    exact free _ o (fun z => (hch _ z).2.1 rfl) ho I.free
  · obtain ⟨v, o, ho, hd⟩ := I.cell x c e
    exact free c o (fun z => (hch c z).2.2.1 x c e rfl) ho (I.freeC x c e)
  · obtain ⟨e, n, ne, nf, d⟩ := I.pin p hp
    have nch : p.1 ∉ ch := fun z => (hch p.1 z).2.2.2 p hp rfl
    exact ⟨keep p.1 p.2 ne nf nch e n, free p.1 p.2 nch e n, ne, nf, d⟩
theorem Inv.un {t' : Nat} (I : Inv X pins σ H s) (u : Un X.fs [] H H' s.heap h') (hok : HOk X.prog X.w H' h') : Inv X pins σ H' { s with heap := h', toks := t' } := by
  obtain ⟨m, ⟨o, es, ep, ho, r⟩, _⟩ := id I.loc
  obtain ⟨sl, hL⟩ := u.any ho I.free (by simp)
  exact I.step (g' := s.gens) (d' := s.drawn) (ch := []) (fun _ z => nomatch z) (fun b o _ hb _ e n => u.keep b o e n hb (by simp)) (fun b o _ hb _ e n => u.slot b o e n hb (by simp)) (fun b o _ e n => u.free b o e n (by simp)) (fun b o _ e => u.there b o e (by simp)) u.tups u.frzs u.tbls (fun m' hm => by
    obtain ⟨o', es', ep', ho', r'⟩ := hm
    rw [ho] at ho'; cases ho'
    exact ⟨_, es', ep', hL, r'⟩) hok I.bare
theorem Inv.call {g' : Array GenState} {t' : Nat} {d' : Drawn} {ch : List Addr} (I : Inv X pins σ H s) (u : Un (frs X.stack) ch H H' s.heap h') (hok : HOk X.prog X.w H' h') (hg : AllBare g')
    (hch : ∀ b ∈ ch, (b ∈ X.ex ∨ X.s₀.heap.objs.size ≤ b) ∧ b ≠ X.env.locals ∧ (∀ x c, X.env.cells.lookup x = some c → c ≠ b) ∧ ∀ p ∈ X.pn ++ pins, p.1 ≠ b) :
    Inv X pins σ H' { s with heap := h', gens := g', drawn := d', toks := t' } := by
  obtain ⟨m, ⟨o, es, ep, ho, r⟩, _⟩ := id I.loc
  obtain ⟨sl, hL⟩ := u.any ho I.free fun z => (hch _ z).2.1 rfl
  exact I.step (ch := ch) hch (fun b o hL hb hc e n => u.keep b o e n (fun z => (List.mem_cons.mp (I.stkSub b z)).elim hL hb) hc) (fun b o _ _ hc e n => u.any e n hc) (fun b o hc e n => u.free b o e n hc) (fun b o hc e => u.there b o e hc) u.tups u.frzs u.tbls (fun m' hm => by
    obtain ⟨o', es', ep', ho', r'⟩ := hm
    rw [ho] at ho'; cases ho'
    exact ⟨_, es', ep', hL, r'⟩) hok hg
theorem Inv.turned {t' : Nat} {it : Addr} (I : Inv X pins σ H s) (k : ∀ b o, b ≠ it → s.heap.get? b = some o → h'.get? b = some o) (hn : H it = none) (hL : it ≠ X.env.locals)
    (h1 : it ∈ X.ex ∨ X.s₀.heap.objs.size ≤ it) (h2 : ∀ x c, X.env.cells.lookup x = some c → c ≠ it) (h3 : ∀ p ∈ X.pn ++ pins, p.1 ≠ it) : Inv X pins σ H { s with heap := h', toks := t' } := by
  have nit : ∀ b u, H b = some u → b ≠ it := fun b u e z => by rw [z, hn] at e; cases e
  refine I.step (g' := s.gens) (d' := s.drawn) (ch := [it]) (fun b hb => ?_) (fun b o _ _ hc e _ => k b o (fun z => hc (by simp [z])) e) (fun b o _ _ hc e _ => ⟨o.slots, k b o (fun z => hc (by simp [z])) e⟩) (fun _ _ _ _ n => n)
    (fun b o hc e => ⟨o, k b o (fun z => hc (by simp [z])) e⟩) (fun _ _ e => e) (fun _ _ _ e => e) (fun b ps e => ⟨#[], by rw [e]; simp⟩) (fun m hm => ?_) (fun b u e => ?_) I.bare
  · have e : b = it := by simpa using hb
    subst e
    exact ⟨h1, hL, h2, h3⟩
  · obtain ⟨o, es, ep, ho, r⟩ := hm
    exact ⟨o, es, ep, k _ o (Ne.symm hL) ho, r⟩
  · refine (I.hok b u e).stay (fun c v hc q => k c v ?_ q) (fun _ q => q) fun _ _ q => q
    rcases hc with z | z
    · rw [z]; exact nit b u e
    · exact nit c _ z
theorem Inv.tok (I : Inv X pins σ H s) (t : Nat) : Inv X pins σ H { s with toks := t } := I.un (h' := s.heap) (t' := t) Un.refl I.hok
theorem Inv.kept {t' : Nat} (I : Inv X pins σ H s) (k : ∀ b u, s.heap.get? b = some u → h'.get? b = some u) : Inv X pins σ H { s with heap := h', toks := t' } := I.un (Un.kept k) (I.hok.kept k)
theorem Inv.laid {a : Addr} {o : HO} {t' : Nat} (I : Inv X pins σ H s) (k : ∀ b u, s.heap.get? b = some u → h'.get? b = some u) (hp : s.heap.objs.size ≤ a) (new : ObjOk X.prog X.w (upd H a o) h' a o) :
    Inv X pins σ (upd H a o) { s with heap := h', toks := t' } := I.un (Un.laid k hp (I.hok.fresh hp)) (I.hok.laid k hp new)
theorem Inv.write {x e : Addr} {o : HO} {t' : Nat} (I : Inv X pins σ H s) (mu : Mut (H x)) (he : e = x ∨ H e = some (.own x)) (k : ∀ b u, b ≠ e → s.heap.get? b = some u → h'.get? b = some u) (heo : ∃ u, h'.get? e = some u)
    (new : ObjOk X.prog X.w (upd H x o) h' x o) : Inv X pins σ (upd H x o) { s with heap := h', toks := t' } := I.un (Un.write mu he k heo) (I.hok.write mu he k heo new)
theorem Inv.pins_of {pins' : List (Addr × Obj)} (I : Inv X pins σ H s) (h : ∀ p ∈ pins', s.heap.get? p.1 = some p.2 ∧ H p.1 = none ∧ p.1 ≠ X.env.locals ∧ p.1 ∉ X.fs ∧ ∀ v, p.2.data ≠ .cell v) : Inv X pins' σ H s :=
  ⟨I.ok, I.os, I.bare, I.base, I.loc, I.cell, I.free, I.freeC, fun p hp => (List.mem_append.mp hp).elim (fun z => I.pin p (List.mem_append_left _ z)) (h p), I.hok, I.len⟩
theorem nodup_ix {N : List Str} (hN : N.Nodup) {i j : Nat} {x : Str} (a : N[i]? = some x) (b : N[j]? = some x) : i = j := by
  obtain ⟨h1, e1⟩ := List.getElem?_eq_some_iff.mp a
  obtain ⟨h2, e2⟩ := List.getElem?_eq_some_iff.mp b
  exact (List.getElem_inj hN).mp (e1.trans e2.symm)
theorem store_ok2 {M : Model} {A : Around} {E : Value → Shared → Prop} {i : Nat} {x : Str} {v : V} {u : Value} {Q : Unit → Shared → Prop} (I : Inv X pins σ H s) (hN : X.N.Nodup) (hi : X.N[i]? = some x) (hx : Loc X.env.scope x) (r : RelV v u)
    (h : ∀ s', Inv X pins (σ.set i (some v)) H s' → (∃ a, Heap.SameBut a s.heap s'.heap ∧ (a = X.env.locals ∨ X.env.cells.lookup x = some a)) → Q () s') (hf : X.fn x = true ∨ X.env.scope.names.lookup x = some .local := by first | exact .inl rfl | exact .inr rfl | assumption) : wpAny M A (storeName X.env x u) Q E s := by
  obtain ⟨m, hn, hl⟩ := id I.loc
  have hcls : (X.env.scope.kind == .class || (X.env.scope.kind == .module && X.env.locals != X.env.globals)) = false := by rw [I.ok.kind]; rfl
  have hiσ : i < σ.length := by rw [I.len]; exact (List.getElem?_eq_some_iff.mp hi).1
  have cne := I.cne
  have tracked : ∀ {a : Addr} {h' : Heap}, (∃ o, s.heap.get? a = some o ∧ H a = none) → Heap.SameBut a s.heap h' → HOk X.prog X.w H h' := fun {a h'} ha hs b ob e => by
    obtain ⟨_, _, hfree⟩ := ha
    refine (I.hok b ob e).stay (fun c w' hc q => (hs.2 c ?_).trans q) (fun _ q => q) fun _ _ q => q
    rintro rfl
    rcases hc with rfl | hc
    · rw [hfree] at e; cases e
    · rw [hfree] at hc; cases hc
  rcases hx with hk | hk
  · refine wpAny_storeName_local hk hn (fun h' hn' hs => ?_) hcls
    obtain ⟨oL, _, _, hoL, _⟩ := id hn
    refine h _ ⟨I.ok, I.os, I.bare, ⟨fun b o e n hb hx => ?_, fun b o e n hb hx => ?_, I.base.free, fun b o e hx => ?_, I.base.tups, I.base.frzs, I.base.tbls⟩, ⟨_, hn', fun j y v' e1 e2 e3 => ?_⟩, fun y c e => ?_, I.free, I.freeC, fun p hp => ?_, tracked ⟨oL, hoL, I.free⟩ hs, by simpa using I.len⟩ ⟨_, hs, .inl rfl⟩
    · exact (hs.2 b (Nat.ne_of_lt (Nat.lt_of_lt_of_le (Heap.lt_size e) I.ok.above))).trans (I.base.keep b o e n hb hx)
    · obtain ⟨sl, e1⟩ := I.base.slot b o e n hb hx
      exact ⟨sl, (hs.2 b (Nat.ne_of_lt (Nat.lt_of_lt_of_le (Heap.lt_size e) I.ok.above))).trans e1⟩
    · obtain ⟨o', e1⟩ := I.base.there b o e hx
      exact ⟨o', (hs.2 b (Nat.ne_of_lt (Nat.lt_of_lt_of_le (Heap.lt_size e) I.ok.above))).trans e1⟩
    · by_cases hj : j = i
      · subst hj
        rw [hi] at e1; cases e1
        rw [List.getElem?_set_self hiσ] at e2
        cases e2
        exact ⟨u, r, .inl ⟨hk, by simp⟩⟩
      · rw [List.getElem?_set_ne (Ne.symm hj)] at e2
        obtain ⟨u', r', q⟩ := hl j y v' e1 e2 e3
        refine ⟨u', r', ?_⟩
        rcases q with ⟨k, e⟩ | ⟨k, c, e, z⟩
        · refine .inl ⟨k, ?_⟩
          have : y ≠ x := fun e => hj (nodup_ix hN e1 (e ▸ hi))
          simp [this, e]
        · exact .inr ⟨k, c, e, z.sameBut hs (cne y c e)⟩
    · obtain ⟨w', z⟩ := I.cell y c e
      exact ⟨w', z.sameBut hs (cne y c e)⟩
    · obtain ⟨e, n, ne, nf, d⟩ := I.pin p hp
      exact ⟨(hs.2 p.1 ne).trans e, n, ne, nf, d⟩
  · have hfn : X.fn x = true := by
      rcases hf with z | z
      · exact z
      · rw [z] at hk; cases hk
    obtain ⟨c, hc⟩ := I.ok.has x (.inl hk)
    obtain ⟨w', z⟩ := I.cell x c hc
    refine wpAny_storeName_cell I.ok.kind hk hc z (fun h' hc' hs => ?_)
    obtain ⟨oc, hoc, hocd⟩ := id z
    refine h { s with heap := h' } ⟨I.ok, I.os, I.bare, ⟨fun b o e n hb hx => ?_, fun b o e n hb hx => ?_, I.base.free, fun b o e hx => ?_, I.base.tups, I.base.frzs, I.base.tbls⟩, ⟨m, hn.sameBut hs (Ne.symm (cne x c hc)), fun j y v' e1 e2 e3 => ?_⟩, fun y c' e => ?_, I.free, I.freeC, fun p hp => ?_, tracked ⟨oc, hoc, I.freeC x c hc⟩ hs, by simpa using I.len⟩ ⟨c, hs, .inr hc⟩
    · exact (hs.2 b (Nat.ne_of_lt (Nat.lt_of_lt_of_le (Heap.lt_size e) (I.ok.cab x c hfn hc)))).trans (I.base.keep b o e n hb hx)
    · obtain ⟨sl, e1⟩ := I.base.slot b o e n hb hx
      exact ⟨sl, (hs.2 b (Nat.ne_of_lt (Nat.lt_of_lt_of_le (Heap.lt_size e) (I.ok.cab x c hfn hc)))).trans e1⟩
    · obtain ⟨o', e1⟩ := I.base.there b o e hx
      exact ⟨o', (hs.2 b (Nat.ne_of_lt (Nat.lt_of_lt_of_le (Heap.lt_size e) (I.ok.cab x c hfn hc)))).trans e1⟩
    · by_cases hj : j = i
      · subst hj
        rw [hi] at e1; cases e1
        rw [List.getElem?_set_self hiσ] at e2
        cases e2
        exact ⟨u, r, .inr ⟨.inl hk, c, hc, hc'⟩⟩
      · rw [List.getElem?_set_ne (Ne.symm hj)] at e2
        obtain ⟨u', r', q⟩ := hl j y v' e1 e2 e3
        refine ⟨u', r', ?_⟩
        rcases q with q | ⟨k, c', e, z'⟩
        · exact .inl q
        · refine .inr ⟨k, c', e, z'.sameBut hs ?_⟩
          rintro rfl
          exact hj (nodup_ix hN e1 (I.ok.inj _ _ _ e hc ▸ hi))
    · by_cases hcc : c' = c
      · subst hcc; exact ⟨_, hc'⟩
      · obtain ⟨w2, z2⟩ := I.cell y c' e
        exact ⟨w2, z2.sameBut hs hcc⟩
    · obtain ⟨e, n, ne, nf, d⟩ := I.pin p hp
      refine ⟨(hs.2 p.1 ?_).trans e, n, ne, nf, d⟩
      intro q
      rw [q, hoc] at e
      have q' : oc = p.2 := Option.some.inj e
      exact d w' (by rw [← q']; exact hocd)
theorem store_ok {M : Model} {A : Around} {E : Value → Shared → Prop} {i : Nat} {x : Str} {v : V} {u : Value} {Q : Unit → Shared → Prop} (I : Inv X pins σ H s) (hN : X.N.Nodup) (hi : X.N[i]? = some x) (hx : Loc X.env.scope x) (r : RelV v u)
    (h : ∀ s', Inv X pins (σ.set i (some v)) H s' → Q () s') (hf : X.fn x = true ∨ X.env.scope.names.lookup x = some .local := by first | exact .inl rfl | exact .inr rfl | assumption) : wpAny M A (storeName X.env x u) Q E s :=
  store_ok2 I hN hi hx r (fun s' I' _ => h s' I') hf
theorem Inv.call' {s' : Shared} {ch : List Addr} (I : Inv X pins σ H s) (ho : s'.os = s.os) (u : Un (frs X.stack) ch H H' s.heap s'.heap) (hok : HOk X.prog X.w H' s'.heap) (hg : AllBare s'.gens)
    (hch : ∀ b ∈ ch, (b ∈ X.ex ∨ X.s₀.heap.objs.size ≤ b) ∧ b ≠ X.env.locals ∧ (∀ x c, X.env.cells.lookup x = some c → c ≠ b) ∧ ∀ p ∈ X.pn ++ pins, p.1 ≠ b) : Inv X pins σ H' s' := by
  obtain ⟨h', g', d', t', o'⟩ := s'
  have e : o' = s.os := ho
  subst e
  exact I.call (g' := g') (t' := t') (d' := d') u hok hg hch
end
abbrev XK := Value → Option Addr → Hp → Prop
abbrev St := List (Option V)
abbrev VK := V → Hp → Prop
abbrev TE := St → Hp → VK → Prop
abbrev TT := St → Hp → (Bool → Hp → Prop) → Prop
abbrev TA := St → Hp → (List V → Hp → Prop) → Prop
structure Ends where
  nx : St → Hp → Prop
  rt : VK
  bk : St → Hp → Prop := fun _ _ => False
  ct : St → Hp → Prop := fun _ _ => False
abbrev TS := Ends → St → Hp → Prop
def EP (X : Cx) (pins : List (Addr × Obj)) (σ : St) (Q : VK) (u : Value) (s' : Shared) : Prop := ∃ v H', Inv X pins σ H' s' ∧ RelV v u ∧ Q v H'
def TP (X : Cx) (pins : List (Addr × Obj)) (σ : St) (Q : Bool → Hp → Prop) (b : Bool) (s' : Shared) : Prop := ∃ H', Inv X pins σ H' s' ∧ Q b H'
def AP (X : Cx) (pins : List (Addr × Obj)) (σ : St) (Q : List V → Hp → Prop) (us : List Value) (s' : Shared) : Prop := ∃ vs H', Inv X pins σ H' s' ∧ Vals vs us ∧ Q vs H'
def SP (X : Cx) (pins : List (Addr × Obj)) (D : Ends) (f : Flow) (s' : Shared) : Prop :=
  match f with
  | .next => ∃ σ' H', Inv X pins σ' H' s' ∧ D.nx σ' H'
  | .brk => ∃ σ' H', Inv X pins σ' H' s' ∧ D.bk σ' H'
  | .cont => ∃ σ' H', Inv X pins σ' H' s' ∧ D.ct σ' H'
  | .ret u => ∃ v σ' H', Inv X pins σ' H' s' ∧ RelV v u ∧ D.rt v H'
def PE (X : Cx) (e : Expr) (t : TE) : Prop :=
  ∀ (pins : List (Addr × Obj)) (s : Shared) (σ : St) (H : Hp) (Q : VK), Inv X pins σ H s → t σ H Q → wpAny (model X.prog X.w) X.A (eval e X.env) (EP X pins σ Q) X.xe s
def PT (X : Cx) (e : Expr) (t : TT) : Prop :=
  ∀ (pins : List (Addr × Obj)) (s : Shared) (σ : St) (H : Hp) (Q : Bool → Hp → Prop), Inv X pins σ H s → t σ H Q → wpAny (model X.prog X.w) X.A (isTrue e X.env (eval e X.env)) (TP X pins σ Q) X.xe s
def PW (X : Cx) (e : Expr) (t : TT) : Prop :=
  ∀ (whole : Sem Value) (pins : List (Addr × Obj)) (s : Shared) (σ : St) (H : Hp) (Q : Bool → Hp → Prop), Inv X pins σ H s → t σ H Q → wpAny (model X.prog X.w) X.A (isTrue e X.env whole) (TP X pins σ Q) X.xe s
theorem PW.pt {X : Cx} {e : Expr} {t : TT} (h : PW X e t) : PT X e t := h _
def PA (X : Cx) (es : List Expr) (t : TA) : Prop :=
  ∀ (pos : Pos) (pins : List (Addr × Obj)) (s : Shared) (σ : St) (H : Hp) (Q : List V → Hp → Prop), Inv X pins σ H s → t σ H Q → wpAny (model X.prog X.w) X.A (spliced (backTo pos (starEach es X.env))) (AP X pins σ Q) X.xe s
def PS (X : Cx) (st : Stmt) (t : TS) : Prop :=
  ∀ (pins : List (Addr × Obj)) (s : Shared) (σ : St) (H : Hp) (D : Ends), Inv X pins σ H s → t D σ H → wpAny (model X.prog X.w) X.A (exec st X.env) (SP X pins D) X.xe s
def PSs (X : Cx) (st : List Stmt) (t : TS) : Prop :=
  ∀ (pins : List (Addr × Obj)) (s : Shared) (σ : St) (H : Hp) (D : Ends), Inv X pins σ H s → t D σ H → wpAny (model X.prog X.w) X.A (execs st X.env) (SP X pins D) X.xe s
theorem thn {α : Type} {t : Sem α} {Q Q' : α → Shared → Prop} {M : Model} {A : Around} {E : Value → Shared → Prop} {s : Shared} (h : wpAny M A t Q E s) (hQ : ∀ a s, Q a s → Q' a s) : wpAny M A t Q' E s := wpAny_mono h hQ fun _ _ x => x
end L2
namespace L2
open PySem PySem.Spec PyProof.Rows
section
variable {X : Cx}
theorem bin {a b : Expr} {ta tb : TE} (ha : PE X a ta) (hb : PE X b tb) {pins : List (Addr × Obj)} {s : Shared} {σ : St} {H : Hp} {R : V → V → Hp → Prop} (I : Inv X pins σ H s) (h : ta σ H fun x H1 => tb σ H1 fun y H2 => R x y H2)
    {α : Type} {Q : α → Shared → Prop} {f : Value → Value → Sem α}
    (hf : ∀ v u s2 x y H2, Inv X pins σ H2 s2 → RelV x v → RelV y u → R x y H2 → wpAny (model X.prog X.w) X.A (f v u) Q X.xe s2) :
    wpAny (model X.prog X.w) X.A (eval a X.env) (fun v s₁ => wpAny (model X.prog X.w) X.A (eval b X.env) (fun u s₂ => wpAny (model X.prog X.w) X.A (f v u) Q X.xe s₂) X.xe s₁) X.xe s := by
  refine thn (ha pins s σ H _ I h) fun v s1 ⟨x, H1, I1, r1, q1⟩ => ?_
  refine thn (hb pins s1 σ H1 _ I1 q1) fun u s2 ⟨y, H2, I2, r2, q2⟩ => ?_
  exact hf v u s2 x y H2 I2 r1 r2 q2
def tVar (i : Nat) : TE := fun σ H Q => ∃ v, σ[i]? = some (some v) ∧ Q v H
def tC (v : V) : TE := fun _ H Q => Q v H
theorem pe_var {i : Nat} {x : Str} {pos : Pos} (hN : X.N[i]? = some x) (hv : Vis X.env.scope x) (hd : (x == ("__debug__" : Str)) = false := by decide) (hcd : (x == ("__classdict__" : Str)) = false := by decide) : PE X (.Name x pos) (tVar i) := by
  intro pins s σ H Q I h
  obtain ⟨v, e, h⟩ := h
  obtain ⟨m, hn, hl⟩ := I.loc
  obtain ⟨u, r, l⟩ := hl i x v hN e hv
  have fin : EP X pins σ Q u s := ⟨v, H, I, r, h⟩
  rcases l with ⟨hk, hm⟩ | ⟨hk, c, hc, hcell⟩
  · exact wpAny_Name (wpAny_loadName_local I.ok.kind hk hn hm fin) hd
  · rcases hk with hk | hk
    · exact wpAny_Name (wpAny_loadName_cell I.ok.kind hk hc hcell fin) hd
    · exact wpAny_Name (wpAny_loadName_free I.ok.kind hk hc hcell fin hcd) hd
theorem pe_int {i j pos} : PE X (.Constant (.int i) j pos) (tC (.int i)) := fun _ _ _ H _ I h => wpAny_Constant_int ⟨.int i, H, I.tok _, ⟨_, rfl⟩, h⟩
theorem pe_bl {b j pos} : PE X (.Constant (.bool b) j pos) (tC (.bl b)) := fun _ _ _ H _ I h => Constant_bool ⟨.bl b, H, I, rfl, h⟩
theorem pe_non {j pos} : PE X (.Constant .none j pos) (tC .non) := fun _ _ _ H _ I h => Constant_none ⟨.non, H, I, rfl, h⟩
theorem pe_str {x j pos} : PE X (.Constant (.str x) j pos) (tC (.str x)) := fun _ _ _ H _ I h => Calls.Constant_str ⟨.str x, H, I.tok _, ⟨_, rfl⟩, h⟩
def Gl (X : Cx) (x : Str) : Prop := X.env.kindOf x = some .globalImplicit
theorem ld_glob {E : Value → Shared → Prop} {pins : List (Addr × Obj)} {s : Shared} {σ : St} {H : Hp} {x : Str} {u : Value} {pos : Pos} {Q : Value → Shared → Prop} (I : Inv X pins σ H s) (hg : Gl X x) (hm : X.mg x = some u) (h : Q u s)
    (hd : (x == ("__debug__" : Str)) = false := by decide) : wpAny (model X.prog X.w) X.A (eval (.Name x pos) X.env) Q E s :=
  Calls.Name_function_global I.ok.kind hg (Calls.loadGlobal_global (by rw [I.ok.glob]; exact I.mod.glob.keeps I.bk) hm h) hd
theorem ld_blt {E : Value → Shared → Prop} {pins : List (Addr × Obj)} {s : Shared} {σ : St} {H : Hp} {x : Str} {u : Value} {pos : Pos} {Q : Value → Shared → Prop} (I : Inv X pins σ H s) (hg : Gl X x) (hm : X.mg x = none) (hv : bootBuiltins x = some u) (h : Q u s)
    (hn : x ≠ "__name__" := by decide) (hd : (x == ("__debug__" : Str)) = false := by decide) : wpAny (model X.prog X.w) X.A (eval (.Name x pos) X.env) Q E s := by
  obtain ⟨mb, h1, h2⟩ := I.mod.blt
  exact Calls.Name_function_global I.ok.kind hg (Calls.loadGlobal_builtin (by rw [I.ok.glob]; exact I.mod.glob.keeps I.bk) hm (by rw [I.ok.blt]; exact h1.keeps I.bk) ((h2 x hn).trans hv) h) hd
variable {a b : Expr} {ta tb : TE} {pos : Pos}
variable {tA tB' : TT} {rest : List Expr}
end
end L2
namespace L2
open PySem PySem.Spec PyProof.Rows
def SqL (K : PySem.W.Frag) (H : Hp) (a : Addr) (xs : List V) : Prop :=
  Rd H a (.lst xs) ∨
    ∃ (o : Obj) (its : Array Value) (n : Nat), K.lookup a = some o ∧ o.cls = .type "list" ∧ o.dict = none ∧ o.data = .seq its n ∧ its.size ≤ sizeLine ∧ Vals xs its.toList
def SqT (K : PySem.W.Frag) (H : Hp) (a : Addr) (xs : List V) : Prop :=
  Rd H a (.tup xs) ∨
    ∃ (o : Obj) (its : Array Value) (n : Nat), K.lookup a = some o ∧ o.cls = .type "tuple" ∧ o.data = .seq its n ∧ its.size ≤ sizeLine ∧ Vals xs its.toList
def absV : Value → Option V
  | .none => some .non
  | .bool b => some (.bl b)
  | .int i _ => some (.int i)
  | .str x _ => some (.str x)
  | .bytes b _ => some (.byt b)
  | .float b _ => some (.flt b)
  | .ref a => some (.ref a)
  | .type n => some (.ty n)
  | _ => none
theorem RelV.abs {x : V} {u : Value} (r : RelV x u) : absV u = some x := by
  cases x with
  | non => cases r; rfl
  | bl _ => cases r; rfl
  | int _ => obtain ⟨t, rfl⟩ := r; rfl
  | str _ => obtain ⟨t, rfl⟩ := r; rfl
  | byt _ => obtain ⟨t, rfl⟩ := r; rfl
  | flt _ => obtain ⟨t, rfl⟩ := r; rfl
  | ref _ => cases r; rfl
  | ty _ => cases r; rfl
theorem RelV.inj {x y : V} {u : Value} (r : RelV x u) (q : RelV y u) : x = y := Option.some.inj (r.abs.symm.trans q.abs)
theorem Vals.inj : ∀ {xs ys : List V} {us : List Value}, Vals xs us → Vals ys us → xs = ys
  | _, _, _, .nil, .nil => rfl
  | _, _, _, .cons r t, .cons r' t' => by rw [r.inj r', Vals.inj t t']
section
variable {X : Cx} {pins : List (Addr × Obj)} {σ : St} {H : Hp} {s : Shared} {a : Addr} {xs ys : List V}
theorem SqL.of {K : PySem.W.Frag} (h : H a = some (.lst xs)) : SqL K H a xs := .inl (.inl h)
theorem SqT.of {K : PySem.W.Frag} (h : H a = some (.tup xs)) : SqT K H a xs := .inl (.inl h)
theorem Inv.list (I : Inv X pins σ H s) (h : SqL X.K H a xs) : ∃ its : List Value, Vals xs its ∧ PlainL s.heap a its.toArray ∧ xs.length ≤ sizeLine := by
  rcases h with h | ⟨o, its, n, hk, hc, hd, hs, hz, r⟩
  · obtain ⟨z, its, n, r, e⟩ := h.ok I.hok
    exact ⟨its, r, ⟨_, n, e, rfl, rfl, rfl⟩, z⟩
  · refine ⟨its.toList, r, ⟨o, n, I.kIn a o hk, hc, hd, by simpa using hs⟩, ?_⟩
    have e := r.length
    simp only [Array.length_toList] at e
    omega
theorem Inv.tuple (I : Inv X pins σ H s) (h : SqT X.K H a xs) : ∃ its : List Value, Vals xs its ∧ IsTup s.heap a its.toArray ∧ xs.length ≤ sizeLine := by
  rcases h with h | ⟨o, its, n, hk, hc, hs, hz, r⟩
  · obtain ⟨z, its, r, p⟩ := h.ok I.hok
    exact ⟨its, r, p, z⟩
  · refine ⟨its.toList, r, ⟨o, I.kIn a o hk, hc, n, by simpa using hs⟩, ?_⟩
    have e := r.length
    simp only [Array.length_toList] at e
    omega
theorem Inv.list_inj (I : Inv X pins σ H s) (h : SqL X.K H a xs) (h' : SqL X.K H a ys) : xs = ys := by
  obtain ⟨its, r, ⟨o, n, e, _, _, d⟩, _⟩ := I.list h
  obtain ⟨its', r', ⟨o', n', e', _, _, d'⟩, _⟩ := I.list h'
  rw [e] at e'; cases e'
  rw [d] at d'
  injection d' with d1 _
  have : its = its' := by simpa using congrArg Array.toList d1
  subst this
  exact r.inj r'
theorem Inv.tuple_inj (I : Inv X pins σ H s) (h : SqT X.K H a xs) (h' : SqT X.K H a ys) : xs = ys := by
  obtain ⟨its, r, ⟨o, e, _, n, d⟩, _⟩ := I.tuple h
  obtain ⟨its', r', ⟨o', e', _, n', d'⟩, _⟩ := I.tuple h'
  rw [e] at e'; cases e'
  rw [d] at d'
  injection d' with d1 _
  have : its = its' := by simpa using congrArg Array.toList d1
  subst this
  exact r.inj r'
end
abbrev Cx.wish (X : Cx) (E : Value → Shared → Prop) : Cx := { X with xe := E }
abbrev Cx.nox (X : Cx) : Cx := X.wish fun _ _ => False
theorem Cx.Ok.wish {X : Cx} (ok : X.Ok) (E : Value → Shared → Prop) : (X.wish E).Ok :=
  ⟨ok.mod, ok.kind, ok.glob, ok.blt, ok.above, ok.inj, ok.has, ok.cab, ok.hd, ok.frames, ok.stk, ok.exf, ok.bs, ok.bsz, ok.noex, ok.exfs, ok.funs, ok.frf⟩
theorem Cx.Ok.unwish {X : Cx} {E : Value → Shared → Prop} (ok : (X.wish E).Ok) : X.Ok :=
  ⟨ok.mod, ok.kind, ok.glob, ok.blt, ok.above, ok.inj, ok.has, ok.cab, ok.hd, ok.frames, ok.stk, ok.exf, ok.bs, ok.bsz, ok.noex, ok.exfs, ok.funs, ok.frf⟩
section
variable {X : Cx} {pins : List (Addr × Obj)} {σ : St} {H : Hp} {s : Shared} {E : Value → Shared → Prop}
theorem Inv.wish (I : Inv X pins σ H s) (E : Value → Shared → Prop) : Inv (X.wish E) pins σ H s := ⟨I.ok.wish E, I.os, I.bare, I.base, I.loc, I.cell, I.free, I.freeC, I.pin, I.hok, I.len⟩
theorem Inv.unwish (I : Inv (X.wish E) pins σ H s) : Inv X pins σ H s := ⟨I.ok.unwish, I.os, I.bare, I.base, I.loc, I.cell, I.free, I.freeC, I.pin, I.hok, I.len⟩
theorem SP.unwish {D : Ends} {f : Flow} {s' : Shared} (h : SP (X.wish E) pins D f s') : SP X pins D f s' := by
  cases f with
  | next => obtain ⟨σ', H', I, q⟩ := h; exact ⟨σ', H', I.unwish, q⟩
  | brk => obtain ⟨σ', H', I, q⟩ := h; exact ⟨σ', H', I.unwish, q⟩
  | cont => obtain ⟨σ', H', I, q⟩ := h; exact ⟨σ', H', I.unwish, q⟩
  | ret u => obtain ⟨v, σ', H', I, r, q⟩ := h; exact ⟨v, σ', H', I.unwish, r, q⟩
theorem PSs.nox {st : List Stmt} {t : TS} (h : PSs X.nox st t) : PSs X st t := fun pins s σ H D I hw =>
  wpAny_mono (h pins s σ H D (I.wish _) hw) (fun _ _ q => q.unwish) fun _ _ z => False.elim z
end
section
variable {X : Cx} {st : Stmt} {rest : List Stmt} {t u : TS} {e : Expr} {te : TE} {pos : Pos}
def tNext : TS := fun D σ H => D.nx σ H
def tSeq (t u : TS) : TS := fun D σ H => t { D with nx := u D } σ H
theorem pss_nil : PSs X [] tNext := fun _ _ σ H _ I h => wpAny_execs_nil ⟨σ, H, I, h⟩
theorem pss_cons (h1 : PS X st t) (h2 : PSs X rest u) : PSs X (st :: rest) (tSeq t u) := by
  intro pins s σ H D I h
  refine wpAny_execs_cons (thn (h1 pins s σ H { D with nx := u D } I h) fun f s1 q => ?_)
  cases f with
  | next =>
    obtain ⟨σ', H', I', q⟩ := q
    exact h2 pins s1 σ' H' D I' q
  | ret v => exact q
  | brk => exact q
  | cont => exact q
theorem Inv.quiet {pins : List (Addr × Obj)} {σ : St} {H : Hp} {s : Shared} (I : Inv X pins σ H s) : interactive X.env = false := by simp [interactive, I.ok.kind]
def tDrop (te : TE) : TS := fun D σ H => te σ H fun _ H1 => D.nx σ H1
theorem ps_expr (he : PE X e te) (hs : swapsWith e none pos.line X.env = pure false := by rfl) : PS X (.Expr e pos) (tDrop te) := by
  intro pins s σ H D I h
  exact wpAny_Expr_any (thn (he pins s σ H _ I h) fun v s1 ⟨x, H1, I1, r1, q1⟩ => ⟨σ, H1, I1, q1⟩) I.quiet hs
def tRet (te : TE) : TS := fun D σ H => te σ H D.rt
theorem ps_ret (he : PE X e te) : PS X (.Return (some e) pos) (tRet te) := by
  intro pins s σ H D I h
  exact wpAny_Return_some (thn (he pins s σ H _ I h) fun v s1 ⟨x, H1, I1, r1, q1⟩ => ⟨x, σ, H1, I1, r1, q1⟩)
def tIfS (c : TT) (t u : TS) : TS := fun D σ H => c σ H fun b H1 => if b = true then t D σ H1 else u D σ H1
theorem ps_if {c : Expr} {a b : List Stmt} {tc : TT} (hc : PT X c tc) (ha : PSs X a t) (hb : PSs X b u) : PS X (.If c a b pos) (tIfS tc t u) := by
  intro pins s σ H D I h
  refine wpAny_If (thn (hc pins s σ H _ I h) fun d s1 ⟨H1, I1, q1⟩ => ?_)
  cases d with
  | true => exact ha pins s1 σ H1 D I1 q1
  | false => exact hb pins s1 σ H1 D I1 q1
def tNever : TS := fun _ _ _ => False
theorem ps_never : PS X st tNever := fun _ _ _ _ _ _ h => h.elim
end
abbrev TG := V → St → Hp → (St → Hp → Prop) → Prop
abbrev TGs := List V → St → Hp → (St → Hp → Prop) → Prop
def PG (X : Cx) (target : Expr) (t : TG) : Prop :=
  ∀ (pins : List (Addr × Obj)) (s : Shared) (σ : St) (H : Hp) (v : V) (u : Value) (Q : St → Hp → Prop), Inv X pins σ H s → RelV v u → t v σ H Q →
    wpAny (model X.prog X.w) X.A (assign target X.env u) (fun _ s' => ∃ σ' H', Inv X pins σ' H' s' ∧ Q σ' H') X.xe s
def PGs (X : Cx) (ts : List Expr) (t : TGs) : Prop :=
  ∀ (pins : List (Addr × Obj)) (s : Shared) (σ : St) (H : Hp) (vs : List V) (us : List Value) (Q : St → Hp → Prop), Inv X pins σ H s → Vals vs us → t vs σ H Q →
    wpAny (model X.prog X.w) X.A (assignInOrder ((assignEach ts X.env).map (·.2)) us) (fun _ s' => ∃ σ' H', Inv X pins σ' H' s' ∧ Q σ' H') X.xe s
abbrev TIp := V → V → Hp → VK → Prop
def PIp (X : Cx) (op : Operator) (t : TIp) : Prop :=
  ∀ (pins : List (Addr × Obj)) (s : Shared) (σ : St) (H : Hp) (x y : V) (v u : Value) (Q : VK), Inv X pins σ H s → RelV x v → RelV y u → t x y H Q →
    wpAny (model X.prog X.w) X.A (inplaceOp op v u) (EP X pins σ Q) X.xe s
section
variable {X : Cx} {pos : Pos}
def gName (i : Nat) : TG := fun v σ H Q => Q (σ.set i (some v)) H
theorem pg_name {i : Nat} {x : Str} (hN : X.N.Nodup) (hi : X.N[i]? = some x) (hx : Loc X.env.scope x) (hf : X.fn x = true ∨ X.env.scope.names.lookup x = some .local := by first | exact .inl rfl | exact .inr rfl | assumption) : PG X (.Name x pos) (gName i) := by
  intro pins s σ H v u Q I r h
  exact wpAny_assign_Name (store_ok I hN hi hx r (fun s' I' => ⟨_, H, I', h⟩) hf)
def gNil : TGs := fun vs σ H Q => vs = [] ∧ Q σ H
def gCons (t : TG) (u : TGs) : TGs := fun vs σ H Q => ∃ v r, vs = v :: r ∧ t v σ H fun σ' H' => u r σ' H' Q
theorem pgs_nil : PGs X [] gNil := by
  intro pins s σ H vs us Q I r h
  obtain ⟨e, h⟩ := h
  subst e
  cases r
  exact assignInOrder_nil ⟨σ, H, I, h⟩
theorem pgs_cons {e : Expr} {es : List Expr} {t : TG} {u : TGs} (h1 : PG X e t) (h2 : PGs X es u)
    (hs : (assignEach (e :: es) X.env).map (·.2) = assign e X.env :: (assignEach es X.env).map (·.2) := by rfl) : PGs X (e :: es) (gCons t u) := by
  intro pins s σ H vs us Q I r h
  obtain ⟨v, vr, e1, h⟩ := h
  subst e1
  cases r with
  | cons r rr =>
    rw [hs]
    refine assignInOrder_cons (thn (h1 pins s σ H _ _ _ I r h) fun _ s1 ⟨σ1, H1, I1, q1⟩ => ?_)
    exact h2 pins s1 σ1 H1 _ _ Q I1 rr q1
def gTup (K : PySem.W.Frag) (n : Nat) (t : TGs) : TG := fun v σ H Q => ∃ a xs, v = .ref a ∧ SqT K H a xs ∧ xs.length = n ∧ t xs σ H Q
theorem pg_tup {es : List Expr} {k : Nat} {t : TGs} {n : Nat} (hc : X.calm = true) (h : PGs X es t)
    (hn : (assignEach es X.env).length = n := by rfl) (hst : (assignEach es X.env).findIdx? (·.1) = none := by rfl) : PG X (.Tuple es k pos) (gTup X.K n t) := by
  intro pins s σ H v u Q I r hw
  obtain ⟨a, xs, e1, hq, hl, hw⟩ := hw
  subst e1
  cases r
  obtain ⟨its, rv, ht, hz⟩ := I.tuple hq
  refine assign_Tuple_tuple (I.ok.hd hc) ht (by simp [hn, ← hl, rv.length]) hst fun h' hx => ?_
  have I1 : Inv X pins σ H { s with heap := h' } := I.kept (t' := s.toks) fun b o e => hx b o (Nat.ne_of_lt (Heap.lt_size e)) e
  exact h pins _ σ H xs _ Q I1 (by simpa using rv) hw
def tAsg (te : TE) (g : TG) : TS := fun D σ H => te σ H fun x H1 => g x σ H1 D.nx
theorem ps_asg {tg e : Expr} {te : TE} {g : TG} (he : PE X e te) (hg : PG X tg g) (hs : swapsWithSole [tg] e pos.line X.env = pure false := by rfl) (hw : swappedStores [tg] e X.env = pure none := by rfl)
    (h1 : (assignEach [tg] X.env).map (·.2) = [assign tg X.env] := by rfl) : PS X (.Assign [tg] e pos) (tAsg te g) := by
  intro pins s σ H D I h
  refine wpAny_Assign_stores (thn (he pins s σ H _ I h) fun v s1 ⟨x, H1, I1, r1, q1⟩ => ?_) hs hw
  rw [h1]
  exact thn (hg pins s1 σ H1 x v _ I1 r1 q1) fun _ s2 q => q
theorem ps_set {i : Nat} {x : Str} {e : Expr} {te : TE} {pos' : Pos} (hN : X.N.Nodup) (hi : X.N[i]? = some x) (hx : Loc X.env.scope x) (he : PE X e te) (hs : swapsWith e (some (.Name x pos')) pos.line X.env = pure false := by rfl) (hf : X.fn x = true ∨ X.env.scope.names.lookup x = some .local := by first | exact .inl rfl | exact .inr rfl | assumption) :
    PS X (.Assign [.Name x pos'] e pos) (tAsg te (gName i)) := by
  intro pins s σ H D I h
  refine wpAny_Assign_Name (thn (he pins s σ H _ I h) fun v s1 ⟨y, H1, I1, r1, q1⟩ => ?_) hs
  exact store_ok I1 hN hi hx r1 (fun s2 I2 => ⟨_, H1, I2, q1⟩) hf
def tAug (i : Nat) (te : TE) (ti : TIp) : TS := fun D σ H => ∃ x, σ[i]? = some (some x) ∧ te σ H fun y H1 => ti x y H1 fun z H2 => D.nx (σ.set i (some z)) H2
theorem ps_aug {i : Nat} {x : Str} {e : Expr} {te : TE} {op : Operator} {ti : TIp} {pos' : Pos} (hN : X.N.Nodup) (hi : X.N[i]? = some x) (hx : Loc X.env.scope x) (he : PE X e te) (ho : PIp X op ti) (hf : X.fn x = true ∨ X.env.scope.names.lookup x = some .local := by first | exact .inl rfl | exact .inr rfl | assumption) :
    PS X (.AugAssign (.Name x pos') op e pos) (tAug i te ti) := by
  intro pins s σ H D I h
  obtain ⟨v, e1, h⟩ := h
  obtain ⟨m, hn, hl⟩ := I.loc
  have vis : Vis X.env.scope x := by rcases hx with k | k; exact .inl k; exact .inr (.inl k)
  obtain ⟨u, r, l⟩ := hl i x v hi e1 vis
  refine wpAny_AugAssign_Name ?_
  have go : wpAny (model X.prog X.w) X.A (eval e X.env) (fun w s₂ => wpAny (model X.prog X.w) X.A (inplaceOp op u w) (fun r s₃ => wpAny (model X.prog X.w) X.A (storeName X.env x r) (fun _ => SP X pins D .next) X.xe s₃) X.xe s₂) X.xe s := by
    refine thn (he pins s σ H _ I h) fun w s1 ⟨y, H1, I1, r1, q1⟩ => ?_
    refine thn (ho pins s1 σ H1 v y u w _ I1 r r1 q1) fun z s2 ⟨zv, H2, I2, r2, q2⟩ => ?_
    exact store_ok I2 hN hi hx r2 (fun s3 I3 => ⟨_, H2, I3, q2⟩) hf
  rcases l with ⟨hk, hm⟩ | ⟨hk, c, hc, hcell⟩
  · exact wpAny_loadName_local I.ok.kind hk hn hm go
  · rcases hk with hk | hk
    · exact wpAny_loadName_cell I.ok.kind hk hc hcell go
    · rcases hx with k | k
      · have : X.env.scope.names.lookup x = some .free := hk
        rw [k] at this; cases this
      · have : X.env.scope.names.lookup x = some .free := hk
        rw [k] at this; cases this
end
section
variable {X : Cx} {pos : Pos}
def tWhile (c : TT) (tb : TS) : TS := fun D σ H => ∃ W : Nat → St → Hp → Prop, (∃ m, W m σ H) ∧ ∀ m σ H, W m σ H →
  c σ H fun b H1 => if b = true then ∃ N : St → Hp → Prop, (∀ σ' H', N σ' H' → ∃ m', m' < m ∧ W m' σ' H') ∧ tb { D with nx := N, ct := N, bk := D.nx } σ H1 else D.nx σ H1
theorem ps_while {c : Expr} {body : List Stmt} {tc : TT} {tb : TS} (hp : PassesOwn (model X.prog X.w) X.A X.env X.xe) (hc : PT X c tc) (hb : PSs X body tb) : PS X (.While c body [] pos) (tWhile tc tb) := by
  intro pins s σ H D I h
  obtain ⟨W, ⟨m0, w0⟩, turn⟩ := h
  refine wpAny_While (codeAny_whileLoop (fun n s' => ∃ σ' H', Inv X pins σ' H' s' ∧ W n σ' H') ?_ m0 ⟨σ, H, I, w0⟩)
  rintro n s1 ⟨σ1, H1, I1, w1⟩
  refine wpAny_passesOwn hp (thn (hc pins s1 σ1 H1 _ I1 (turn n σ1 H1 w1)) fun b s2 ⟨H2, I2, q2⟩ => ?_)
  cases b with
  | true =>
    obtain ⟨N, hN, q2⟩ := q2
    rw [if_pos rfl]
    refine wpAny_passesOwn hp (thn (hb pins s2 σ1 H2 _ I2 q2) fun f s3 q3 => ?_)
    cases f with
    | next =>
      obtain ⟨σ3, H3, I3, n3⟩ := q3
      obtain ⟨m', hm, w3⟩ := hN σ3 H3 n3
      exact ⟨m', hm, σ3, H3, I3, w3⟩
    | cont =>
      obtain ⟨σ3, H3, I3, n3⟩ := q3
      obtain ⟨m', hm, w3⟩ := hN σ3 H3 n3
      exact ⟨m', hm, σ3, H3, I3, w3⟩
    | brk => exact q3
    | ret v => exact q3
  | false =>
    rw [if_neg Bool.false_ne_true]
    exact wpAny_execs_nil ⟨σ1, H2, I2, q2⟩
end
structure It where
  go : Nat → Hp → Prop
  yld : Nat → Hp → V → Hp → Prop
  stop : Nat → Hp → Prop
def FpOk (X : Cx) (pins : List (Addr × Obj)) (H : Hp) (b : Addr) : Prop :=
  H b = none ∧ b ≠ X.env.locals ∧ b ∉ X.fs ∧ (b ∈ X.ex ∨ X.s₀.heap.objs.size ≤ b) ∧ (∀ x c, X.env.cells.lookup x = some c → c ≠ b) ∧ ∀ p ∈ X.pn ++ pins, p.1 ≠ b
theorem Inv.fpOk {X : Cx} {pins : List (Addr × Obj)} {σ : St} {H H' : Hp} {s : Shared} {b : Addr} (I : Inv X pins σ H s) (hb : s.heap.objs.size ≤ b) (hn : H' b = none) : FpOk X pins H' b := by
  refine ⟨hn, Nat.ne_of_gt (Nat.lt_of_lt_of_le I.lt hb), I.nofs hb, .inr (Nat.le_trans I.sz hb), fun x c e z => ?_, fun p hp z => ?_⟩
  · obtain ⟨v, q⟩ := I.cell x c e
    exact absurd (Nat.lt_of_lt_of_le q.lt (by rw [z]; exact hb)) (Nat.lt_irrefl _)
  · exact absurd (Nat.lt_of_lt_of_le (Heap.lt_size (I.pin p hp).1) (by rw [z]; exact hb)) (Nat.lt_irrefl _)
structure Turn (P : Program) (w : World) (K : PySem.W.Frag) (tg : Expr) (J : It) (fp : List Addr) (it : Addr) (tn : Nat → Heap → Prop) : Prop where
  mem : it ∈ fp
  obj : ∀ i h, tn i h → ∀ b ∈ fp, ∃ o, h.get? b = some o ∧ ∀ v, o.data ≠ .cell v
  keep : ∀ i h h', tn i h → (∀ b ∈ fp, ∀ o, h.get? b = some o → h'.get? b = some o) → tn i h'
  item : ∀ (X : Cx), X.prog = P → X.w = w → X.K = K → X.calm = true → ∀ (i : Nat) (pins : List (Addr × Obj)) (s : Shared) (σ : St) (H : Hp) (E : Value → Shared → Prop), Inv X pins σ H s → (∀ b ∈ fp, FpOk X pins H b) → tn i s.heap → J.go i H →
    wpAny (model P w) X.A (pyNext (.ref it)) (fun r s1 => ∃ u, r = some u ∧
      wpAny (model P w) X.A (letOwnedTupleGo tg (.ref it) u) (fun _ s2 => ∃ x H', Inv X pins σ H' s2 ∧ RelV x u ∧ J.yld i H x H' ∧ tn (i + 1) s2.heap ∧ ∀ b ∈ fp, H' b = none) E s1) E s
  done : ∀ (X : Cx), X.prog = P → X.w = w → X.K = K → X.calm = true → ∀ (i : Nat) (pins : List (Addr × Obj)) (s : Shared) (σ : St) (H : Hp) (E : Value → Shared → Prop), Inv X pins σ H s → (∀ b ∈ fp, FpOk X pins H b) → tn i s.heap → J.stop i H →
    wpAny (model P w) X.A (pyNext (.ref it)) (fun r s1 => r = none ∧ Inv X pins σ H s1) E s
  self : ∀ (A : Around) (i : Nat) (s : Shared) (Q : Value → Shared → Prop) (E : Value → Shared → Prop), tn i s.heap → Q (.ref it) s → wpAny (model P w) A (pyIter (.ref it)) Q E s
abbrev TI := St → Hp → (It → Hp → Prop) → Prop
def PIE (X : Cx) (pins : List (Addr × Obj)) (σ : St) (tg : Expr) (R : It → Hp → Prop) (itv : Value) (s2 : Shared) : Prop :=
  ∃ (it : Addr) (fp : List Addr) (tn : Nat → Heap → Prop) (J : It) (H' : Hp), itv = .ref it ∧ Inv X pins σ H' s2 ∧ Turn X.prog X.w X.K tg J fp it tn ∧ tn 0 s2.heap ∧ (∀ b ∈ fp, FpOk X pins H' b) ∧ R J H'
def PI (X : Cx) (tg iter : Expr) (wi : TI) : Prop :=
  ∀ (pins : List (Addr × Obj)) (s : Shared) (σ : St) (H : Hp) (R : It → Hp → Prop), Inv X pins σ H s → wi σ H R →
    wpAny (model X.prog X.w) X.A (eval iter X.env) (fun v s1 => wpAny (model X.prog X.w) X.A (pyIter v) (PIE X pins σ tg R) X.xe s1) X.xe s
theorem go_of {M : Model} {A : Around} {E : Value → Shared → Prop} {s : Shared} {tg : Expr} {it : Addr} {u : Value} {o : Obj} {n : String} {vs : Array Value} {Q : Unit → Shared → Prop} (ho : s.heap.get? it = some o) (hc : o.cls = .type n) (hd : o.data = .fields vs)
    (hn : ["enumerate", "zip", "dict_itemiterator", "dict_reverseitemiterator", "odict_iterator", "itertools.zip_longest", "itertools.pairwise"].contains n = false) (hQ : Q () s) : wpAny M A (letOwnedTupleGo tg (.ref it) u) Q E s := by
  unfold letOwnedTupleGo
  cases tg <;> first
    | exact wpAny_pure hQ
    | (cases u <;> first
        | exact wpAny_pure hQ
        | (refine wpAny_bind (wpAny_load ho ?_)
           rw [hc, hd]
           show wpAny M A (if (["enumerate", "zip", "dict_itemiterator", "dict_reverseitemiterator", "odict_iterator", "itertools.zip_longest", "itertools.pairwise"].contains n && vs[0]? == some (rawInt _)) = true then _ else _) Q E s
           rw [if_neg (by intro h; rw [hn, Bool.false_and] at h; cases h)]
           exact wpAny_pure hQ))
def Itl (K : PySem.W.Frag) (a : Addr) : It :=
  ⟨fun i H => ∃ xs x, SqL K H a xs ∧ xs[i]? = some x, fun i H x H' => H' = H ∧ ∀ xs, SqL K H a xs → xs[i]? = some x, fun i H => ∃ xs, SqL K H a xs ∧ xs.length ≤ i⟩
def Itt (K : PySem.W.Frag) (a : Addr) : It :=
  ⟨fun i H => ∃ xs x, SqT K H a xs ∧ xs[i]? = some x, fun i H x H' => H' = H ∧ ∀ xs, SqT K H a xs → xs[i]? = some x, fun i H => ∃ xs, SqT K H a xs ∧ xs.length ≤ i⟩
def Itr (lo : Int) (n : Nat) : It := ⟨fun i _ => i < n, fun i H x H' => H' = H ∧ x = .int (lo + i), fun i _ => n ≤ i⟩
theorem turn_list {P : Program} {w : World} {K : PySem.W.Frag} {tg : Expr} (a it : Addr) : Turn P w K tg (Itl K a) [it] it (fun i h => h.IsListIter it a i) where
  mem := by simp
  obj := fun i h st b hb => by
    have e : b = it := by simpa using hb
    subst e
    obtain ⟨o, e, c, d⟩ := st
    exact ⟨o, e, fun v z => by rw [d] at z; cases z⟩
  keep := fun i h h' st k => st.at fun o e => k it (by simp) o e
  item := by
    intro X hP hw hK hc i pins s σ H E I hf st hg
    subst hP hw hK
    obtain ⟨xs, x, hq, hx⟩ := hg
    obtain ⟨its, rv, p, hz⟩ := I.list hq
    obtain ⟨u, hu, ru⟩ := rv.get hx
    obtain ⟨f0, f1, f2, f3, f4, f5⟩ := hf it (by simp)
    refine wpAny_pyNext_list_item st p.isList (x := u) (by simpa using hu) fun h' st' sb => ?_
    have I1 : Inv X pins σ H { s with heap := h' } := I.turned (t' := s.toks) (fun b o hb e => (sb.2 b hb).trans e) f0 f1 f3 f4 f5
    obtain ⟨o, e, c, d⟩ := id st'
    exact ⟨u, rfl, go_of (s := { s with heap := h' }) e c d (by decide) ⟨x, H, I1, ru, ⟨rfl, fun ys hy => by rw [I.list_inj hy hq]; exact hx⟩, st', fun b hb => (hf b hb).1⟩⟩
  done := by
    intro X hP hw hK hc i pins s σ H E I hf st hg
    subst hP hw hK
    obtain ⟨xs, hq, hx⟩ := hg
    obtain ⟨its, rv, p, hz⟩ := I.list hq
    obtain ⟨f0, f1, f2, f3, f4, f5⟩ := hf it (by simp)
    have hl := rv.length
    exact wpAny_pyNext_list_end (I.ok.hd hc) st p.isList (by simp; omega) fun h' eb => ⟨rfl, I.turned (t' := s.toks) (fun b o hb e => eb b o hb e) f0 f1 f3 f4 f5⟩
  self := fun _ _ _ _ _ st h => wpAny_pyIter_listiter st h
theorem turn_tuple {P : Program} {w : World} {K : PySem.W.Frag} {tg : Expr} (a it : Addr) : Turn P w K tg (Itt K a) [it] it (fun i h => h.IsTupleIter it a i) where
  mem := by simp
  obj := fun i h st b hb => by
    have e : b = it := by simpa using hb
    subst e
    obtain ⟨o, e, c, d⟩ := st
    exact ⟨o, e, fun v z => by rw [d] at z; cases z⟩
  keep := fun i h h' st k => st.at fun o e => k it (by simp) o e
  item := by
    intro X hP hw hK hc i pins s σ H E I hf st hg
    subst hP hw hK
    obtain ⟨xs, x, hq, hx⟩ := hg
    obtain ⟨its, rv, p, hz⟩ := I.tuple hq
    obtain ⟨u, hu, ru⟩ := rv.get hx
    obtain ⟨f0, f1, f2, f3, f4, f5⟩ := hf it (by simp)
    refine wpAny_pyNext_tuple_item st (show s.heap.IsTuple a its.toArray from p) (x := u) (by simpa using hu) fun h' st' sb => ?_
    have I1 : Inv X pins σ H { s with heap := h' } := I.turned (t' := s.toks) (fun b o hb e => (sb.2 b hb).trans e) f0 f1 f3 f4 f5
    obtain ⟨o, e, c, d⟩ := id st'
    exact ⟨u, rfl, go_of (s := { s with heap := h' }) e c d (by decide) ⟨x, H, I1, ru, ⟨rfl, fun ys hy => by rw [I.tuple_inj hy hq]; exact hx⟩, st', fun b hb => (hf b hb).1⟩⟩
  done := by
    intro X hP hw hK hc i pins s σ H E I hf st hg
    subst hP hw hK
    obtain ⟨xs, hq, hx⟩ := hg
    obtain ⟨its, rv, p, hz⟩ := I.tuple hq
    obtain ⟨f0, f1, f2, f3, f4, f5⟩ := hf it (by simp)
    have hl := rv.length
    exact wpAny_pyNext_tuple_end (I.ok.hd hc) st (show s.heap.IsTuple a its.toArray from p) (by simp; omega) fun h' eb => ⟨rfl, I.turned (t' := s.toks) (fun b o hb e => eb b o hb e) f0 f1 f3 f4 f5⟩
  self := fun _ _ _ _ _ st h => wpAny_pyIter_tupleiter st h
theorem turn_range {P : Program} {w : World} {K : PySem.W.Frag} {tg : Expr} (it : Addr) (lo : Int) (n : Nat) : Turn P w K tg (Itr lo n) [it] it (fun i h => IsRangeIter h it (lo + (i : Nat) * 1) ((n : Int) - (i : Nat)) 1) where
  mem := by simp
  obj := fun i h st b hb => by
    have e : b = it := by simpa using hb
    subst e
    exact ⟨_, st, fun v z => by
      have z' : Data.fields _ = Data.cell v := z
      cases z'⟩
  keep := fun i h h' st k => k it (by simp) _ st
  item := by
    intro X hP hw hK hc i pins s σ H E I hf st hg
    subst hP hw hK
    obtain ⟨f0, f1, f2, f3, f4, f5⟩ := hf it (by simp)
    have W := Walks.range (prog := X.prog) (w := X.w) (I.ok.hd hc) it lo 1 n
    refine W.item i s _ _ hg st fun v h' tk hv st' kk => ?_
    obtain ⟨t, rfl⟩ := hv
    have I1 : Inv X pins σ H { s with heap := h', toks := tk } := I.turned (fun b o hb e => kk b o (by simpa using hb) e) f0 f1 f3 f4 f5
    refine ⟨_, rfl, go_of (s := { s with heap := h', toks := tk }) (n := "range_iterator") st' rfl rfl (by decide) ⟨.int (lo + i), H, I1, ⟨t, ?_⟩, ⟨rfl, rfl⟩, st', fun b hb => (hf b hb).1⟩⟩
    rw [Int.mul_one]
  done := by
    intro X hP hw hK hc i pins s σ H E I hf st hg
    subst hP hw hK
    obtain ⟨f0, f1, f2, f3, f4, f5⟩ := hf it (by simp)
    exact wpAny_pyNext_range_end (I.ok.hd hc) st (by have : n ≤ i := hg; omega) fun h' eb => ⟨rfl, I.turned (t' := s.toks) (fun b o hb e => eb b o hb e) f0 f1 f3 f4 f5⟩
  self := fun _ _ _ _ _ st h => wpAny_pyIter_rangeiter st h
end L2
namespace L2
open PySem PySem.Spec PyProof.Rows
section
variable {X : Cx} {tg : Expr}
theorem range_it {pins : List (Addr × Obj)} {σ : St} {H : Hp} {s : Shared} {R : It → Hp → Prop} {E : Value → Shared → Prop} {lo hi : Int} {t u v : Tok} {tk : Nat} (I : Inv X pins σ H s) (h1 : -(2 ^ 62) ≤ lo) (h2 : lo < 2 ^ 62) (h3 : -(2 ^ 62) ≤ hi) (h4 : hi < 2 ^ 62)
    (q : R (Itr lo (hi - lo).toNat) H) : wpAny (model X.prog X.w) X.A (pyIter (.ref s.heap.objs.size)) (PIE X pins σ tg R) E { s with heap := s.heap.push { cls := .type "range", data := .fields #[.int lo t, .int hi u, .int 1 v] }, toks := tk } := by
  refine wpAny_pyIter_range (IsRange.new ..) (small_one h1 h2 h3 h4) ?_
  have I1 : Inv X pins σ H { s with heap := s.heap.push { cls := .type "range", data := .fields #[.int lo t, .int hi u, .int 1 v] }, toks := tk } := I.kept fun b o e => Heap.get?_push_of_some _ e
  refine ⟨(s.heap.push { cls := .type "range", data := .fields #[.int lo t, .int hi u, .int 1 v] }).objs.size, [(s.heap.push { cls := .type "range", data := .fields #[.int lo t, .int hi u, .int 1 v] }).objs.size], _, _, H, rfl,
    I1.kept (t' := tk) fun b o e => Heap.get?_push_of_some _ e, turn_range _ lo (hi - lo).toNat, ?_, fun b hb => ?_, q⟩
  · have e1 : lo + ((0 : Nat) : Int) * 1 = lo := by simp
    have e2 : (((hi - lo).toNat : Nat) : Int) - ((0 : Nat) : Int) = Builtin.Range.rangeSize lo hi 1 := by rw [rangeSize_one]; split <;> omega
    show IsRangeIter _ _ (lo + ((0 : Nat) : Int) * 1) ((((hi - lo).toNat : Nat) : Int) - ((0 : Nat) : Int)) 1
    rw [e1, e2]
    exact Heap.get?_push_size _ rfl
  · have e : b = (s.heap.push { cls := .type "range", data := .fields #[.int lo t, .int hi u, .int 1 v] }).objs.size := by simpa using hb
    subst e
    exact I1.fpOk (Nat.le_refl _) (I1.hok.fresh (Nat.le_refl _))
def iRng1 (ta : TA) : TI := fun σ H R => ta σ H fun vs H1 => ∃ j : Int, vs = [.int j] ∧ -(2 ^ 62) ≤ j ∧ j < 2 ^ 62 ∧ R (Itr 0 j.toNat) H1
def iRng2 (ta : TA) : TI := fun σ H R => ta σ H fun vs H1 => ∃ i j : Int, vs = [.int i, .int j] ∧ (-(2 ^ 62) ≤ i ∧ i < 2 ^ 62 ∧ -(2 ^ 62) ≤ j ∧ j < 2 ^ 62) ∧ R (Itr i (j - i).toNat) H1
theorem pi_range1 {a : Expr} {ta : TA} {p pos : Pos} (hg : Gl X "range") (hm : X.mg "range" = none) (ha : PA X [a] ta) (hs : starEach [a] X.env = [(false, eval a X.env)] := by rfl) : PI X tg (.Call (.Name "range" p) [a] [] pos) (iRng1 ta) := by
  intro pins s σ H R I h
  refine Call_ (ld_blt I hg hm boot_range (PyProof.Rows.callWith_type1 (thn (ha pos pins s σ H _ I h) fun us s1 ⟨vs, H1, I1, r1, q1⟩ => ?_) hs rfl))
  obtain ⟨j, e, q1, q2, q⟩ := q1
  subst e
  cases r1 with
  | cons r rr =>
    cases rr
    obtain ⟨t, rfl⟩ := r
    exact call_range_1 (range_it I1 (by omega) (by omega) q1 q2 (by simpa using q))
theorem pi_range2 {a b : Expr} {ta : TA} {p pos : Pos} (hg : Gl X "range") (hm : X.mg "range" = none) (ha : PA X [a, b] ta) (hs : starEach [a, b] X.env = [(false, eval a X.env), (false, eval b X.env)] := by rfl) (hs2 : starEach [b] X.env = [(false, eval b X.env)] := by rfl) :
    PI X tg (.Call (.Name "range" p) [a, b] [] pos) (iRng2 ta) := by
  intro pins s σ H R I h
  refine Call_ (ld_blt I hg hm boot_range (PyProof.Rows.callWith_type1 (thn (ha pos pins s σ H _ I h) fun us s1 ⟨vs, H1, I1, r1, q1⟩ => ?_) (by rw [hs, hs2]) (by rw [hs2]; rfl)))
  obtain ⟨i, j, e, ⟨q1, q2, q3, q4⟩, q⟩ := q1
  subst e
  cases r1 with
  | cons r rr =>
    cases rr with
    | cons r' rr =>
      cases rr
      obtain ⟨t, rfl⟩ := r
      obtain ⟨t', rfl⟩ := r'
      exact call_range_2 (range_it I1 q1 q2 q3 q4 q)
def tFor (wi : TI) (g : TG) (tb : TS) : TS := fun D σ H => wi σ H fun J H1 => ∃ W : Nat → Nat → St → Hp → Prop, (∃ m, W 0 m σ H1) ∧ ∀ i m σ H, W i m σ H →
  (J.stop i H ∧ D.nx σ H) ∨ (J.go i H ∧ ∃ N : St → Hp → Prop, (∀ σ' H', N σ' H' → ∃ m', m' < m ∧ W (i + 1) m' σ' H') ∧ ∀ x H', J.yld i H x H' → g x σ H' fun σ2 H2 => tb { D with nx := N, ct := N, bk := D.nx } σ2 H2)
def pinsAt (fp : List Addr) (h : Heap) : List (Addr × Obj) := fp.filterMap fun b => (h.get? b).map fun o => (b, o)
theorem mem_pinsAt {fp : List Addr} {h : Heap} {b : Addr} {o : Obj} (hb : b ∈ fp) (e : h.get? b = some o) : (b, o) ∈ pinsAt fp h := List.mem_filterMap.mpr ⟨b, hb, by rw [e]; rfl⟩
theorem of_pinsAt {fp : List Addr} {h : Heap} {p : Addr × Obj} (hp : p ∈ pinsAt fp h) : p.1 ∈ fp ∧ h.get? p.1 = some p.2 := by
  obtain ⟨b, hb, e⟩ := List.mem_filterMap.mp hp
  cases q : h.get? b with
  | none => rw [q] at e; cases e
  | some o =>
    rw [q] at e
    have e' : (b, o) = p := Option.some.inj e
    subst e'
    exact ⟨hb, q⟩
theorem Inv.pinned {pins : List (Addr × Obj)} {σ : St} {H : Hp} {s : Shared} {fp : List Addr} (I : Inv X pins σ H s) (hf : ∀ b ∈ fp, FpOk X pins H b) (ho : ∀ b ∈ fp, ∃ o, s.heap.get? b = some o ∧ ∀ v, o.data ≠ .cell v) : Inv X (pins ++ pinsAt fp s.heap) σ H s :=
  I.pins_of fun p hp => (List.mem_append.mp hp).elim (fun z => I.pin p (List.mem_append_right _ z)) fun z => by
    obtain ⟨hb, e⟩ := of_pinsAt z
    obtain ⟨f0, f1, f2, _⟩ := hf p.1 hb
    obtain ⟨o, e', d⟩ := ho p.1 hb
    rw [e] at e'; cases e'
    exact ⟨e, f0, f1, f2, d⟩
theorem Inv.unpinned {pins pl : List (Addr × Obj)} {σ : St} {H : Hp} {s : Shared} (I : Inv X (pins ++ pl) σ H s) : Inv X pins σ H s := I.pins_of fun p hp => I.pin p (List.mem_append_right _ (List.mem_append_left _ hp))
theorem ps_for {iter : Expr} {body : List Stmt} {wi : TI} {g : TG} {tb : TS} {pos : Pos} (hp : PassesOwn (model X.prog X.w) X.A X.env X.xe) (hc : X.calm = true) (hi : PI X tg iter wi) (hg : PG X tg g) (hb : PSs X body tb)
    (hs : ∀ x, foldedSetIterable iter X.env x = pure x := by intro _; rfl) : PS X (.For tg iter body [] pos) (tFor wi g tb) := by
  intro pins s σ H D I h
  refine wpAny_For (thn (hi pins s σ H _ I h) fun v s1 h1 => thn h1 fun itv s2 h2 => ?_) hs
  obtain ⟨it, fp, tn, J, H2, e, I2, T, st2, f2, W, ⟨m0, w0⟩, turn⟩ := h2
  subst e
  have stat : ∀ {H' : Hp}, (∀ b ∈ fp, H' b = none) → ∀ b ∈ fp, FpOk X pins H' b := fun hn b hb => ⟨hn b hb, (f2 b hb).2⟩
  refine codeAny_forLoop_any (fun n s' => ∃ i σ' H', Inv X pins σ' H' s' ∧ tn i s'.heap ∧ (∀ b ∈ fp, H' b = none) ∧ W i n σ' H') ?_ m0 ⟨0, σ, H2, I2, st2, fun b hb => (f2 b hb).1, w0⟩
  rintro n s3 ⟨i, σ3, H3, I3, st3, fr3, w3⟩
  rcases turn i n σ3 H3 w3 with ⟨stop, qn⟩ | ⟨go, N, hN, step⟩
  · refine wpAny_passesOwn hp (thn (T.done X rfl rfl rfl hc i pins s3 σ3 H3 X.xe I3 (stat fr3) st3 stop) fun r s4 ⟨hr, I4⟩ => ?_)
    subst hr
    exact wpAny_execs_nil ⟨σ3, H3, I4, qn⟩
  · refine wpAny_passesOwn hp (thn (T.item X rfl rfl rfl hc i pins s3 σ3 H3 X.xe I3 (stat fr3) st3 go) fun r s4 ⟨u, hr, h4⟩ => ?_)
    subst hr
    refine wpAny_passesOwn hp (thn h4 fun _ s5 ⟨x, H5, I5, r5, y5, st5, fr5⟩ => ?_)
    have I5' := I5.pinned (stat fr5) (T.obj _ _ st5)
    refine wpAny_passesOwn hp (thn (hg _ s5 σ3 H5 x u _ I5' r5 (step x H5 y5)) fun _ s6 ⟨σ6, H6, I6, q6⟩ => ?_)
    refine wpAny_passesOwn hp (thn (hb _ s6 σ6 H6 _ I6 q6) fun f s7 q7 => ?_)
    have again : ∀ {σ7 : St} {H7 : Hp}, Inv X (pins ++ pinsAt fp s5.heap) σ7 H7 s7 → N σ7 H7 → ∃ m, m < n ∧ ∃ i σ' H', Inv X pins σ' H' s7 ∧ tn i s7.heap ∧ (∀ b ∈ fp, H' b = none) ∧ W i m σ' H' := fun {σ7 H7} I7 n7 => by
      obtain ⟨m', hm, w7⟩ := hN σ7 H7 n7
      refine ⟨m', hm, i + 1, σ7, H7, I7.unpinned, T.keep _ _ _ st5 fun b hb o e => (I7.pin (b, o) (List.mem_append_right _ (List.mem_append_right _ (mem_pinsAt hb e)))).1, fun b hb => ?_, w7⟩
      obtain ⟨o, e, d⟩ := T.obj _ _ st5 b hb
      exact (I7.pin (b, o) (List.mem_append_right _ (List.mem_append_right _ (mem_pinsAt hb e)))).2.1
    cases f with
    | next => obtain ⟨σ7, H7, I7, n7⟩ := q7; exact again I7 n7
    | cont => obtain ⟨σ7, H7, I7, n7⟩ := q7; exact again I7 n7
    | brk => obtain ⟨σ7, H7, I7, q7⟩ := q7; exact ⟨σ7, H7, I7.unpinned, q7⟩
    | ret v => obtain ⟨x7, σ7, H7, I7, r7, q7⟩ := q7; exact ⟨x7, σ7, H7, I7.unpinned, r7, q7⟩
end
end L2
namespace L2
open PySem PySem.Spec PyProof.Rows
abbrev R2 := V → V → Hp → VK → Prop
def OpR (X : Cx) (f : Value → Value → Sem Value) (r : R2) : Prop :=
  ∀ (pins : List (Addr × Obj)) (s : Shared) (σ : St) (H : Hp) (x y : V) (v u : Value) (Q : VK), Inv X pins σ H s → RelV x v → RelV y u → r x y H Q →
    wpAny (model X.prog X.w) X.A (f v u) (EP X pins σ Q) X.xe s
def UnR (X : Cx) (f : Value → Sem Value) (r : V → Hp → VK → Prop) : Prop :=
  ∀ (pins : List (Addr × Obj)) (s : Shared) (σ : St) (H : Hp) (x : V) (v : Value) (Q : VK), Inv X pins σ H s → RelV x v → r x H Q →
    wpAny (model X.prog X.w) X.A (f v) (EP X pins σ Q) X.xe s
def CallR (X : Cx) (f : Value) (r : List V → Hp → VK → Prop) : Prop :=
  ∀ (pins : List (Addr × Obj)) (s : Shared) (σ : St) (H : Hp) (xs : List V) (us : List Value) (Q : VK), Inv X pins σ H s → Vals xs us → r xs H Q →
    wpAny (model X.prog X.w) X.A (call f us) (EP X pins σ Q) X.xe s
def TruR (X : Cx) (r : V → Hp → (Bool → Hp → Prop) → Prop) : Prop :=
  ∀ (pins : List (Addr × Obj)) (s : Shared) (σ : St) (H : Hp) (x : V) (v : Value) (Q : Bool → Hp → Prop), Inv X pins σ H s → RelV x v → r x H Q →
    wpAny (model X.prog X.w) X.A (truthy v) (TP X pins σ Q) X.xe s
def tOp (r : R2) (ta tb : TE) : TE := fun σ H Q => ta σ H fun x H1 => tb σ H1 fun y H2 => r x y H2 Q
def tUn (r : V → Hp → VK → Prop) (ta : TE) : TE := fun σ H Q => ta σ H fun x H1 => r x H1 Q
def rI (C : Int → Int → Prop) (g : Int → Int → V) : R2 := fun x y H Q => ∃ i j, x = .int i ∧ y = .int j ∧ C i j ∧ Q (g i j) H
def rI0 (g : Int → Int → V) : R2 := fun x y H Q => ∃ i j, x = .int i ∧ y = .int j ∧ Q (g i j) H
def rU (g : Int → V) : V → Hp → VK → Prop := fun x H Q => ∃ i, x = .int i ∧ Q (g i) H
section
variable {X : Cx} {a b c : Expr} {ta tb tc : TE} {pos : Pos}
theorem binT (ha : PE X a ta) (hb : PE X b tb) {pins : List (Addr × Obj)} {s : Shared} {σ : St} {H : Hp} {R : V → V → Hp → Prop} (I : Inv X pins σ H s)
    (h : ta σ H fun x H1 => tb σ H1 fun y H2 => R x y H2) {Q : Value → Shared → Prop} {f : Value → Value → Sem Value}
    (hf : ∀ v u s2 x y H2, Inv X pins σ H2 s2 → RelV x v → RelV y u → R x y H2 → wpAny (model X.prog X.w) X.A (f v u) Q X.xe s2) :
    wpAny (model X.prog X.w) X.A (eval a X.env) (fun v s₁ => wpAny (model X.prog X.w) X.A (eval b X.env) (fun u s₂ => wpAny (model X.prog X.w) X.A (f v u) Q X.xe s₂) X.xe s₁) X.xe s := by
  refine thn (ha pins s σ H _ I h) fun v s1 ⟨x, H1, I1, r1, q1⟩ => ?_
  refine thn (hb pins s1 σ H1 _ I1 q1) fun u s2 ⟨y, H2, I2, r2, q2⟩ => ?_
  exact hf v u s2 x y H2 I2 r1 r2 q2
theorem pe_op {op : Operator} {r : R2} (ho : OpR X (binaryOp op) r) (ha : PE X a ta) (hb : PE X b tb) : PE X (.BinOp a op b pos) (tOp r ta tb) := by
  intro pins s σ H Q I h
  exact wpAny_BinOp (binT ha hb I h fun v u s2 x y H2 I2 rx ry q => ho pins s2 σ H2 x y v u Q I2 rx ry q)
theorem pe_un {op : UnaryOp} {r : V → Hp → VK → Prop} (ho : UnR X (unaryOp op) r) (ha : PE X a ta) : PE X (.UnaryOp op a pos) (tUn r ta) := by
  intro pins s σ H Q I h
  exact UnaryOp_ (thn (ha pins s σ H _ I h) fun v s1 ⟨x, H1, I1, r1, q1⟩ => ho pins s1 σ H1 x v Q I1 r1 q1)
theorem opI {f : Value → Value → Sem Value} {C : Int → Int → Prop} {g : Int → Int → Int}
    (rule : ∀ (i j : Int) (t u : Tok) (s : Shared) (Q : Value → Shared → Prop) (E : Value → Shared → Prop), C i j → Q (.int (g i j) s.toks) { s with toks := s.toks + 1 } → wpAny (model X.prog X.w) X.A (f (.int i t) (.int j u)) Q E s) :
    OpR X f (rI C fun i j => .int (g i j)) := by
  intro pins s σ H x y v u Q I rx ry h
  obtain ⟨i, j, rfl, rfl, hc, q⟩ := h
  obtain ⟨t, rfl⟩ := rx
  obtain ⟨t', rfl⟩ := ry
  exact rule i j t t' s _ _ hc ⟨.int (g i j), H, I.tok _, ⟨_, rfl⟩, q⟩
theorem opI0 {f : Value → Value → Sem Value} {g : Int → Int → Int}
    (rule : ∀ (i j : Int) (t u : Tok) (s : Shared) (Q : Value → Shared → Prop) (E : Value → Shared → Prop), Q (.int (g i j) s.toks) { s with toks := s.toks + 1 } → wpAny (model X.prog X.w) X.A (f (.int i t) (.int j u)) Q E s) :
    OpR X f (rI0 fun i j => .int (g i j)) := by
  intro pins s σ H x y v u Q I rx ry h
  obtain ⟨i, j, rfl, rfl, q⟩ := h
  obtain ⟨t, rfl⟩ := rx
  obtain ⟨t', rfl⟩ := ry
  exact rule i j t t' s _ _ ⟨.int (g i j), H, I.tok _, ⟨_, rfl⟩, q⟩
theorem opB0 {f : Value → Value → Sem Value} {g : Int → Int → Bool}
    (rule : ∀ (i j : Int) (t u : Tok) (s : Shared) (Q : Value → Shared → Prop) (E : Value → Shared → Prop), Q (.bool (g i j)) s → wpAny (model X.prog X.w) X.A (f (.int i t) (.int j u)) Q E s) :
    OpR X f (rI0 fun i j => .bl (g i j)) := by
  intro pins s σ H x y v u Q I rx ry h
  obtain ⟨i, j, rfl, rfl, q⟩ := h
  obtain ⟨t, rfl⟩ := rx
  obtain ⟨t', rfl⟩ := ry
  exact rule i j t t' s _ _ ⟨.bl (g i j), H, I, rfl, q⟩
def CDiv (i j : Int) : Prop := 0 < j ∧ j < 1073741824
def CPow (i j : Int) : Prop := 0 ≤ j ∧ j ≤ 1000000 ∧ i.natAbs < 2 ^ 64
def CMul (i j : Int) : Prop := (-(2 ^ 64) < i ∧ i < 2 ^ 64) ∨ (-(2 ^ 64) < j ∧ j < 2 ^ 64)
theorem CMul.ok {i j : Int} (h : CMul i j) : IntMulOk i j := by
  rcases h with ⟨h1, h2⟩ | ⟨h1, h2⟩
  · exact .of_left (intBits_le_64 h1 h2)
  · exact .of_right (intBits_le_64 h1 h2)
theorem op_add : OpR X (binaryOp .Add) (rI0 fun i j => .int (i + j)) := opI0 fun _ _ _ _ _ _ _ q => add_int q
theorem op_sub : OpR X (binaryOp .Sub) (rI0 fun i j => .int (i - j)) := opI0 fun _ _ _ _ _ _ _ q => sub_int q
theorem op_mul : OpR X (binaryOp .Mult) (rI CMul fun i j => .int (i * j)) := opI fun _ _ _ _ _ _ _ hc q => mul_int q hc.ok
theorem op_fdiv : OpR X (binaryOp .FloorDiv) (rI CDiv fun i j => .int (i / j)) := opI fun i j _ _ _ _ _ hc q => by
  have h1 : (0 : Int) < j := hc.1
  have h2 : j < 1073741824 := hc.2
  exact floordiv_int (by omega) (by rw [Int.fdiv_eq_ediv_of_nonneg i (by omega)]; exact q) (.inl (PyProof.noPylong_small (by omega)))
theorem op_mod : OpR X (binaryOp .Mod) (rI (fun _ j => 0 < j) fun i j => .int (i % j)) := opI fun i j _ _ _ _ _ hc q => by
  have h1 : (0 : Int) < j := hc
  exact mod_int' (by omega) (by rw [Int.fmod_eq_emod_of_nonneg i (by omega)]; exact q)
theorem op_pow : OpR X (binaryOp .Pow) (rI CPow fun i j => .int (i ^ j.toNat)) := opI fun _ _ _ _ _ _ _ hc q => pow_int_small hc.1 hc.2.1 hc.2.2 q
theorem iop_add : OpR X (inplaceOp .Add) (rI0 fun i j => .int (i + j)) := opI0 fun _ _ _ _ _ _ _ q => iadd_int q
theorem iop_sub : OpR X (inplaceOp .Sub) (rI0 fun i j => .int (i - j)) := opI0 fun _ _ _ _ _ _ _ q => isub_int q
theorem unI {f : Value → Sem Value} {g : Int → Int}
    (rule : ∀ (i : Int) (t : Tok) (s : Shared) (Q : Value → Shared → Prop) (E : Value → Shared → Prop), Q (.int (g i) s.toks) { s with toks := s.toks + 1 } → wpAny (model X.prog X.w) X.A (f (.int i t)) Q E s) :
    UnR X f (rU fun i => .int (g i)) := by
  intro pins s σ H x v Q I rx h
  obtain ⟨i, rfl, q⟩ := h
  obtain ⟨t, rfl⟩ := rx
  exact rule i t s _ _ ⟨.int (g i), H, I.tok _, ⟨_, rfl⟩, q⟩
theorem un_neg : UnR X (unaryOp .USub) (rU fun i => .int (-i)) := unI fun _ _ _ _ _ q => neg_int q
end
section
variable {X : Cx} {a b c : Expr} {ta tb tc : TE} {pos : Pos}
theorem fin_bl {pins : List (Addr × Obj)} {σ : St} {H : Hp} {s : Shared} {Q : VK} {k k' : Bool} (I : Inv X pins σ H s) (q : Q (.bl k) H) (e : k = k') : EP X pins σ Q (.bool k') s := by
  subst e
  exact ⟨.bl k, H, I, rfl, q⟩
theorem op_lt : OpR X (compareOp .Lt) (rI0 fun i j => .bl (decide (i < j))) := opB0 fun _ _ _ _ _ _ _ q => lt_int q
theorem op_le : OpR X (compareOp .LtE) (rI0 fun i j => .bl (decide (i ≤ j))) := opB0 fun _ _ _ _ _ _ _ q => le_int q
theorem op_gt : OpR X (compareOp .Gt) (rI0 fun i j => .bl (decide (j < i))) := opB0 fun _ _ _ _ _ _ _ q => gt_int q
theorem op_ge : OpR X (compareOp .GtE) (rI0 fun i j => .bl (decide (j ≤ i))) := opB0 fun _ _ _ _ _ _ _ q => ge_int q
theorem op_in_str : OpR X (compareOp .In) (fun x y H Q => ∃ i j, x = .str i ∧ y = .str j ∧ Q (.bl (!(Builtin.Str.occurrences j i 0 j.length 1).isEmpty)) H) := by
  intro pins s σ H x y v u Q I rx ry h
  obtain ⟨i, j, rfl, rfl, q⟩ := h
  obtain ⟨t, rfl⟩ := rx
  obtain ⟨t', rfl⟩ := ry
  exact in_str (fin_bl I q rfl)
theorem op_isN : OpR X (compareOp .Is) (fun x y H Q => y = .non ∧ Q (.bl (decide (x = .non))) H) := by
  intro pins s σ H x y v u Q I rx ry h
  obtain ⟨rfl, q⟩ := h
  cases ry
  refine is_none_gen (fin_bl I q ?_)
  cases x <;> first
    | (cases rx; rfl)
    | (obtain ⟨t, rfl⟩ := rx; rfl)
theorem op_notN : OpR X (compareOp .IsNot) (fun x y H Q => y = .non ∧ Q (.bl (!decide (x = .non))) H) := by
  intro pins s σ H x y v u Q I rx ry h
  obtain ⟨rfl, q⟩ := h
  cases ry
  refine isnot_none_gen (fin_bl I q ?_)
  cases x <;> first
    | (cases rx; rfl)
    | (obtain ⟨t, rfl⟩ := rx; rfl)
theorem op_notin_str : OpR X (compareOp .NotIn) (fun x y H Q => ∃ i j, x = .str i ∧ y = .str j ∧ Q (.bl (!(!(Builtin.Str.occurrences j i 0 j.length 1).isEmpty))) H) := by
  intro pins s σ H x y v u Q I rx ry h
  obtain ⟨i, j, rfl, rfl, q⟩ := h
  obtain ⟨t, rfl⟩ := rx
  obtain ⟨t', rfl⟩ := ry
  exact notIn_str (fin_bl I q rfl)
theorem pe_cmpR {op : CmpOp} {r : R2} (ho : OpR X (compareOp op) r) (ha : PE X a ta) (hb : PE X b tb) (hm : behindInMarks op b = false) : PE X (.Compare a [op] [b] pos) (tOp r ta tb) := by
  intro pins s σ H Q I h
  exact wpAny_Compare1 (binT ha hb I h fun v u s2 x y H2 I2 rx ry q => ho pins s2 σ H2 x y v u Q I2 rx ry q) hm
def tTest (t : TE) : TT := fun σ H Q => t σ H fun x H' => ∃ k, x = .bl k ∧ Q k H'
theorem pt_cmpR {op : CmpOp} {r : R2} (ho : OpR X (compareOp op) r) (ha : PE X a ta) (hb : PE X b tb) (hm : behindInMarks op b = false) : PT X (.Compare a [op] [b] pos) (tTest (tOp r ta tb)) := by
  intro pins s σ H Q I h
  refine wpAny_isTrue_Compare1 (thn (ha pins s σ H _ I h) fun v s1 ⟨x, H1, I1, r1, q1⟩ => thn (hb pins s1 σ H1 _ I1 q1) fun u s2 ⟨y, H2, I2, r2, q2⟩ =>
    thn (ho pins s2 σ H2 x y v u _ I2 r1 r2 q2) fun c s3 ⟨z, H3, I3, r3, k, e, q3⟩ => ?_) hm
  subst e
  cases r3
  exact wpAny_truthy_bool ⟨H3, I3, q3⟩
def TruV (K : PySem.W.Frag) (x : V) (H : Hp) (k : Bool) : Prop :=
  match x with
  | .non => k = false
  | .bl b => k = b
  | .int i => k = (i != 0)
  | .str y => y.length ≤ sizeLine ∧ k = ((y.length : Int) != 0)
  | .byt y => y.size ≤ sizeLine ∧ k = ((y.size : Int) != 0)
  | .ref p => (∃ xs, SqL K H p xs ∧ k = !xs.isEmpty) ∨ (∃ xs, SqT K H p xs ∧ k = !xs.isEmpty) ∨ ∃ kvs, H p = some (.dK kvs) ∧ k = !kvs.isEmpty
  | _ => False
theorem isEmpty_kv {κ : Type} {kvs : List (κ × V)} {vs : List (κ × Value)} (r : KV kvs vs) : (!vs.isEmpty) = !kvs.isEmpty := by
  cases r <;> rfl
theorem isEmpty_of {xs : List V} {its : List Value} (r : Vals xs its) : (!its.toArray.isEmpty) = !xs.isEmpty := by
  cases r <;> simp
theorem line63 : (sizeLine : Nat) < 2 ^ 63 := by rw [sizeLine_eq]; decide
theorem tru_ok : TruR X (fun x H Q => ∃ k, TruV X.K x H k ∧ Q k H) := by
  intro pins s σ H x v Q I rx h
  obtain ⟨k, e, q⟩ := h
  have hl := line63
  have hs : sizeLine = 16777216 := sizeLine_eq
  cases x with
  | non =>
    cases rx
    have e' : k = false := e
    subst e'
    exact truthy_none ⟨H, I, q⟩
  | bl b =>
    cases rx
    have e' : k = b := e
    subst e'
    exact wpAny_truthy_bool ⟨H, I, q⟩
  | int i =>
    obtain ⟨t, rfl⟩ := rx
    have e' : k = (i != 0) := e
    subst e'
    exact PySem.P.truthy_int ⟨H, I, q⟩
  | str y =>
    obtain ⟨t, rfl⟩ := rx
    obtain ⟨hy, e'⟩ : y.length ≤ sizeLine ∧ k = ((y.length : Int) != 0) := e
    subst e'
    exact PySem.P.truthy_str (by omega) ⟨H, I.tok _, q⟩
  | byt y =>
    obtain ⟨t, rfl⟩ := rx
    obtain ⟨hy, e'⟩ : y.size ≤ sizeLine ∧ k = ((y.size : Int) != 0) := e
    subst e'
    exact PySem.W.truthy_bytes (by omega) ⟨H, I.tok _, q⟩
  | ref p =>
    cases rx
    have e' : (∃ xs, SqL X.K H p xs ∧ k = !xs.isEmpty) ∨ (∃ xs, SqT X.K H p xs ∧ k = !xs.isEmpty) ∨ ∃ kvs, H p = some (.dK kvs) ∧ k = !kvs.isEmpty := e
    rcases e' with ⟨xs, hx, e'⟩ | ⟨xs, hx, e'⟩ | ⟨kvs, hx, e'⟩
    · subst e'
      obtain ⟨its, r, pl, hz⟩ := I.list hx
      have hlen := r.length
      exact wpAny_truthy_list pl.isList (by simp only [List.size_toArray]; omega) ⟨H, I.tok _, by rw [isEmpty_of r]; exact q⟩
    · subst e'
      obtain ⟨its, r, pl, hz⟩ := I.tuple hx
      have hlen := r.length
      exact truthy_tuple pl (by simp only [List.size_toArray]; omega) ⟨H, I.tok _, by rw [isEmpty_of r]; exact q⟩
    · subst e'
      obtain ⟨hz, hS, vs, r, m⟩ : kvs.length ≤ sizeLine ∧ (p == sysModules) = false ∧ ∃ vs, KV kvs vs ∧ s.heap.DictOf (mixKind X.prog X.w) p vs := I.hok p _ hx
      have hlen : kvs.length = vs.length := Paired.length r
      exact wpAny_truthy_dict hS m (by omega) ⟨H, I.tok _, by rw [isEmpty_kv r]; exact q⟩
  | _ => exact (show False from e).elim
theorem pt_truth (ha : PE X a ta) (he : ∀ whole, isTrue a X.env whole = (do let v ← whole; standAt a.pos; holding [v] (truthy v))) :
    PT X a (fun σ H Q => ta σ H fun x H' => ∃ k, TruV X.K x H' k ∧ Q k H') := by
  intro pins s σ H Q I h
  exact isTrue_plain (thn (ha pins s σ H _ I h) fun v s1 ⟨x, H1, I1, r1, q1⟩ => tru_ok pins s1 σ H1 x v Q I1 r1 q1) (he _)
theorem op_add_str : OpR X (binaryOp .Add) (fun x y H Q => ∃ i j, x = .str i ∧ y = .str j ∧ i.length + j.length ≤ sizeLine ∧ Q (.str (i ++ j)) H) := by
  intro pins s σ H x y v u Q I rx ry h
  obtain ⟨i, j, rfl, rfl, hz, q⟩ := h
  obtain ⟨t, rfl⟩ := rx
  obtain ⟨t', rfl⟩ := ry
  exact add_str (fun t' tk => ⟨.str (i ++ j), H, I.tok _, ⟨_, rfl⟩, q⟩) hz
theorem vals1 {x : V} {us : List Value} (r : Vals [x] us) : ∃ u, us = [u] ∧ RelV x u := by
  cases r with
  | cons r1 r2 => cases r2; exact ⟨_, rfl, r1⟩
theorem vals2 {x y : V} {us : List Value} (r : Vals [x, y] us) : ∃ u w', us = [u, w'] ∧ RelV x u ∧ RelV y w' := by
  cases r with
  | cons r1 r2 =>
    cases r2 with
    | cons r3 r4 => cases r4; exact ⟨_, _, rfl, r1, r3⟩
theorem call_max2 (hc : X.calm = true) : CallR X (.builtin "max") (fun xs H Q => ∃ i j, xs = [.int i, .int j] ∧ Q (.int (if j > i then j else i)) H) := by
  intro pins s σ H xs us Q I r h
  obtain ⟨i, j, rfl, q⟩ := h
  obtain ⟨u, w', rfl, ⟨t, rfl⟩, ⟨t', rfl⟩⟩ := vals2 r
  refine max_two_ints (I.ok.hd hc) fun h' tk k => ⟨_, H, I.kept k, ?_, q⟩
  by_cases hj : j > i
  · rw [if_pos hj, if_pos hj]; exact ⟨_, rfl⟩
  · rw [if_neg hj, if_neg hj]; exact ⟨_, rfl⟩
theorem call_min2 (hc : X.calm = true) : CallR X (.builtin "min") (fun xs H Q => ∃ i j, xs = [.int i, .int j] ∧ Q (.int (if j < i then j else i)) H) := by
  intro pins s σ H xs us Q I r h
  obtain ⟨i, j, rfl, q⟩ := h
  obtain ⟨u, w', rfl, ⟨t, rfl⟩, ⟨t', rfl⟩⟩ := vals2 r
  refine min_two_ints (I.ok.hd hc) fun h' tk k => ⟨_, H, I.kept k, ?_, q⟩
  by_cases hj : j < i
  · rw [if_pos hj, if_pos hj]; exact ⟨_, rfl⟩
  · rw [if_neg hj, if_neg hj]; exact ⟨_, rfl⟩
theorem call_int1 : CallR X (.type "int") (fun xs H Q => (∃ i, xs = [.int i] ∧ Q (.int i) H) ∨ ∃ k, xs = [.bl k] ∧ Q (.int (if k then 1 else 0)) H) := by
  intro pins s σ H xs us Q I r h
  rcases h with ⟨i, rfl, q⟩ | ⟨k, rfl, q⟩
  · obtain ⟨u, rfl, t, rfl⟩ := vals1 r
    exact call_int_int ⟨.int i, H, I, ⟨_, rfl⟩, q⟩
  · obtain ⟨u, rfl, r1⟩ := vals1 r
    cases r1
    exact call_int_bool ⟨.int (if k then 1 else 0), H, I.tok _, ⟨_, rfl⟩, q⟩
end
end L2
namespace L2
open PySem PySem.Spec PyProof.Rows
theorem RelO.some_of {v : V} {o : Option Value} (r : RelO (some v) o) : ∃ u, o = some u ∧ RelV v u := by
  cases o with
  | none => exact (show False from r).elim
  | some u => exact ⟨u, rfl, r⟩
end L2
namespace L2
open PySem PySem.Spec PyProof.Rows
structure Room (k : Nat) (A : Around) : Prop where
  hd : A.handled = none
  dp : A.depth + 3 * k + 5 < recursionLimit
  un : A.units + 16 * k + 200 < cLine
theorem Room.deeper {k : Nat} {A : Around} (r : Room (k + 1) A) (env : Env) : Room k (A.deeper env) :=
  ⟨r.hd, by have := r.dp; show A.depth + 1 + 3 * k + 5 < _; omega, by have := r.un; show A.units + 3 + 16 * k + 200 < _; omega⟩
theorem Room.depth {k : Nat} {A : Around} (r : Room k A) : A.depth < recursionLimit := by have := r.dp; omega
theorem Room.units {k : Nat} {A : Around} (r : Room k A) : A.units + 64 < cLine := by have := r.un; omega
def tNil : TA := fun _ H Q => Q [] H
def tCons (ta : TE) (tr : TA) : TA := fun σ H Q => ta σ H fun x H1 => tr σ H1 fun xs H2 => Q (x :: xs) H2
section
variable {X : Cx} {e : Expr} {es : List Expr} {te : TE} {t : TA} {pos : Pos}
theorem pa_nil : PA X [] tNil := fun _ _ _ _ H Q I h => Calls.spliced_nil ⟨[], H, I, .nil, h⟩
theorem pa_cons (ha : PE X e te) (hr : PA X es t) (hs : starEach (e :: es) X.env = (false, eval e X.env) :: starEach es X.env := by rfl) : PA X (e :: es) (tCons te t) := by
  intro pos pins s σ H Q I h
  rw [hs]
  show wpAny _ _ (spliced ((false, eval e X.env) :: backTo pos (starEach es X.env))) _ _ s
  refine Calls.spliced_cons (thn (ha pins s σ H _ I h) fun u s1 ⟨x, H1, I1, r1, q1⟩ => ?_)
  exact thn (hr pos pins s1 σ H1 _ I1 q1) fun us s2 ⟨xs, H2, I2, r2, q2⟩ => ⟨x :: xs, H2, I2, .cons r1 r2, q2⟩
def tTup (t : TA) : TE := fun σ H Q => t σ H fun xs H1 => xs.length ≤ sizeLine ∧ ∀ p, H1 p = none → Q (.ref p) (upd H1 p (.tup xs))
def tLst (t : TA) : TE := fun σ H Q => t σ H fun xs H1 => xs.length ≤ sizeLine ∧ ∀ p, H1 p = none → Q (.ref p) (upd H1 p (.lst xs))
theorem pe_tup {x1} (h : PA X es t) : PE X (.Tuple es x1 pos) (tTup t) := by
  intro pins s σ H Q I hq
  refine wpAny_Tuple_spliced (thn (h pos pins s σ H _ I hq) fun us s1 ⟨xs, H1, I1, r, z, q⟩ => ⟨by rw [← r.length]; exact z, ?_⟩)
  have hf : H1 s1.heap.objs.size = none := I1.hok.fresh (Nat.le_refl _)
  refine ⟨.ref s1.heap.objs.size, upd H1 s1.heap.objs.size (.tup xs), I1.laid (t' := s1.toks) (fun b u e => Heap.get?_push_of_some _ e) (Nat.le_refl _) ?_, rfl, q _ hf⟩
  exact ⟨z, us, r, ⟨_, Heap.get?_push_size _ rfl, rfl, _, rfl⟩⟩
theorem pe_lst (h : PA X es t) : PE X (.List es pos) (tLst t) := by
  intro pins s σ H Q I hq
  refine wpAny_List_spliced (thn (h pos pins s σ H _ I hq) fun us s1 ⟨xs, H1, I1, r, z, q⟩ => ⟨by rw [← r.length]; exact z, ?_⟩)
  have hf : H1 s1.heap.objs.size = none := I1.hok.fresh (Nat.le_refl _)
  refine ⟨.ref s1.heap.objs.size, upd H1 s1.heap.objs.size (.lst xs), I1.laid (t' := s1.toks) (fun b u e => Heap.get?_push_of_some _ e) (Nat.le_refl _) ?_, rfl, q _ hf⟩
  exact ⟨z, us, 0, r, Heap.get?_push_size _ rfl⟩
end
abbrev Sp := List V → Hp → VK → XK → Prop
abbrev CXT := List Env → Hp → Shared → XK → Value → Shared → Prop
structure Env0 (P : Program) (w : World) (K : PySem.W.Frag) (mg : Str → Option Value) (base : Heap) (A : Around) (outer : List Env) (s : Shared) (H : Hp) : Prop where
  frames : A.frames = some outer
  mod : Mod K mg base
  bs : ∀ b o, base.get? b = some o → s.heap.get? b = some o ∧ H b = none
  bsz : base.objs.size ≤ s.heap.objs.size
  funs : s.heap.FunFrames base outer
  frf : ∀ b ∈ frs outer, H b = none
  hok : HOk P w H s.heap
  bare : AllBare s.gens
def CE (outer : List Env) (P : Program) (w : World) (H : Hp) (s : Shared) (Q : VK) (u : Value) (s' : Shared) : Prop :=
  ∃ v H', s'.os = s.os ∧ AllBare s'.gens ∧ Un (frs outer) [] H H' s.heap s'.heap ∧ HOk P w H' s'.heap ∧ RelV v u ∧ Q v H'
def CR (CX : CXT) (outer : List Env) (P : Program) (w : World) (H : Hp) (s : Shared) (Q : VK) (E : XK) (r : Result) (s' : Shared) : Prop :=
  match r with
  | .ok (.ret u) => CE outer P w H s Q u s'
  | .ok _ => False
  | .error e => CX outer H s E e s'
structure FnOk (P : Program) (w : World) (K : PySem.W.Frag) (mg : Str → Option Value) (base : Heap) (CX : CXT) (k : Nat) (f : Addr) (fd : FuncData) (ps : List Str) (sp : Sp) : Prop where
  len : ∀ vs H Q E, sp vs H Q E → vs.length = ps.length
  run : ∀ (A : Around) (outer : List Env) (s : Shared) (H : Hp) (args : Args) (us : List Value) (vs : List V) (Q : VK) (E : XK), Room k A → Env0 P w K mg base A outer s H → BindsTo s fd args (ps.zip us) → Vals vs us → sp vs H Q E →
    codeAny (model P w) A (.call (.ref f) args) (CR CX outer P w H s Q E) s
section
variable {X : Cx} {pins : List (Addr × Obj)} {σ : St} {H : Hp} {s s' : Shared}
theorem Inv.env0 (I : Inv X pins σ H s) : Env0 X.prog X.w X.K X.mg X.base X.A X.stack s H :=
  ⟨I.ok.frames, I.ok.mod, I.bs, Nat.le_trans I.ok.bsz I.sz, I.stack, I.stkFree, I.hok, I.bare⟩
theorem Inv.after {Q : VK} {u : Value} (I : Inv X pins σ H s) (h : CE X.stack X.prog X.w H s Q u s') : EP X pins σ Q u s' := by
  obtain ⟨v, H', os, bare, un, hok, r, q⟩ := h
  obtain ⟨hh, g, d, t, os'⟩ := s'
  obtain rfl : os' = s.os := os
  exact ⟨v, H', I.call (h' := hh) (g' := g) (d' := d) (t' := t) (ch := []) un hok bare (fun b z => absurd z (by simp)), r, q⟩
end
def tCall (sp : Sp) (dvs : List V) (E : XK) (t : TA) : TE := fun σ H Q => t σ H fun vs H1 => sp (vs ++ dvs) H1 Q E
def Binds (K : PySem.W.Frag) (fd : FuncData) (ps : List Str) (ds : List Value) : Prop :=
  ∀ (s : Shared) (us : List Value), K.In s.heap → (us ++ ds).length = ps.length → BindsTo s fd ⟨us, []⟩ (ps.zip (us ++ ds))
theorem Binds.all {K : PySem.W.Frag} {fd : FuncData} {ps : List Str} (h : ∀ us : List Value, us.length = ps.length → bindArgs fd ⟨us, []⟩ = pure (ps.zip us)) : Binds K fd ps [] := fun s us _ hl => by
  rw [List.append_nil] at hl ⊢
  exact .of_eq (h us hl)
def Passes (CX : CXT) (X : Cx) (E : XK) : Prop := ∀ (pins : List (Addr × Obj)) (σ : St) (H : Hp) (s : Shared) (e : Value) (s' : Shared), Inv X pins σ H s → CX X.stack H s E e s' → X.xe e s'
section
variable {X : Cx} {CX : CXT} {k : Nat} {f C : Addr} {fd : FuncData} {ps : List Str} {sp : Sp} {dvs : List V} {ds : List Value} {E : XK} {x m : Str} {p pos apos : Pos} {e o : Expr} {es : List Expr} {ta : TE} {t : TA}
theorem run_fn {pins : List (Addr × Obj)} {σ : St} {H : Hp} {s : Shared} {Q : VK} {us : List Value} {vs : List V} (F : FnOk X.prog X.w X.K X.mg X.base CX k f fd ps sp) (hr : Room k X.A) (hb : Binds X.K fd ps ds) (hd : Vals dvs ds) (hx : Passes CX X E)
    (I : Inv X pins σ H s) (r : Vals vs us) (h : sp (vs ++ dvs) H Q E) : wpAny (model X.prog X.w) X.A (call (.ref f) us) (EP X pins σ Q) X.xe s := by
  have r2 : Vals (vs ++ dvs) (us ++ ds) := r.append hd
  have hl : (us ++ ds).length = ps.length := by rw [← r2.length]; exact F.len _ _ _ _ h
  refine wpAny_call (codeAny_mono (F.run X.A X.stack s H ⟨us, []⟩ (us ++ ds) (vs ++ dvs) Q E hr I.env0 (hb s us I.kIn hl) r2 h) fun r s' hq => ?_)
  cases r with
  | error e => exact hx pins σ H s e s' I hq
  | ok fl =>
    cases fl with
    | ret u => exact I.after hq
    | next => exact False.elim hq
    | brk => exact False.elim hq
    | cont => exact False.elim hq
theorem pe_call (F : FnOk X.prog X.w X.K X.mg X.base CX k f fd ps sp) (hr : Room k X.A) (hg : Gl X x) (hm : X.mg x = some (.ref f)) (hk : PySem.W.keepIn X.K (.ref f) = true) (hb : Binds X.K fd ps ds) (hd : Vals dvs ds) (hx : Passes CX X E)
    (ha : PA X (e :: es) t) (hdb : (x == ("__debug__" : Str)) = false := by decide) (he : starEach (e :: es) X.env = (false, eval e X.env) :: starEach es X.env := by rfl) (hpl : (backTo pos (starEach es X.env)).any (·.1) = false := by rfl) :
    PE X (.Call (.Name x p) (e :: es) [] pos) (tCall sp dvs E t) := by
  intro pins s σ H Q I h
  refine wpAny_Call_Name_kw (ld_glob I hg hm ?_ hdb)
  refine PySem.W.callWith_K (h₀ := X.base) I.ok.mod.kin hk (thn (ha pos pins s σ H _ I h) fun us s1 ⟨vs, H1, I1, r, q⟩ => ⟨I1.kIn, ?_⟩) he hpl
  exact run_fn F hr hb hd hx I1 r q
theorem pe_call0 (F : FnOk X.prog X.w X.K X.mg X.base CX k f fd ps sp) (hr : Room k X.A) (hg : Gl X x) (hm : X.mg x = some (.ref f)) (hk : PySem.W.keepIn X.K (.ref f) = true) (hb : Binds X.K fd ps ds) (hd : Vals dvs ds) (hx : Passes CX X E)
    (hdb : (x == ("__debug__" : Str)) = false := by decide) : PE X (.Call (.Name x p) [] [] pos) (tCall sp dvs E tNil) := by
  intro pins s σ H Q I h
  refine wpAny_Call_Name_kw (ld_glob I hg hm ?_ hdb)
  exact PySem.W.callWith_K0 I.kIn hk (run_fn (us := []) F hr hb hd hx I .nil h)
end
section
variable {X : Cx} {CX : CXT} {k : Nat} {f C : Addr} {fd : FuncData} {ps ks : List Str} {sp : Sp} {E : XK} {x m : Str} {p pos apos kpos : Pos} {e o : Expr} {es : List Expr} {kws : List Keyword} {te ta : TE} {t tk : TA} {nm : Option Str}
variable {g : List Value → List Value → List Value} {gV : List V → List V → List V}
end
structure FnScope (N P : List Str) (sc : Scope) : Prop where
  kind : sc.kind = .function
  co : sc.isCoroutine = false
  gen : sc.isGenerator = false
  nd : N.Nodup
  pre : N.take P.length = P
  par : ∀ x ∈ P, sc.names.lookup x = some .local ∨ sc.names.lookup x = some .cell
  nofree : ∀ y ∈ sc.names, y.2 ≠ .free
theorem bindL_out {kindOf : Str → Option NameKind} {x : Str} : ∀ {binds : List (Str × Value)} {m : Str → Option Value}, (∀ v, (x, v) ∉ binds) → bindL kindOf binds m x = m x
  | [], _, _ => rfl
  | (n, v) :: r, m, h => by
    unfold bindL
    rw [bindL_out fun w hw => h w (List.mem_cons_of_mem _ hw)]
    split
    · have : x ≠ n := by rintro rfl; exact h v List.mem_cons_self
      simp [this]
    · rfl
theorem bindC_out {kindOf : Str → Option NameKind} {x : Str} : ∀ {binds : List (Str × Value)} {m : Str → Option Value}, (∀ v, (x, v) ∉ binds) → bindC kindOf binds m x = m x
  | [], _, _ => rfl
  | (n, v) :: r, m, h => by
    unfold bindC
    rw [bindC_out fun w hw => h w (List.mem_cons_of_mem _ hw)]
    split
    · rfl
    · have : x ≠ n := by rintro rfl; exact h v List.mem_cons_self
      simp [this]
theorem bindL_get {kindOf : Str → Option NameKind} {x : Str} {v : Value} : ∀ {P : List Str} {vs : List Value} {i : Nat} {m : Str → Option Value}, P.Nodup → P[i]? = some x → vs[i]? = some v → kindOf x = some .local →
    bindL kindOf (P.zip vs) m x = some v
  | [], _, _, _, _, h, _, _ => by simp at h
  | _ :: _, [], _, _, _, _, h, _ => by simp at h
  | p :: P, w :: vs, 0, m, nd, h1, h2, hk => by
    simp at h1 h2; subst h1; subst h2
    show bindL kindOf ((p, w) :: P.zip vs) m p = _
    unfold bindL
    rw [bindL_out fun v hv => (List.nodup_cons.mp nd).1 (List.of_mem_zip hv).1, if_pos hk]
    simp
  | p :: P, w :: vs, i + 1, m, nd, h1, h2, hk => by
    show bindL kindOf ((p, w) :: P.zip vs) m x = _
    unfold bindL
    exact bindL_get (i := i) (List.nodup_cons.mp nd).2 (by simpa using h1) (by simpa using h2) hk
theorem bindC_get {kindOf : Str → Option NameKind} {x : Str} {v : Value} : ∀ {P : List Str} {vs : List Value} {i : Nat} {m : Str → Option Value}, P.Nodup → P[i]? = some x → vs[i]? = some v → kindOf x ≠ some .local →
    bindC kindOf (P.zip vs) m x = some v
  | [], _, _, _, _, h, _, _ => by simp at h
  | _ :: _, [], _, _, _, _, h, _ => by simp at h
  | p :: P, w :: vs, 0, m, nd, h1, h2, hk => by
    simp at h1 h2; subst h1; subst h2
    show bindC kindOf ((p, w) :: P.zip vs) m p = _
    unfold bindC
    rw [bindC_out fun v hv => (List.nodup_cons.mp nd).1 (List.of_mem_zip hv).1, if_neg hk]
    simp
  | p :: P, w :: vs, i + 1, m, nd, h1, h2, hk => by
    show bindC kindOf ((p, w) :: P.zip vs) m x = _
    unfold bindC
    exact bindC_get (i := i) (List.nodup_cons.mp nd).2 (by simpa using h1) (by simpa using h2) hk
def start (N : List Str) (vs : List V) : St := vs.map some ++ List.replicate (N.length - vs.length) none
def cxOf (CX : CXT) (P : Program) (w : World) (K : PySem.W.Frag) (mg : Str → Option Value) (base : Heap) (N : List Str) (qual : Str) (scope : Scope) (f : Addr) (cd : Value) (A : Around) (outer : List Env) (s : Shared) (H : Hp) (E : XK) : Cx where
  prog := P
  w := w
  K := K
  mg := mg
  base := base
  A := A.deeper (envOfC qual scope s.heap.objs.size f cd)
  N := N
  s₀ := s
  H₀ := H
  env := envOfC qual scope s.heap.objs.size f cd
  outer := outer
  stack := envOfC qual scope s.heap.objs.size f cd :: outer
  ex := []
  calm := true
  fn := fun _ => true
  pn := []
  xe := fun e s' => wpAny (model P w) (A.deeper (envOfC qual scope s.heap.objs.size f cd)) (leaving (envOfC qual scope s.heap.objs.size f cd) e) (fun _ s'' => CX outer H s E e s'') (fun e' s'' => CX outer H s E e' s'') s'
theorem cell_has {sc : Scope} {n : Nat} {x : Str} (h : sc.names.lookup x = some .cell) : ∃ c, (cellsFrom n sc.names []).lookup x = some c := by
  have q := PySem.W.cellsFrom_some sc.names n [] (.inl h)
  exact Option.isSome_iff_exists.mp q
theorem inv_start {CX : CXT} {P : Program} {w : World} {K : PySem.W.Frag} {mg : Str → Option Value} {base : Heap} {N ps : List Str} {qual : Str} {scope : Scope} {f : Addr} {cd : Value} {A : Around} {outer : List Env} {s s1 : Shared} {H : Hp} {E : XK} {us : List Value} {vs : List V}
    (S : FnScope N ps scope) (hd : A.handled = none) (e0 : Env0 P w K mg base A outer s H) (hl : vs.length = ps.length) (r : Vals vs us)
    (x : InCallC s s.heap.objs.size (bindL (envOfC qual scope s.heap.objs.size f cd).kindOf (ps.zip us) fun _ => none) (cellsFrom (s.heap.objs.size + 1) scope.names []) (bindC (envOfC qual scope s.heap.objs.size f cd).kindOf (ps.zip us) fun _ => none) s1) :
    Inv (cxOf CX P w K mg base N qual scope f cd A outer s H E) [] (start N vs) H s1 := by
  have hpl : ps.length ≤ N.length := by have := congrArg List.length S.pre; rw [List.length_take] at this; omega
  obtain ⟨h1, tk, rfl, hk⟩ := x.done
  have noA : ∀ b : Addr, b ∉ (cxOf CX P w K mg base N qual scope f cd A outer s H E).ex := fun b z => absurd (show b ∈ ([] : List Addr) from z) (by simp)
  refine ⟨⟨e0.mod, S.kind, rfl, rfl, Nat.le_refl _, fun y z c h1 h2 => ?_, fun y hy => ?_, fun y c _ h => ?_, fun _ => hd, Around.frames_deeper e0.frames, .inr ⟨rfl, rfl⟩, fun b z => absurd z (noA b), e0.bs, e0.bsz, fun b _ _ => noA b, fun b z => absurd z (noA b), e0.funs, e0.frf⟩,
    rfl, e0.bare, Un.kept hk, ⟨_, x.toInCall.ns, fun i y v h1 h2 h3 => ?_⟩, fun y c h => ⟨_, x.cell y c h⟩, e0.hok.fresh (Nat.le_refl _), fun y c h => ?_, fun p hp => absurd (show p ∈ ([] : List (Addr × Obj)) from hp) (by simp), e0.hok.kept hk, ?_⟩
  · exact name_of_addr x.apart (PySem.mem_of_lookup h1) (PySem.mem_of_lookup h2)
  · have hy : scope.names.lookup y = some .cell ∨ scope.names.lookup y = some .free := hy
    rcases hy with hy | hy
    · exact cell_has hy
    · exact absurd rfl (S.nofree _ (PySem.mem_of_lookup hy))
  · exact Nat.le_of_lt (x.above y c (PySem.mem_of_lookup h))
  · have hi : i < vs.length := by
      unfold start at h2
      by_cases hi : i < vs.length
      · exact hi
      · rw [List.getElem?_append_right (by simpa using hi)] at h2
        rw [List.getElem?_replicate] at h2
        split at h2 <;> cases h2
    have ha : vs[i]? = some v := by
      unfold start at h2
      rw [List.getElem?_append_left (by simpa using hi), List.getElem?_map] at h2
      cases e : vs[i]? with
      | none => rw [e] at h2; cases h2
      | some a => rw [e] at h2; cases h2; rfl
    obtain ⟨u, hu, rv⟩ := r.get ha
    have hp : ps[i]? = some y := by
      rw [← S.pre, List.getElem?_take_of_lt (by omega)]; exact h1
    have ndP : ps.Nodup := by rw [← S.pre]; exact S.nd.sublist (List.take_sublist _ _)
    refine ⟨u, rv, ?_⟩
    rcases S.par y (List.mem_of_getElem? hp) with k | k
    · exact .inl ⟨k, bindL_get ndP hp hu k⟩
    · obtain ⟨c, e⟩ := cell_has (n := s.heap.objs.size + 1) k
      refine .inr ⟨.inl k, c, e, ?_⟩
      have q := x.cell y c e
      rw [bindC_get ndP hp hu (by show scope.names.lookup y ≠ _; rw [k]; decide)] at q
      exact q
  · exact e0.hok.fresh (Nat.le_of_lt (x.above y c (PySem.mem_of_lookup h)))
  · unfold start
    show _ = N.length
    rw [List.length_append, List.length_map, List.length_replicate]
    omega
theorem fn_of {CX : CXT} {P : Program} {w : World} {K : PySem.W.Frag} {mg : Str → Option Value} {base : Heap} {k : Nat} {f : Addr} {name qual : Str} {params : Arguments} {body : List Stmt} {scope : Scope} {dV kV doc pm cdv ct oc : Value} {an od : Option Addr}
    {osl : Array (Option Value)} {N ps : List Str} {sp : Sp} (lk : K.lookup f = some ⟨oc, od, .func (PySem.W.fnOf name qual params body scope dV kV doc pm an cdv ct), osl⟩) (hcd : PySem.W.codeIn K cdv qual = true) (S : FnScope N ps scope)
    (len : ∀ vs H Q E, sp vs H Q E → vs.length = ps.length)
    (hbody : ∀ (A : Around) (outer : List Env) (s : Shared) (H : Hp) (vs : List V) (Q : VK) (E : XK), Room k (A.deeper (envOfC qual scope s.heap.objs.size f cdv)) → sp vs H Q E →
      ∃ t, PSs (cxOf CX P w K mg base N qual scope f cdv A outer s H E) body t ∧ t { nx := fun _ H' => Q .non H', rt := Q } (start N vs) H) :
    FnOk P w K mg base CX (k + 1) f (PySem.W.fnOf name qual params body scope dV kV doc pm an cdv ct) ps sp := by
  refine ⟨len, fun A outer s H args us vs Q E hr e0 hb r hsp => ?_⟩
  have hl := len _ _ _ _ hsp
  have KX : K.In s.heap := e0.mod.kin.keeps fun b o e => (e0.bs b o e).1
  have lim : s.heap.NoLimit := e0.mod.nolimit.keeps fun b o e => (e0.bs b o e).1
  have hkind : ∀ y ∈ ps.zip us, scope.names.lookup y.1 = some .local ∨ (scope.names.lookup y.1 = some .cell ∧ ((cellsFrom (s.heap.objs.size + 1) scope.names []).lookup y.1).isSome = true) := fun ⟨n, v⟩ hy => by
    rcases S.par n (List.of_mem_zip hy).1 with q | q
    · exact .inl q
    · exact .inr ⟨q, PySem.W.cellsFrom_some _ _ _ (.inl q)⟩
  refine codeAny_call_function hr.depth (KX _ _ lk) rfl S.co S.gen rfl (PySem.W.codeRec_of KX hcd) (hb _ _ _ _ ?_)
  refine wpAny_newFunctionEnv_cells S.kind hkind fun env he s1 x => ?_
  subst he
  refine ⟨lim.keeps x.toInCall.keep, codeAny_func ?_⟩
  obtain ⟨t, ht, hq⟩ := hbody A outer s H vs Q E (hr.deeper _) hsp
  have I : Inv (cxOf CX P w K mg base N qual scope f cdv A outer s H E) [] (start N vs) H s1 := inv_start S hr.hd e0 hl r x
  refine wpAny_mono (ht [] s1 (start N vs) H _ I hq) (fun fl s' hs => ?_) fun e s' hs => hs
  have fin : ∀ {σ' : St} {H' : Hp} {v : V} {u : Value}, Inv (cxOf CX P w K mg base N qual scope f cdv A outer s H E) [] σ' H' s' → RelV v u → Q v H' → CE outer P w H s Q u s' :=
    fun {σ' H' v u} J rv q => ⟨v, H', J.os, J.bare, J.base, J.hok, rv, q⟩
  cases fl with
  | ret u =>
    obtain ⟨v, σ', H', J, rv, q⟩ := hs
    exact fin J rv q
  | next =>
    obtain ⟨σ', H', J, q⟩ := hs
    exact fin (v := V.non) (u := Value.none) J rfl q
  | brk =>
    obtain ⟨_, _, _, q⟩ := hs
    exact False.elim q
  | cont =>
    obtain ⟨_, _, _, q⟩ := hs
    exact False.elim q
end L2
namespace L2
open PySem PySem.Spec PyProof.Rows
section
variable {X : Cx} {x : Str} {p pos : Pos} {e : Expr} {es : List Expr} {t : TA} {id T : String} {r : List V → Hp → VK → Prop}
def tCB (r : List V → Hp → VK → Prop) (t : TA) : TE := fun σ H Q => t σ H fun vs H1 => r vs H1 Q
theorem pe_callB (hc : CallR X (.builtin id) r) (hg : Gl X x) (hm : X.mg x = none) (hv : bootBuiltins x = some (.builtin id)) (ha : PA X (e :: es) t) (hn : x ≠ "__name__" := by decide) (hdb : (x == ("__debug__" : Str)) = false := by decide)
    (he : starEach (e :: es) X.env = (false, eval e X.env) :: starEach es X.env := by rfl) (hpl : (backTo pos (starEach es X.env)).any (·.1) = false := by rfl) : PE X (.Call (.Name x p) (e :: es) [] pos) (tCB r t) := by
  intro pins s σ H Q I h
  refine wpAny_Call_Name_kw (ld_blt I hg hm hv ?_ hn hdb)
  exact PyProof.Rows.callWith_builtin1 (thn (ha pos pins s σ H _ I h) fun us s1 ⟨vs, H1, I1, r1, q1⟩ => hc pins s1 σ H1 vs us Q I1 r1 q1) he hpl
theorem pe_callTy (hc : CallR X (.type T) r) (hg : Gl X x) (hm : X.mg x = none) (hv : bootBuiltins x = some (.type T)) (ha : PA X (e :: es) t) (hn : x ≠ "__name__" := by decide) (hdb : (x == ("__debug__" : Str)) = false := by decide)
    (he : starEach (e :: es) X.env = (false, eval e X.env) :: starEach es X.env := by rfl) (hpl : (backTo pos (starEach es X.env)).any (·.1) = false := by rfl) : PE X (.Call (.Name x p) (e :: es) [] pos) (tCB r t) := by
  intro pins s σ H Q I h
  refine wpAny_Call_Name_kw (ld_blt I hg hm hv ?_ hn hdb)
  exact PyProof.Rows.callWith_type1 (thn (ha pos pins s σ H _ I h) fun us s1 ⟨vs, H1, I1, r1, q1⟩ => hc pins s1 σ H1 vs us Q I1 r1 q1) he hpl
end
end L2
namespace HT
open PySem PyProof.Rows
section
open PySem.SeqAt
open PySem.AutoSeq1 (wpAny_loadPart')
open PySem.MeetsSeq PySem.MeetsSeq2 PySem.MeetsSeq3
end
section
variable {prog : Program} {w : World} {A : Around} {E : Value → Shared → Prop} {s : Shared}
theorem cat_tup {t b : Addr} {vs ws : List Value} {Q : Value → Shared → Prop} (ht : IsTup s.heap t vs.toArray) (hb : IsTup s.heap b ws.toArray) (hv : vs ≠ [])
    (h1 : ws = [] → Q (.ref t) s) (h2 : ws ≠ [] → Q (.ref s.heap.objs.size) { s with heap := s.heap.push { cls := .type "tuple", data := .seq (vs ++ ws).toArray } })
    (hsz : vs.length + ws.length ≤ sizeLine) : wpAny (model prog w) A (binaryOp .Add (.ref t) (.ref b)) Q E s := by
  obtain ⟨⟨cls, dd, data, sl⟩, ho, hc, n, hd⟩ := id ht
  obtain ⟨⟨cls2, dd2, data2, sl2⟩, ho2, hc2, n2, hd2⟩ := id hb
  simp only at hc hd hc2 hd2
  subst hc hd hc2 hd2
  have e : vs.toArray ++ ws.toArray = (vs ++ ws).toArray := by simp
  by_cases hw : ws = []
  · exact concat_meets ⟨_, ho, rfl⟩ ⟨_, ho2, rfl⟩ noFill_tuple_add seq_tuple_add PySem.F.slot_tuple_add PySem.F.entry_tuple_add (PySem.F.args_tuple_add_2 _ _)
      (tuple_addW1 t b vs.toArray ws.toArray n n2 dd dd2 sl sl2 (by simpa using hv) (by simp [hw])) ⟨ho, ho2, h1 hw⟩
  · refine concat_meets ⟨_, ho, rfl⟩ ⟨_, ho2, rfl⟩ noFill_tuple_add seq_tuple_add PySem.F.slot_tuple_add PySem.F.entry_tuple_add (PySem.F.args_tuple_add_2 _ _)
      (tuple_addW2 t b vs.toArray ws.toArray n n2 dd dd2 sl sl2 (by simpa using hv) (by simpa using hw) (by rw [List.size_toArray, List.size_toArray]; exact hsz)) ⟨ho, ho2, ?_⟩
    rw [e]
    exact h2 hw
def sIx (n d : Nat) : Option Int → Nat
  | none => d
  | some v => if v < 0 then (v + (n : Int)).toNat else min v.toNat n
theorem sIx_le (n d : Nat) (hd : d ≤ n) (o : Option Int) : sIx n d o ≤ n := by
  cases o with
  | none => exact hd
  | some v =>
    show (if v < 0 then (v + (n : Int)).toNat else min v.toNat n) ≤ n
    by_cases hv : v < 0
    · rw [if_pos hv]; omega
    · rw [if_neg hv]; exact Nat.min_le_right _ _
theorem clip_eq (v : Int) (n d : Nat) : (if v < 0 then max (v + (n : Int)) 0 else min v (n : Int)) = ((sIx n d (some v) : Nat) : Int) := by
  show (if v < 0 then max (v + (n : Int)) 0 else min v (n : Int)) = (((if v < 0 then (v + (n : Int)).toNat else min v.toNat n) : Nat) : Int)
  by_cases hv : v < 0
  · simp only [if_pos hv]; omega
  · simp only [if_neg hv]; omega
theorem adjust_gen (lo hi : Option Int) (n : Nat) : Builtin.Slice.sliceAdjust lo hi 1 (n : Int) = (((sIx n 0 lo : Nat) : Int), ((sIx n n hi : Nat) : Int)) := by
  have h1 : ¬ ((1 : Int) < 0) := by omega
  unfold Builtin.Slice.sliceAdjust
  simp only [h1, if_false]
  refine Prod.ext ?_ ?_
  · cases lo with
    | none => rfl
    | some v => exact clip_eq v n 0
  · cases hi with
    | none => rfl
    | some v => exact clip_eq v n n
theorem places_gen (i j : Nat) : Builtin.Slice.slicePlaces (i : Int) (j : Int) 1 = j - i := by
  unfold Builtin.Slice.slicePlaces
  have h1 : (1 : Int) > 0 := by omega
  simp only [h1, if_true, Int.ediv_one]
  split <;> omega
theorem slicePart_ {v : Value} {o : Option Int} {Q : Option Int → Shared → Prop} (p : IsPart v o) (h : Q o s) : wpAny (model prog w) A (Builtin.Slice.slicePartIndex v) Q E s := by
  cases p with
  | none => exact slicePart_none h
  | int i t => exact slicePart_int h
theorem sliceApplied_gen {sl : Addr} {vl vu : Value} {lo hi : Option Int} {n : Nat} {Q : Int × Int × Nat → Shared → Prop} (hs : s.heap.IsSliceOf sl vl vu .none) (pl : IsPart vl lo) (pu : IsPart vu hi)
    (h : Q (((sIx n 0 lo : Nat) : Int), 1, sIx n n hi - sIx n 0 lo) s) : wpAny (model prog w) A (Builtin.Slice.sliceApplied (.ref sl) (pure (n : Int))) Q E s := by
  obtain ⟨os, hos, hcs, hds⟩ := id hs
  unfold Builtin.Slice.sliceApplied Builtin.Slice.sliceFields
  refine wpAny_bind (wpAny_bind (wpAny_field hos hds (x := vl) rfl (wpAny_bind (wpAny_field hos hds (x := vu) rfl (wpAny_bind (wpAny_field hos hds (x := .none) rfl (wpAny_pure ?_)))))))
  refine wpAny_bind (slicePart_none ?_)
  show wpAny _ _ (if ((1 : Int) == 0) = true then _ else _) _ _ s
  rw [if_neg (by decide)]
  refine wpAny_bind (slicePart_ pl (wpAny_bind (slicePart_ pu (wpAny_bind (wpAny_pure ?_)))))
  show wpAny _ _ (match Builtin.Slice.sliceAdjust lo hi 1 (n : Int) with | (lo, hi) => pure (lo, (1 : Int), Builtin.Slice.slicePlaces lo hi 1)) _ _ s
  rw [adjust_gen lo hi n]
  show wpAny _ _ (pure (((sIx n 0 lo : Nat) : Int), (1 : Int), Builtin.Slice.slicePlaces ((sIx n 0 lo : Nat) : Int) ((sIx n n hi : Nat) : Int) 1)) _ _ s
  rw [places_gen]
  exact wpAny_pure h
theorem pick_gen (xs : Array Value) (i k : Nat) : ((List.range k).filterMap fun (m : Nat) => xs[((i : Int) + (m : Int) * 1).toNat]?).toArray = ((xs.toList.drop i).take k).toArray := by
  have e : (fun (m : Nat) => xs[((i : Int) + (m : Int) * 1).toNat]?) = fun m => xs[i + m]? := by
    funext m
    have : ((i : Int) + (m : Int) * 1).toNat = i + m := by omega
    rw [this]
  rw [e]
  have := pick_run xs i k
  rw [List.filterMap_map] at this
  have e2 : ((fun x => xs[x]?) ∘ fun x => i + x) = fun m => xs[i + m]? := rfl
  rw [e2] at this
  rw [this]
theorem getItem_tuple_cut {t sl : Addr} {items : Array Value} {vl vu : Value} {lo hi : Option Int} {Q : Value → Shared → Prop} (ht : IsTup s.heap t items) (hs : s.heap.IsSliceOf sl vl vu .none) (pl : IsPart vl lo) (pu : IsPart vu hi)
    (hw : ¬ (sIx items.size 0 lo = 0 ∧ sIx items.size items.size hi = items.size))
    (h : Q (.ref s.heap.objs.size) { s with heap := s.heap.push { cls := .type "tuple", data := .seq ((items.toList.drop (sIx items.size 0 lo)).take (sIx items.size items.size hi - sIx items.size 0 lo)).toArray } })
    (hsz : items.size ≤ sizeLine) : wpAny (model prog w) A (getItem (.ref t) (.ref sl)) Q E s := by
  have htake : sizeOk (.seq ((items.toList.drop (sIx items.size 0 lo)).take (sIx items.size items.size hi - sIx items.size 0 lo)).toArray) := by
    show ((items.toList.drop (sIx items.size 0 lo)).take (sIx items.size items.size hi - sIx items.size 0 lo)).toArray.size ≤ sizeLine
    rw [List.size_toArray, List.length_take, List.length_drop, Array.length_toList]
    omega
  have hj : sIx items.size items.size hi ≤ items.size := sIx_le _ _ (Nat.le_refl _) hi
  obtain ⟨os, hos, hcs, hds⟩ := id hs
  have hTs : s.TypeIs (.ref sl) "slice" := ⟨os, hos, hcs⟩
  unfold getItem
  try with_reducible refine wpAny_holding ?_
  first | refine wpAny_bind (wpAny_pure ?_) | skip
  refine wpAny_bind (wpAny_sequenceKey ht.typeIs (by decide) ?_)
  refine wpAny_bind (wpAny_callSpecial?_slot (name := Str.ofString "__getitem__") ht.typeIs PyProof.Rows.slot_tuple_getitem
    (wpAny_call_entry PyProof.Rows.slot_tuple_getitem ht.typeIs entry_tuple_getitem ?_ (args_tuple_getitem _ _)))
  show wpAny _ _ (Builtin.Tuple.tupleItemsOf (.ref t) >>= _) _ _ s
  refine wpAny_bind (tupleItemsOf_ ht ?_)
  refine wpAny_bind (wpAny_typeOf hTs ?_)
  rw [if_pos (by decide)]
  refine wpAny_bind (sliceApplied_gen hs pl pu ?_)
  have hno : ¬ ((((sIx items.size 0 lo : Nat) : Int) == 0 && (1 : Int) == 1 && (sIx items.size items.size hi - sIx items.size 0 lo) == items.size) = true) := by
    intro q
    rw [Bool.and_eq_true, Bool.and_eq_true] at q
    have q1 : ((sIx items.size 0 lo : Nat) : Int) = 0 := eq_of_beq q.1.1
    have q2 : sIx items.size items.size hi - sIx items.size 0 lo = items.size := eq_of_beq q.2
    exact hw ⟨by omega, by omega⟩
  show wpAny _ _ (if (((sIx items.size 0 lo : Nat) : Int) == 0 && (1 : Int) == 1 && (sIx items.size items.size hi - sIx items.size 0 lo) == items.size) = true then _ else _) _ _ s
  rw [if_neg hno, pick_gen]
  first
    | exact wpAny_bind (m := Builtin.Tuple.tupleExact _) (wpAny_newObj_type (wpAny_pure ⟨_, rfl, wpAny_pure h⟩) htake)
    | exact wpAny_bind (m := Builtin.Tuple.tupleExact _) (wpAny_newObj_type (wpAny_bind (wpAny_pure (wpAny_pure ⟨_, rfl, wpAny_pure h⟩))) htake)
    | exact wpAny_bind (wpAny_bind (m := Builtin.Tuple.tupleExact _) (wpAny_newObj_type (wpAny_pure (wpAny_pure ⟨_, rfl, wpAny_pure h⟩)) htake))
    | exact wpAny_bind (wpAny_bind (m := Builtin.Tuple.tupleExact _) (wpAny_newObj_type (wpAny_pure ⟨_, rfl, wpAny_pure h⟩) htake))
end
end HT
namespace L2
open PySem PySem.Spec PyProof.Rows
abbrev TO := St → Hp → (Option Int → Hp → Prop) → Prop
def PO (X : Cx) (e : Option Expr) (t : TO) : Prop :=
  ∀ (pins : List (Addr × Obj)) (s : Shared) (σ : St) (H : Hp) (Q : Option Int → Hp → Prop), Inv X pins σ H s → t σ H Q →
    wpAny (model X.prog X.w) X.A (evalPart e X.env) (fun u s' => ∃ o H', Inv X pins σ H' s' ∧ IsPart u o ∧ Q o H') X.xe s
def tNoPart : TO := fun _ H Q => Q none H
section
variable {X : Cx} {e : Expr} {te : TE} {lo hi : Option Expr} {tl th : TO} {pos p2 : Pos}
theorem po_none : PO X none tNoPart := by
  intro pins s σ H Q I h
  rw [evalPart_none]
  exact wpAny_pure ⟨none, H, I, .none, h⟩
def SlR (X : Cx) (r : V → Option Int → Option Int → Hp → VK → Prop) : Prop :=
  ∀ (pins : List (Addr × Obj)) (s : Shared) (σ : St) (H : Hp) (x : V) (v vl vu : Value) (lo hi : Option Int) (sl : Addr) (Q : VK), Inv X pins σ H s → RelV x v → s.heap.IsSliceOf sl vl vu .none → IsPart vl lo → IsPart vu hi → r x lo hi H Q →
    ∃ T id, typeLookup (.type T) "__getitem__" = pure (some (.builtin id)) ∧ s.TypeIs v T ∧ wpAny (model X.prog X.w) X.A (getItem v (.ref sl)) (EP X pins σ Q) X.xe s
def tSl (r : V → Option Int → Option Int → Hp → VK → Prop) (te : TE) (tl th : TO) : TE := fun σ H Q => te σ H fun x H1 => tl σ H1 fun l H2 => th σ H2 fun u H3 => r x l u H3 Q
theorem pe_slice {r : V → Option Int → Option Int → Hp → VK → Prop} (hr : SlR X r) (he : PE X e te) (hl : PO X lo tl) (hu : PO X hi th) : PE X (.Subscript e (.Slice lo hi none p2) pos) (tSl r te tl th) := by
  intro pins s σ H Q I h
  refine Subscript_ (thn (he pins s σ H _ I h) fun v s1 ⟨x, H1, I1, r1, q1⟩ => ?_)
  refine wpAny_Slice (thn (hl pins s1 σ H1 _ I1 q1) fun vl s2 ⟨l, H2, I2, pl, q2⟩ => thn (hu pins s2 σ H2 _ I2 q2) fun vu s3 ⟨u, H3, I3, pu, q3⟩ => ?_)
  rw [evalPart_none]
  refine wpAny_pure ?_
  have I4 : Inv X pins σ H3 { s3 with heap := s3.heap.push { cls := .type "slice", data := .fields #[vl, vu, .none] } } := I3.kept (t' := s3.toks) fun b ob q => Heap.get?_push_of_some _ q
  obtain ⟨T, id, hT, ht, hg⟩ := hr pins { s3 with heap := s3.heap.push { cls := .type "slice", data := .fields #[vl, vu, .none] } } σ H3 x v vl vu l u s3.heap.objs.size Q I4 r1 (Heap.IsSliceOf.new ..) pl pu q3
  show wpAny (model X.prog X.w) X.A (subscriptTail e (.Slice lo hi none p2) v (.ref s3.heap.objs.size)) (EP X pins σ Q) X.xe { s3 with heap := s3.heap.push { cls := .type "slice", data := .fields #[vl, vu, .none] } }
  exact tail_any (ops := [.ref s3.heap.objs.size, v]) ht hT hg (by with_unfolding_all rfl)
def cutV (xs : List V) (lo hi : Option Int) : List V := (xs.drop (HT.sIx xs.length 0 lo)).take (HT.sIx xs.length xs.length hi - HT.sIx xs.length 0 lo)
theorem cutV_length (xs : List V) (lo hi : Option Int) : (cutV xs lo hi).length ≤ xs.length := by
  unfold cutV
  rw [List.length_take, List.length_drop]
  omega
def rSlT (K : PySem.W.Frag) : V → Option Int → Option Int → Hp → VK → Prop := fun x lo hi H Q => ∃ a xs, x = .ref a ∧ SqT K H a xs ∧
  ¬ (HT.sIx xs.length 0 lo = 0 ∧ HT.sIx xs.length xs.length hi = xs.length) ∧ ∀ p, H p = none → Q (.ref p) (upd H p (.tup (cutV xs lo hi)))
theorem sl_tup : SlR X (rSlT X.K) := by
  intro pins s σ H x v vl vu lo hi sl Q I rx hs pl pu h
  obtain ⟨a, xs, rfl, hx, hw, q⟩ := h
  cases rx
  obtain ⟨its, r, ht, hz⟩ := I.tuple hx
  have hlen : its.toArray.size = xs.length := by rw [List.size_toArray]; exact r.length.symm
  refine ⟨"tuple", _, PyProof.Rows.slot_tuple_getitem.lookup, ht.typeIs, ?_⟩
  refine HT.getItem_tuple_cut ht hs pl pu (by rw [hlen]; exact hw) ?_ (by rw [hlen]; exact hz)
  rw [hlen]
  refine ⟨.ref s.heap.objs.size, _, I.laid (t' := s.toks) (o := .tup (cutV xs lo hi)) (fun b ob q => Heap.get?_push_of_some _ q) (Nat.le_refl _) ?_, rfl, q _ (I.hok.fresh (Nat.le_refl _))⟩
  exact ⟨Nat.le_trans (cutV_length xs lo hi) hz, _, (r.drop (HT.sIx xs.length 0 lo)).take (HT.sIx xs.length xs.length hi - HT.sIx xs.length 0 lo), IsTup.new _ _⟩
def rCatT (K : PySem.W.Frag) : R2 := fun x y H Q => ∃ a b xs ys, x = .ref a ∧ y = .ref b ∧ SqT K H a xs ∧ SqT K H b ys ∧ xs ≠ [] ∧ xs.length + ys.length ≤ sizeLine ∧
  (ys = [] → Q (.ref a) H) ∧ (ys ≠ [] → ∀ p, H p = none → Q (.ref p) (upd H p (.tup (xs ++ ys))))
theorem Vals.nil_iff {xs : List V} {us : List Value} (r : Vals xs us) : us = [] ↔ xs = [] := by
  cases r with
  | nil => simp
  | cons _ _ => simp
theorem op_catT : OpR X (binaryOp .Add) (rCatT X.K) := by
  intro pins s σ H x y v u Q I rx ry h
  obtain ⟨a, b, xs, ys, rfl, rfl, ha, hb, hx, hz, q1, q2⟩ := h
  cases rx
  cases ry
  obtain ⟨its, r1, p1, _⟩ := I.tuple ha
  obtain ⟨its2, r2, p2, _⟩ := I.tuple hb
  refine HT.cat_tup p1 p2 (fun z => hx (r1.nil_iff.mp z)) (fun z => ⟨.ref a, H, I, rfl, q1 (r2.nil_iff.mp z)⟩) (fun z => ?_) (by rw [← r1.length, ← r2.length]; exact hz)
  refine ⟨.ref s.heap.objs.size, _, I.laid (t' := s.toks) (o := .tup (xs ++ ys)) (fun b ob q => Heap.get?_push_of_some _ q) (Nat.le_refl _) ?_, rfl, q2 (fun w => z (r2.nil_iff.mpr w)) _ (I.hok.fresh (Nat.le_refl _))⟩
  exact ⟨by rw [List.length_append]; exact hz, _, r1.append r2, IsTup.new _ _⟩
end
end L2
namespace L2
open PySem PySem.Spec PyProof.Rows
def ixN (n : Nat) (i : Int) : Option Nat := if 0 ≤ i then (if i < n then some i.toNat else none) else if -(n : Int) ≤ i then some (i + n).toNat else none
def atI {α : Type} (xs : List α) (i : Int) : Option α := (ixN xs.length i).bind fun j => xs[j]?
theorem ixN_seq {n : Nat} {i : Int} {j : Nat} (h : ixN n i = some j) : seqIndex? i n = some j ∧ j < n ∧ -(n : Int) ≤ i ∧ i < n := by
  unfold ixN at h
  by_cases h0 : 0 ≤ i
  · rw [if_pos h0] at h
    by_cases h1 : i < n
    · rw [if_pos h1] at h
      have e : i.toNat = j := Option.some.inj h
      exact ⟨by rw [seqIndex_of h0 h1, e], by omega, by omega, h1⟩
    · rw [if_neg h1] at h; cases h
  · rw [if_neg h0] at h
    by_cases h1 : -(n : Int) ≤ i
    · rw [if_pos h1] at h
      have e : (i + n).toNat = j := Option.some.inj h
      exact ⟨by rw [seqIndex_neg (by omega) h1, e], by omega, h1, by omega⟩
    · rw [if_neg h1] at h; cases h
theorem atI_get {α : Type} {xs : List α} {i : Int} {v : α} (h : atI xs i = some v) : ∃ j, seqIndex? i xs.length = some j ∧ xs[j]? = some v ∧ j < xs.length ∧ -(xs.length : Int) ≤ i ∧ i < xs.length := by
  unfold atI at h
  cases e : ixN xs.length i with
  | none => rw [e] at h; cases h
  | some j =>
    rw [e] at h
    obtain ⟨h1, h2, h3, h4⟩ := ixN_seq e
    exact ⟨j, h1, h, h2, h3, h4⟩
def PlainIx (b : Expr) : Prop := ∀ o i, subscripted b false o i = operate [o, i] (getItem o i)
def IxR (X : Cx) (r : R2) : Prop :=
  ∀ (value slice : Expr) (pins : List (Addr × Obj)) (s : Shared) (σ : St) (H : Hp) (x y : V) (v u : Value) (Q : VK), Inv X pins σ H s → RelV x v → RelV y u → r x y H Q →
    subscripted slice false v u = operate [v, u] (getItem v u) → wpAny (model X.prog X.w) X.A (subscriptTail value slice v u) (EP X pins σ Q) X.xe s
def MtR (X : Cx) (id : String) (r : V → List V → Hp → VK → Prop) : Prop :=
  ∀ (pins : List (Addr × Obj)) (s : Shared) (σ : St) (H : Hp) (x : V) (xs : List V) (v : Value) (us : List Value) (Q : VK), Inv X pins σ H s → RelV x v → Vals xs us → r x xs H Q →
    wpAny (model X.prog X.w) X.A (call (.builtin id) (v :: us)) (EP X pins σ Q) X.xe s
section
variable {X : Cx} {a b : Expr} {ta tb : TE} {pos : Pos}
theorem pe_ix {r : R2} (hr : IxR X r) (ha : PE X a ta) (hb : PE X b tb) (hs : PlainIx b) : PE X (.Subscript a b pos) (tOp r ta tb) := by
  intro pins s σ H Q I h
  exact Subscript_ (binT ha hb I h fun v u s2 x y H2 I2 rx ry q => hr a b pins s2 σ H2 x y v u Q I2 rx ry q (hs _ _))
def rIxL (K : PySem.W.Frag) : R2 := fun x y H Q => ∃ p xs i v, x = .ref p ∧ y = .int i ∧ SqL K H p xs ∧ atI xs i = some v ∧ Q v H
def rIxT (K : PySem.W.Frag) : R2 := fun x y H Q => ∃ p xs i v, x = .ref p ∧ y = .int i ∧ SqT K H p xs ∧ atI xs i = some v ∧ Q v H
def rIxS : R2 := fun x y H Q => ∃ z i c, x = .str z ∧ y = .int i ∧ z.length ≤ sizeLine ∧ atI z.cps.toList i = some c ∧ Q (.str ⟨#[c]⟩) H
theorem ix_list : IxR X (rIxL X.K) := by
  intro value slice pins s σ H x y v u Q I rx ry h hs
  obtain ⟨p, xs, i, z, rfl, rfl, hq, he, q⟩ := h
  cases rx
  obtain ⟨t, rfl⟩ := ry
  obtain ⟨its, r, pl, hz⟩ := I.list hq
  obtain ⟨j, h1, h2, h3, h4, h5⟩ := atI_get he
  obtain ⟨w, ew, rw'⟩ := r.get h2
  have hl := r.length
  have hn := line63
  have fin : EP X pins σ Q w s := ⟨z, H, I, rw', q⟩
  by_cases h0 : 0 ≤ i
  · have hj : i.toNat = j := by
      rw [seqIndex_of h0 h5] at h1
      exact Option.some.inj h1
    exact item_listR pl.isList h0 (by omega) (by rw [hj]; simpa using ew) fin hs
  · have hj : (i + (its.toArray.size : Int)).toNat = j := by
      rw [seqIndex_neg (by omega) h4] at h1
      rw [List.size_toArray, ← hl]
      exact Option.some.inj h1
    exact subscriptTail_builtinR (x := w) pl.isList.typeIs slot_list_getitem.lookup
      (wpAny_getItem_list_neg (Q := fun r s' => r = w ∧ EP X pins σ Q r s') pl.isList (by omega) (by rw [List.size_toArray] <;> omega) (by omega) (by rw [hj]; simpa using ew) ⟨rfl, fin⟩) hs
theorem ix_tup : IxR X (rIxT X.K) := by
  intro value slice pins s σ H x y v u Q I rx ry h hs
  obtain ⟨p, xs, i, z, rfl, rfl, hq, he, q⟩ := h
  cases rx
  obtain ⟨t, rfl⟩ := ry
  obtain ⟨its, r, pl, hz⟩ := I.tuple hq
  obtain ⟨j, h1, h2, h3, h4, h5⟩ := atI_get he
  obtain ⟨w, ew, rw'⟩ := r.get h2
  have hl := r.length
  have hn := line63
  have fin : EP X pins σ Q w s := ⟨z, H, I, rw', q⟩
  exact subscriptTail_builtinR (x := w) pl.typeIs slot_tuple_getitem.lookup
    (getItem_tuple (j := j) (Q := fun r s' => r = w ∧ EP X pins σ Q r s') pl (by omega) (by omega) (by rw [List.size_toArray, ← hl]; exact h1) (by simpa using ew) ⟨rfl, fin⟩) hs
theorem ix_str : IxR X rIxS := by
  intro value slice pins s σ H x y v u Q I rx ry h hs
  obtain ⟨z, i, c, rfl, rfl, hz, he, q⟩ := h
  obtain ⟨t, rfl⟩ := rx
  obtain ⟨t', rfl⟩ := ry
  obtain ⟨j, h1, h2, h3, h4, h5⟩ := atI_get he
  have hl : z.cps.toList.length = z.length := by simp [Str.length]
  rw [hl] at h1 h4 h5
  have hn := line63
  exact tail_any (typeIs_str s z t) slot_str_getitem.lookup (getItem_str (c := c) (by
    have e1 : decide (i < -(2 ^ 63 : Int)) = false := decide_eq_false (by omega)
    have e2 : decide (i ≥ 2 ^ 63) = false := decide_eq_false (by omega)
    rw [e1, e2, Bool.or_false]) (by rw [h1]; simpa using h2) ⟨.str ⟨#[c]⟩, H, I.tok _, ⟨_, rfl⟩, q⟩) hs
theorem Inv.lst {pins : List (Addr × Obj)} {σ : St} {H : Hp} {s : Shared} {p : Addr} {xs : List V} (I : Inv X pins σ H s) (h : H p = some (.lst xs)) :
    ∃ (its : List Value) (n : Nat), Vals xs its ∧ s.heap.get? p = some { cls := .type "list", data := .seq its.toArray n } ∧ xs.length ≤ sizeLine := by
  obtain ⟨z, its, n, r, e⟩ := I.hok p _ h
  exact ⟨its, n, r, e, z⟩
theorem slice_bounds (lo hi : Option Int) (n : Nat) : (sliceBounds lo hi none n).1 = ((HT.sIx n 0 lo : Nat) : Int) ∧ (sliceBounds lo hi none n).2.1 = ((HT.sIx n n hi : Nat) : Int) ∧ (sliceBounds lo hi none n).2.2 = 1 := by
  refine ⟨?_, ?_, rfl⟩
  · cases lo with
    | none => simp [sliceBounds, HT.sIx]
    | some i =>
      simp only [sliceBounds, HT.sIx, Option.getD_none, show (1 : Int) > 0 by decide, if_true]
      by_cases h : i < 0
      · simp only [h, if_true] <;> omega
      · simp only [h, if_false] <;> omega
  · cases hi with
    | none => simp [sliceBounds, HT.sIx]
    | some i =>
      simp only [sliceBounds, HT.sIx, Option.getD_none, show (1 : Int) > 0 by decide, if_true]
      by_cases h : i < 0
      · simp only [h, if_true] <;> omega
      · simp only [h, if_false] <;> omega
theorem slicePick_cut (its : List Value) (lo hi : Option Int) : slicePick its.toArray lo hi none = ((its.drop (HT.sIx its.length 0 lo)).take (HT.sIx its.length its.length hi - HT.sIx its.length 0 lo)).toArray := by
  obtain ⟨h1, h2, h3⟩ := slice_bounds lo hi its.toArray.size
  unfold slicePick
  rw [h1, h2, h3]
  simp only [sliceRange_one, pick_run, List.size_toArray] <;> rfl
def rSlL (K : PySem.W.Frag) : V → Option Int → Option Int → Hp → VK → Prop := fun x lo hi H Q => ∃ a xs, x = .ref a ∧ SqL K H a xs ∧ ∀ p, H p = none → Q (.ref p) (upd H p (.lst (cutV xs lo hi)))
theorem sl_list : SlR X (rSlL X.K) := by
  intro pins s σ H x v vl vu lo hi sl Q I rx hs pl pu h
  obtain ⟨a, xs, rfl, hx, q⟩ := h
  cases rx
  obtain ⟨its, r, ht, hz⟩ := I.list hx
  have hlen := r.length
  refine ⟨"list", _, slot_list_getitem.lookup, ht.isList.typeIs, ?_⟩
  refine wpAny_getItem_list_slice ht.isList hs pl pu .none (by simp) ?_ (by rw [List.size_toArray] <;> omega)
  rw [slicePick_cut, ← hlen]
  refine ⟨.ref s.heap.objs.size, _, I.laid (t' := s.toks) (o := .lst (cutV xs lo hi)) (fun b ob q => Heap.get?_push_of_some _ q) (Nat.le_refl _) ?_, rfl, q _ (I.hok.fresh (Nat.le_refl _))⟩
  exact ⟨Nat.le_trans (cutV_length xs lo hi) hz, _, 0, (r.drop (HT.sIx xs.length 0 lo)).take (HT.sIx xs.length xs.length hi - HT.sIx xs.length 0 lo), Heap.get?_push_size _ rfl⟩
theorem call_len_seq : CallR X (.builtin "len") (fun xs H Q => ∃ p ys, xs = [.ref p] ∧ (SqL X.K H p ys ∨ SqT X.K H p ys) ∧ Q (.int ys.length) H) := by
  intro pins s σ H xs us Q I r h
  obtain ⟨p, ys, rfl, hq, q⟩ := h
  obtain ⟨u, rfl, rx⟩ := vals1 r
  cases rx
  have hn := line63
  rcases hq with hq | hq
  · obtain ⟨its, r', pl, hz⟩ := I.list hq
    have hlen := r'.length
    exact Calls.call_len_list pl.isList (by simp only [List.size_toArray] <;> omega) ⟨.int ys.length, H, I.tok _, ⟨s.toks + 1, by rw [List.size_toArray, hlen]⟩, q⟩
  · obtain ⟨its, r', pl, hz⟩ := I.tuple hq
    have hlen := r'.length
    exact len_tuple pl (by simp only [List.size_toArray] <;> omega) ⟨.int ys.length, H, I.tok _, ⟨s.toks + 1, by rw [List.size_toArray, hlen]⟩, q⟩
theorem call_len_str : CallR X (.builtin "len") (fun xs H Q => ∃ z, xs = [.str z] ∧ z.length ≤ sizeLine ∧ Q (.int z.length) H) := by
  intro pins s σ H xs us Q I r h
  obtain ⟨z, rfl, hz, q⟩ := h
  obtain ⟨u, rfl, t, rfl⟩ := vals1 r
  have hn := line63
  exact len_str (by omega) ⟨.int z.length, H, I.tok _, ⟨_, rfl⟩, q⟩
def tyV (K : PySem.W.Frag) (T : String) (x : V) (H : Hp) : Prop := match x with
  | .str _ => T = "str"
  | .int _ => T = "int"
  | .ref p => (T = "list" ∧ ∃ xs, SqL K H p xs) ∨ (T = "tuple" ∧ ∃ o, K.lookup p = some o ∧ o.cls = .type "tuple" ∧ o.dict = none) ∨
      (T = "dict" ∧ ((∃ kvs, H p = some (.dK kvs)) ∨ ∃ kvs, H p = some (.dT kvs))) ∨ (T = "set" ∧ ∃ S n, H p = some (.set S n))
  | _ => False
theorem tyV_is {pins : List (Addr × Obj)} {σ : St} {H : Hp} {s : Shared} {T : String} {x : V} {v : Value} (I : Inv X pins σ H s) (r : RelV x v) (ty : tyV X.K T x H) :
    s.TypeIs v T ∧ ∀ a, v = .ref a → ∃ ob, s.heap.get? a = some ob ∧ ob.dict = none := by
  cases x with
  | str z =>
    obtain ⟨t, rfl⟩ := r
    cases (show T = "str" from ty)
    exact ⟨typeIs_str s z t, fun _ e => nomatch e⟩
  | int i =>
    obtain ⟨t, rfl⟩ := r
    cases (show T = "int" from ty)
    exact ⟨typeIs_int s i t, fun _ e => nomatch e⟩
  | ref p =>
    cases r
    rcases ty with ⟨rfl, xs, hq⟩ | ⟨rfl, o, hk, hc, hd⟩ | ⟨rfl, hk⟩ | ⟨rfl, S, n, hk⟩
    · obtain ⟨its, _, pl, _⟩ := I.list hq
      refine ⟨pl.isList.typeIs, fun a e => ?_⟩
      cases e
      obtain ⟨o, n, e, c, hd, _⟩ := pl
      exact ⟨o, e, hd⟩
    · refine ⟨⟨o, I.kIn p o hk, hc⟩, fun a e => ?_⟩
      cases e
      exact ⟨o, I.kIn _ o hk, hd⟩
    · have z : ∃ o, s.heap.get? p = some o ∧ o.ExactDict := by
        rcases hk with ⟨kvs, hk⟩ | ⟨kvs, hk⟩
        · obtain ⟨_, _, _, _, o, _, _, e, ex, _⟩ := I.hok p _ hk
          exact ⟨o, e, ex⟩
        · obtain ⟨_, _, _, _, o, _, _, e, ex, _⟩ := I.hok p _ hk
          exact ⟨o, e, ex⟩
      obtain ⟨o, e, ex⟩ := z
      refine ⟨⟨o, e, ex.1⟩, fun a e2 => ?_⟩
      cases e2
      exact ⟨o, e, ex.2.1⟩
    · obtain ⟨o, _, _, _, e, ex, _⟩ := I.hok p _ hk
      refine ⟨⟨o, e, ex.1⟩, fun a e2 => ?_⟩
      cases e2
      exact ⟨o, e, ex.2.1⟩
  | _ => exact False.elim ty
def tBM0 (K : PySem.W.Frag) (T : String) (r : V → List V → Hp → VK → Prop) (to : TE) : TE := fun σ H Q => to σ H fun x H1 => tyV K T x H1 ∧ r x [] H1 Q
def tBM (K : PySem.W.Frag) (T : String) (r : V → List V → Hp → VK → Prop) (to : TE) (t : TA) : TE := fun σ H Q => to σ H fun x H1 => tyV K T x H1 ∧ t σ H1 fun xs H2 => r x xs H2 Q
variable {o e : Expr} {es : List Expr} {to : TE} {t : TA} {name : Str} {apos cpos : Pos} {T id : String} {r : V → List V → Hp → VK → Prop}
theorem pe_bm0 (pa : PlainAttrs T) (slot : Slot T name id) (hty : typeOf (.builtin id) = pure (.type "method_descriptor")) (hm : MtR X id r) (ho : PE X o to)
    (hbase : attributeBase o name X.env (eval o X.env) = eval o X.env := by rfl) (hline : (apos.endLine == cpos.line) = true := by rfl) : PE X (.Call (.Attribute o name apos) [] [] cpos) (tBM0 X.K T r to) := by
  intro pins s σ H Q I h
  refine wpAny_Call_method0_late hbase hline (thn (ho pins s σ H _ I h) fun v s1 ⟨x, H1, I1, r1, ty, q1⟩ => ?_)
  obtain ⟨h1, h2⟩ := tyV_is I1 r1 ty
  exact ⟨T, id, pa, slot, hty, h1, h2, Calls.callWith_builtin rfl (PySem.evalArgs_none (hm pins s1 σ H1 x [] v [] Q I1 r1 .nil q1))⟩
theorem pe_bm (pa : PlainAttrs T) (slot : Slot T name id) (hty : typeOf (.builtin id) = pure (.type "method_descriptor")) (hm : MtR X id r) (ho : PE X o to) (ha : PA X (e :: es) t)
    (hbase : attributeBase o name X.env (eval o X.env) = eval o X.env := by rfl)
    (hfew : ((backTo cpos (starEach (e :: es) X.env)).all (fun x => !x.1) && (backToKw cpos (keywordEach [] X.env)).all (fun x => x.1.isSome)
      && decide ((e :: es).length + ([] : List Keyword).length + (if ([] : List Keyword).isEmpty then 0 else 1) < 30)) = true := by rfl)
    (hline : (apos.endLine == cpos.line) = true := by rfl) (hs : starEach (e :: es) X.env = (false, eval e X.env) :: starEach es X.env := by rfl) (hplain : (backTo cpos (starEach es X.env)).any (·.1) = false := by rfl) :
    PE X (.Call (.Attribute o name apos) (e :: es) [] cpos) (tBM X.K T r to t) := by
  intro pins s σ H Q I h
  refine wpAny_Call_method_late hbase hfew hline rfl (thn (ho pins s σ H _ I h) fun v s1 ⟨x, H1, I1, r1, ty, q1⟩ => ?_)
  obtain ⟨h1, h2⟩ := tyV_is I1 r1 ty
  refine ⟨T, id, pa, slot, hty, h1, h2, ?_⟩
  have hA := ha cpos pins s1 σ H1 _ I1 q1
  rw [hs] at hA ⊢
  refine Calls.callWith_builtin (by show (false || (backTo cpos (starEach es X.env)).any (·.1)) = false; rw [hplain] <;> rfl) (Calls.evalArgs_plain ?_)
  exact thn hA fun us s2 ⟨vs, H2, I2, r2, q2⟩ => hm pins s2 σ H2 x vs v us Q I2 r1 r2 q2
end
end L2
namespace L2
open PySem PySem.Spec PyProof.Rows
def MtM (X : Cx) (id : String) (r : V → List V → Hp → VK → Prop) : Prop :=
  ∀ (pins : List (Addr × Obj)) (s : Shared) (σ : St) (H : Hp) (x : V) (xs : List V) (v : Value) (us : List Value) (Q : VK), Inv X pins σ H s → RelV x v → Vals xs us → r x xs H Q →
    wpAny (model X.prog X.w) X.A (call (.builtin id) (v :: us)) (EP X pins σ Q) X.xe s
theorem Vals.one : ∀ {x : V} {us : List Value}, Vals [x] us → ∃ u, us = [u] ∧ RelV x u
  | _, _, .cons r .nil => ⟨_, rfl, r⟩
theorem Vals.zero : ∀ {us : List Value}, Vals [] us → us = []
  | _, .nil => rfl
theorem Vals.eraseIdx : ∀ {xs : List V} {us : List Value} (i : Nat), Vals xs us → Vals (xs.eraseIdx i) (us.eraseIdx i)
  | _, _, _, .nil => .nil
  | _, _, 0, .cons _ t => t
  | _, _, i + 1, .cons r t => .cons r (Vals.eraseIdx i t)
theorem Vals.reverse {xs : List V} {us : List Value} (h : Vals xs us) : Vals xs.reverse us.reverse := by
  induction h with
  | nil => exact .nil
  | cons r t ih => rw [List.reverse_cons, List.reverse_cons]; exact Vals.append ih (.cons r .nil)
section
variable {X : Cx} {pins : List (Addr × Obj)} {σ : St} {H : Hp} {s : Shared} {l b : Addr} {xs ys zs : List V}
theorem Inv.lset {its its' : List Value} {n : Nat} {f : Array Value → Array Value} {t' : Nat} (I : Inv X pins σ H s) (hH : H l = some (.lst xs))
    (e : s.heap.get? l = some { cls := .type "list", data := .seq its.toArray n }) (hf : f its.toArray = its'.toArray) (hv : Vals ys its') (hz : ys.length ≤ sizeLine) :
    Inv X pins σ (upd H l (.lst ys)) { s with heap := s.heap.update l (Obj.mapSeq f), toks := t' } := by
  have q := PySem.IsL.update e f
  rw [hf] at q
  refine I.write (x := l) (e := l) (by rw [hH]; exact trivial) (.inl rfl) (fun b' u hb hu => (Heap.get?_update_other s.heap (Obj.mapSeq f) (Ne.symm hb)).trans hu) ⟨_, q⟩ ?_
  exact ⟨hz, its', _, hv, q⟩
theorem Inv.lnew {its : List Value} {t' : Nat} (I : Inv X pins σ H s) (hv : Vals ys its) (hz : ys.length ≤ sizeLine) :
    Inv X pins σ (upd H s.heap.objs.size (.lst ys)) { s with heap := s.heap.push { cls := .type "list", data := .seq its.toArray }, toks := t' } :=
  I.laid (fun _ _ q => Heap.get?_push_of_some _ q) (Nat.le_refl _) ⟨hz, its, 0, hv, Heap.get?_push_size _ rfl⟩
theorem Inv.fresh (I : Inv X pins σ H s) : H s.heap.objs.size = none := I.hok.fresh (Nat.le_refl _)
theorem Inv.lstM (I : Inv X pins σ H s) (hH : H l = some (.lst xs)) : xs.length ≤ sizeLine ∧ ∃ (its : List Value) (n : Nat), Vals xs its ∧ xs.length = its.length ∧ s.heap.get? l = some { cls := .type "list", data := .seq its.toArray n } := by
  obtain ⟨z, its, n, r, e⟩ := I.hok l _ hH
  exact ⟨z, its, n, r, r.length, e⟩
end
section
variable {X : Cx}
def rAppend : V → List V → Hp → VK → Prop := fun x vs H Q => ∃ l xs y, x = .ref l ∧ vs = [y] ∧ H l = some (.lst xs) ∧ xs.length < sizeLine ∧ Q .non (upd H l (.lst (xs ++ [y])))
theorem mt_append : MtM X "list.append" rAppend := by
  intro pins s σ H x vs v us Q I rx rv h
  obtain ⟨l, xs, y, rfl, rfl, hH, hz, q⟩ := h
  cases rx
  obtain ⟨u, rfl, ru⟩ := rv.one
  obtain ⟨z, its, n, r, hl, e⟩ := I.lstM hH
  refine call_meets F.slot_list_append ⟨_, e, rfl⟩ F.entry_list_append (F.args_list_append_2 _ _) (PySem.list_append l its.toArray n u (by rw [List.size_toArray]; omega)) ⟨e, ?_⟩
  refine ⟨.non, _, I.lset (its' := its ++ [u]) hH e (by simp) (r.append (.cons ru .nil)) ?_, rfl, q⟩
  rw [List.length_append, List.length_singleton]
  omega
def rReverse : V → List V → Hp → VK → Prop := fun x vs H Q => ∃ l xs, x = .ref l ∧ vs = [] ∧ H l = some (.lst xs) ∧ Q .non (upd H l (.lst xs.reverse))
theorem mt_reverse : MtM X "list.reverse" rReverse := by
  intro pins s σ H x vs v us Q I rx rv h
  obtain ⟨l, xs, rfl, rfl, hH, q⟩ := h
  cases rx
  have hus := rv.zero
  subst hus
  obtain ⟨z, its, n, r, hl, e⟩ := I.lstM hH
  refine call_meets F.slot_list_reverse ⟨_, e, rfl⟩ F.entry_list_reverse (F.args_list_reverse_1 _) (AutoSeq1.list_reverse_list_0 l its.toArray n (by rw [List.size_toArray]; omega)) ⟨e, ?_⟩
  refine ⟨.non, _, I.lset (its' := its.reverse) hH e (by simp) r.reverse ?_, rfl, q⟩
  rw [List.length_reverse]
  omega
end
end L2
namespace Att
open PySem PySem.W PySem.Calls PyProof.Rows
theorem ints_of_wellAll {P : Params} {h : Heap} : ∀ (ns : List Int) (vs : List Value), WellAll P h vs (ns.map WData.int) → IntsAre vs ns := by
  intro ns
  induction ns with
  | nil =>
    intro vs w
    rw [List.map_nil] at w
    cases w
    exact .nil
  | cons n ns ih =>
    intro vs w
    rw [List.map_cons] at w
    cases w with
    | cons a b =>
      cases a
      exact .cons _ _ (ih _ b)
theorem script_of {l : OpenLaw} {n : Nat} (hn : l.most = some n) {P : Params} {h : Heap} {args : List WData} {vals : List Value}
    (hpre : l.row.toRowW.claim.pre args = true) (hwl : WellAll P h vals args) :
    ∃ a vs ns, vals = [Value.ref a] ∧ args = [WData.list (ns.map WData.int)] ∧ h.get? a = some { cls := .type "list", data := .seq vs.toArray } ∧ IntsAre vs ns ∧ ns.length ≤ n := by
  have hsh : WShape.hasAll [] args [.list .int] = true := (pre_splitW hpre).1
  have hc : l.pre.holds [] { args := args } = true := (pre_splitW hpre).2
  obtain ⟨d, r, rfl, h1, h2⟩ := hasAllW_cons hsh
  obtain rfl := hasAllW_nil h2
  obtain ⟨xs, rfl, h3⟩ := hasW_list h1
  obtain ⟨ns, rfl⟩ := items_int h3
  have hlen : ns.length ≤ n := by
    unfold OpenLaw.pre at hc
    have h4 : (WTm.not (.lt (.lit (.int (n : Int))) (.len (.arg 0)))).holds [] { args := [.list (ns.map .int)] } = true := by
      have h4 := (holds_andW hc).1
      rw [hn] at h4
      exact h4
    have h5 := condW_of h4 (w_not (w_lt w_lit (w_len_list (w_arg rfl))))
    rw [List.length_map] at h5
    refine Nat.le_of_not_lt fun q => ?_
    have q' : (n : Int) < ((ns.length : Nat) : Int) := by omega
    first
      | (rw [decide_eq_true q'] at h5; exact absurd h5 (by decide))
      | (simp at h5; omega)
  cases hwl with
  | cons w1 w2 =>
    cases w2
    cases w1 with
    | list ho hall => exact ⟨_, _, ns, rfl, rfl, ho, ints_of_wellAll ns _ hall, hlen⟩
theorem post_true (l : OpenLaw) (args : List WData) : l.row.toRowW.claim.post args (.bool true) args = true :=
  postW_of (r := l.row.toRowW) (X := (true == true))
    (show WShape.has [] (.bool true) .bool = true by first | rfl | decide | simp [WShape.has, WShape.arms, WShape.armsAll])
    (show (WTm.eq .res (.lit (.bool true))).value [] { args := args, res := some (.bool true), after := args } = some (.bool (true == true)) from w_eq_bool (w_res rfl) w_lit) rfl
theorem attach_call {l : OpenLaw} {n : Nat} {q : Program} {loose : List Str} {XP : (Str → Option Value) → Heap → Prop} {YP : World → Heap → Prop} {d : DefRec}
    (hn : l.most = some n) (hdf : d.params.defaults = [])
    (call : ∀ (w : World) (s₀ s₁ : Shared) (mg mb : Str → Option Value) (fa : Addr) (o : Obj) (pm cd doc : Value) (a : Addr) (vs : List Value) (ns : List Int),
      Ground q loose [] XP w s₀ mg mb s₁.heap → YP w s₁.heap →
      s₁.heap.get? fa = some o → o.data = .func (docDef d.name d.params d.body d.scope pm cd doc) → s₁.heap.CodeRec cd d.name → mg d.name = some (.ref fa) →
      s₁.heap.get? a = some { cls := .type "list", data := .seq vs.toArray } → IntsAre vs ns → ns.length ≤ n → s₁.gens = #[] →
      codeAny (model l.prog w) callerA (.call (.ref fa) ⟨[.ref a], []⟩) (fun r s' => r = .ok (.ret (.bool true)) ∧ OldK s₁.heap s'.heap ∧ s'.os = s₁.os ∧ AllBare s'.gens) s₁) :
    WalkO q loose XP YP l.row.toRowW d [] (fun f vs => PySem.call f vs) := by
  intro w s₀ s₁ mg mb G Y fa o pm cd doc dV kV ho hd hcd hD hmg hg args vals as hpre hlay hrd hwl hlo
  obtain rfl : dV = .none := Dflts.none hD hdf
  obtain rfl : kV = .none := Dflts.noKw hD
  obtain ⟨a, vs, ns, rfl, rfl, hobj, hints, hlen⟩ := script_of hn hpre hwl
  refine enter_call (codeAny_mono (call w s₀ s₁ mg mb fa o pm cd doc a vs ns G Y ho (fd_plain hd) hcd hmg hobj hints hlen hg) fun r s' hq => ?_)
  obtain ⟨rfl, h2, h3, h4⟩ := hq
  exact ⟨.inl ⟨.bool true, .bool true, [], rfl, fun _ => rfl, .bool true, post_true l _, fun _ => ⟨List.Pairwise.nil, fun _ hm => (nomatch hm)⟩⟩, h2, h3, h4⟩
end Att
namespace L2
open PySem PySem.Spec PyProof.Rows
theorem vals_ints : ∀ {vs : List Value} {ns : List Int}, IntsAre vs ns → Vals (ns.map V.int) vs
  | _, _, .nil => .nil
  | _, _, .cons n t h => .cons ⟨t, rfl⟩ (vals_ints h)
def Only (H : Hp) : Prop := ∀ b, H b = none ∨ ∃ o xs, H b = some (.frz o (.lst xs))
theorem law_call {P : Program} {w : World} {K : PySem.W.Frag} {mg mb : Str → Option Value} {CX : CXT} {k : Nat} {fa a : Addr} {fd : FuncData} {x : Str} {sp : Sp} {s₁ : Shared} {vs : List Value} {ns : List Int}
    (KX : K.In s₁.heap) (hns : s₁.heap.Ns mainGlobals mg) (hb : s₁.heap.Ns builtinsNs mb) (hbb : ∀ x : Str, x ≠ "__name__" → mb x = bootBuiltins x) (hlim : s₁.heap.NoLimit) (hg : s₁.gens = #[])
    (ha : s₁.heap.get? a = some { cls := .type "list", data := .seq vs.toArray }) (hi : IntsAre vs ns) (hl : ns.length ≤ sizeLine) (hr : Room k callerA)
    (F : ∀ base : Heap, K.In base → base.Ns mainGlobals mg → FnOk P w K mg base CX k fa fd [x] sp) (hbind : ∀ (s : Shared) (u : Value), BindsTo s fd ⟨[u], []⟩ [(x, u)])
    (hsp : ∀ H : Hp, Only H → SqL K H a (ns.map V.int) → sp [.ref a] H (fun v _ => v = .bl true) fun _ _ _ => False)
    (hCX : ∀ H e s', CX [] H s₁ (fun _ _ _ => False) e s' → False) :
    codeAny (model P w) callerA (.call (.ref fa) ⟨[.ref a], []⟩) (fun r s' => r = .ok (.ret (.bool true)) ∧ OldK s₁.heap s'.heap ∧ s'.os = s₁.os ∧ AllBare s'.gens) s₁ := by
  have rv := vals_ints hi
  have lenV := hi.length
  have core : ∀ H : Hp, Only H → SqL K H a (ns.map V.int) → HOk P w H s₁.heap → (∀ b, H b ≠ none → b = a) → (H a ≠ none → K.lookup a = none) →
      codeAny (model P w) callerA (.call (.ref fa) ⟨[.ref a], []⟩) (fun r s' => r = .ok (.ret (.bool true)) ∧ OldK s₁.heap s'.heap ∧ s'.os = s₁.os ∧ AllBare s'.gens) s₁ := by
    intro H hO hS hok hA hK
    have base_of : ∀ {b : Addr} {o : Obj}, s₁.heap.get? b = some o → H b = none → (hidT s₁.heap H).get? b = some o := fun e n => hidT_get e n
    have noA : ∀ {b : Addr} {o : Obj} {es : Array DictEntry} {ep : Nat}, s₁.heap.get? b = some o → o.data = .dict es ep → H b = none := fun {b o es ep} e d => by
      cases q : H b with
      | none => rfl
      | some u =>
        have e' : b = a := hA b (by rw [q]; simp)
        subst e'
        rw [ha] at e; cases e
        have d' : Data.seq vs.toArray _ = Data.dict es ep := d
        cases d'
    have nsK : ∀ {b : Addr} {m : Str → Option Value}, s₁.heap.Ns b m → (hidT s₁.heap H).Ns b m := fun {b m} ⟨o, es, ep, e, d, r⟩ => ⟨o, es, ep, base_of e (noA e d), d, r⟩
    have hKb : K.In (hidT s₁.heap H) := fun b o e => base_of (KX b o e) (by
      cases q : H b with
      | none => rfl
      | some u =>
        have e' : b = a := hA b (by rw [q]; simp)
        subst e'
        rw [hK (by rw [q]; simp)] at e; cases e)
    have hM : Mod K mg (hidT s₁.heap H) := ⟨hKb, nsK hns, ⟨mb, nsK hb, hbb⟩, let ⟨mc, h1, h2⟩ := hlim; ⟨mc, nsK h1, h2⟩⟩
    have e0 : Env0 P w K mg (hidT s₁.heap H) callerA [] s₁ H := ⟨rfl, hM, fun b o e => of_hidT e, Nat.le_of_eq (hidT_size _ _), trivial, fun b hb => absurd (show b ∈ ([] : List Addr) from hb) (by simp), hok, .of_eq hg⟩
    refine codeAny_mono ((F _ hKb (nsK hns)).run callerA [] s₁ H ⟨[.ref a], []⟩ [.ref a] [.ref a] _ _ hr e0 (hbind s₁ (.ref a)) (.cons rfl .nil) (hsp H hO hS)) fun r s' h => ?_
    cases r with
    | error e => exact (hCX H e s' h).elim
    | ok fl =>
      cases fl with
      | next => exact False.elim h
      | brk => exact False.elim h
      | cont => exact False.elim h
      | ret u =>
        obtain ⟨v, H', os, bare, un, hok', r', q⟩ := h
        have q' : v = .bl true := q
        subst q'
        obtain rfl : u = Value.bool true := r'
        refine ⟨rfl, OldK.of_keep fun b o e => ?_, os, bare⟩
        cases q : H b with
        | none => exact un.keep b o e q (by intro z; exact absurd (show b ∈ ([] : List Addr) from z) (by simp)) (by simp)
        | some u =>
          rcases hO b with z | ⟨ob, xs, z⟩
          · rw [q] at z; cases z
          · have z2 := un.frzs b ob _ z
            obtain ⟨e1, _⟩ := hok b _ z
            obtain ⟨e2, _⟩ := hok' b _ z2
            rw [e] at e1; cases e1
            exact e2
  cases hk : K.lookup a with
  | some o =>
    have e := KX a o hk
    rw [ha] at e
    cases e
    refine core (fun _ => none) (fun _ => .inl rfl) (.inr ⟨_, vs.toArray, _, hk, rfl, rfl, rfl, by rw [List.size_toArray, lenV]; exact hl, by simpa using rv⟩) (fun b u z => by have z' : (none : Option HO) = some u := z; cases z') (fun b z => absurd rfl z) fun z => absurd rfl z
  | none =>
    refine core (fun b => if b = a then some (.frz { cls := .type "list", data := .seq vs.toArray } (.lst (ns.map V.int))) else none) (fun b => ?_) (.inl (.inr ⟨{ cls := .type "list", data := .seq vs.toArray }, if_pos rfl⟩)) (fun b u z => ?_) (fun b z => ?_) fun _ => hk
    · by_cases hb : b = a
      · exact .inr ⟨_, _, if_pos hb⟩
      · exact .inl (if_neg hb)
    · by_cases hb : b = a
      · have z' := (if_pos hb).symm.trans z
        cases z'
        subst hb
        exact ⟨ha, by rw [List.length_map]; exact hl, vs, _, rv, ha⟩
      · have z' := (if_neg hb).symm.trans z
        cases z'
    · by_cases hb : b = a
      · exact hb
      · exact absurd (if_neg hb) z
end L2
namespace L2
open PySem PySem.Spec PyProof.Rows
theorem walk_of {l : PySem.W.OpenLaw} {n k : Nat} {q : Program} {loose : List Str} {XP : (Str → Option Value) → Heap → Prop} {YP : World → Heap → Prop} {d : DefRec} {K : Params → PySem.W.Frag} {CX : World → CXT} {sp : World → Sp} {x : Str}
    (hn : l.most = some n) (hn2 : n ≤ sizeLine) (hdf : d.params.defaults = []) (hr : Room k callerA)
    (hY : ∀ (w : World) (h : Heap), YP w h → (K w.params).In h)
    (F : ∀ (w : World) (mg : Str → Option Value) (fa : Addr) (h : Heap), (K w.params).In h → h.Ns mainGlobals mg → mg d.name = some (.ref fa) →
      ∃ fd : FuncData, (∀ (s : Shared) (u : Value), BindsTo s fd ⟨[u], []⟩ [(x, u)]) ∧
        ∀ base : Heap, (K w.params).In base → base.Ns mainGlobals mg → FnOk l.prog w (K w.params) mg base (CX w) k fa fd [x] (sp w))
    (hsp : ∀ (w : World) (H : Hp) (a : Addr) (ns : List Int), ns.length ≤ n → Only H → SqL (K w.params) H a (ns.map V.int) → sp w [.ref a] H (fun v _ => v = .bl true) fun _ _ _ => False)
    (hCX : ∀ (w : World) (H : Hp) (s : Shared) (e : Value) (s' : Shared), CX w [] H s (fun _ _ _ => False) e s' → False) :
    PySem.W.WalkO q loose XP YP l.row.toRowW d [] (fun f vs => PySem.call f vs) := by
  refine Att.attach_call hn hdf fun w s₀ s₁ mg mb fa o pm cd doc a vs ns G Y ho hd hcd hmg hobj hints hlen hg => ?_
  have KX := hY w _ Y
  obtain ⟨fd, hb, hF⟩ := F w mg fa _ KX G.T.g hmg
  exact law_call KX G.T.g G.T.b G.T.builtins G.T.nolimit hg hobj hints (Nat.le_trans hlen hn2) hr hF hb (fun H hO hS => hsp w H a ns hlen hO hS) fun H e s' => hCX w H s₁ e s'
theorem walk_ofK {l : PySem.W.OpenLaw} {n k : Nat} {q : Program} {loose : List Str} {XP : (Str → Option Value) → Heap → Prop} {YP : World → Heap → Prop} {d : DefRec} {K : Params → PySem.W.Frag} {CX : CXT} {sp : PySem.W.Frag → Sp} {x : Str}
    (hn : l.most = some n) (hn2 : n ≤ sizeLine) (hdf : d.params.defaults = []) (hr : Room k callerA)
    (hY : ∀ (w : World) (h : Heap), YP w h → (K w.params).In h)
    (F : ∀ (w : World) (mg : Str → Option Value) (fa : Addr) (h : Heap), (K w.params).In h → h.Ns mainGlobals mg → mg d.name = some (.ref fa) →
      ∃ fd : FuncData, (∀ (s : Shared) (u : Value), BindsTo s fd ⟨[u], []⟩ [(x, u)]) ∧
        ∀ base : Heap, (K w.params).In base → base.Ns mainGlobals mg → FnOk l.prog w (K w.params) mg base CX k fa fd [x] (sp (K w.params)))
    (hsp : ∀ (K : PySem.W.Frag) (H : Hp) (a : Addr) (ns : List Int), ns.length ≤ n → Only H → SqL K H a (ns.map V.int) → sp K [.ref a] H (fun v _ => v = .bl true) fun _ _ _ => False)
    (hCX : ∀ (H : Hp) (s : Shared) (e : Value) (s' : Shared), CX [] H s (fun _ _ _ => False) e s' → False) :
    PySem.W.WalkO q loose XP YP l.row.toRowW d [] (fun f vs => PySem.call f vs) :=
  walk_of (K := K) (CX := fun _ => CX) (sp := fun w => sp (K w.params)) hn hn2 hdf hr hY F (fun w H a ns h1 h2 h3 => hsp (K w.params) H a ns h1 h2 h3) fun _ H s e s' => hCX H s e s'
end L2
namespace L2
open PySem PySem.Spec PyProof.Rows
def defArgs (s : Stmt) : Arguments := match s with
  | .FunctionDef _ a _ _ _ _ _ _ _ _ => a
  | _ => { posonlyargs := [], args := [], vararg := none, kwonlyargs := [], kw_defaults := [], kwarg := none, defaults := [] }
def defBody (s : Stmt) : List Stmt := match s with
  | .FunctionDef _ _ b _ _ _ _ _ _ _ => b
  | _ => []
def defScope (s : Stmt) : Scope := match s with
  | .FunctionDef _ _ _ _ _ _ sc _ _ _ => sc
  | _ => { kind := .function, names := [], isGenerator := false, isCoroutine := false }
abbrev CX0 : CXT := fun _ _ _ _ _ _ => False
abbrev E0 : XK := fun _ _ _ => False
theorem pass0 {X : Cx} : Passes CX0 X E0 := fun _ _ _ _ _ _ _ h => h.elim
structure Fun (K : PySem.W.Frag) (x qual : Str) (st : Stmt) (f : Addr) (fd : FuncData) : Prop where
  ex : ∃ (oc : Value) (od : Option Addr) (kV doc pm : Value) (an : Option Addr) (cdv ct : Value) (osl : Array (Option Value)),
    fd = PySem.W.fnOf x qual (defArgs st) (defBody st) (defScope st) .none kV doc pm an cdv ct ∧ K.lookup f = some ⟨oc, od, .func fd, osl⟩ ∧ PySem.W.codeIn K cdv qual = true
  kp : PySem.W.keepIn K (.ref f) = true
section
variable {P : Program} {w : World} {K : PySem.W.Frag} {mg : Str → Option Value} {base : Heap}
theorem Fun.ok {x qual : Str} {st : Stmt} {f : Addr} {fd : FuncData} {N ps : List Str} {k : Nat} {sp : Sp} (F : Fun K x qual st f fd) (S : FnScope N ps (defScope st)) (len : ∀ vs H Q E, sp vs H Q E → vs.length = ps.length)
    (hbody : ∀ (cdv : Value) (A : Around) (outer : List Env) (s : Shared) (H : Hp) (vs : List V) (Q : VK) (E : XK), Room k (A.deeper (envOfC qual (defScope st) s.heap.objs.size f cdv)) → sp vs H Q E →
      ∃ t, PSs (cxOf CX0 P w K mg base N qual (defScope st) f cdv A outer s H E).nox (defBody st) t ∧ t { nx := fun _ H' => Q .non H', rt := Q } (start N vs) H) : FnOk P w K mg base CX0 (k + 1) f fd ps sp := by
  obtain ⟨oc, od, kV, doc, pm, an, cdv, ct, osl, rfl, lk, hcd⟩ := F.ex
  refine fn_of lk hcd S len fun A outer s H vs Q E hr hsp => ?_
  obtain ⟨t, h, q⟩ := hbody cdv A outer s H vs Q E hr hsp
  exact ⟨t, h.nox, q⟩
theorem Fun.binds {x qual : Str} {st : Stmt} {f : Addr} {fd : FuncData} {ps : List Str} (F : Fun K x qual st f fd)
    (h : ∀ (kV doc pm : Value) (an : Option Addr) (cdv ct : Value) (us : List Value), us.length = ps.length → bindArgs (PySem.W.fnOf x qual (defArgs st) (defBody st) (defScope st) .none kV doc pm an cdv ct) ⟨us, []⟩ = pure (ps.zip us)) : Binds K fd ps [] := by
  obtain ⟨oc, od, kV, doc, pm, an, cdv, ct, osl, rfl, lk, hcd⟩ := F.ex
  exact .all (h kV doc pm an cdv ct)
theorem fun_mk {x qual : Str} {st : Stmt} {f : Addr} {oc : Value} {od an : Option Addr} {osl : Array (Option Value)} {kV doc pm cdv ct : Value} (l : K.lookup f = some ⟨oc, od, .func (PySem.W.fnOf x qual (defArgs st) (defBody st) (defScope st) .none kV doc pm an cdv ct), osl⟩)
    (c : PySem.W.codeIn K cdv qual = true) (k : PySem.W.keepIn K (.ref f) = true) : Fun K x qual st f (PySem.W.fnOf x qual (defArgs st) (defBody st) (defScope st) .none kV doc pm an cdv ct) := ⟨⟨oc, od, kV, doc, pm, an, cdv, ct, osl, rfl, l, c⟩, k⟩
end
theorem small1000 {n : Nat} (h : n ≤ 1000) : n < sizeLine := Nat.lt_of_le_of_lt h (by decide)
def Same (H H' : Hp) : Prop := ∀ b o, H b = some o → H' b = some o
theorem Same.refl (H : Hp) : Same H H := fun _ _ h => h
theorem Same.trans {H H1 H2 : Hp} (a : Same H H1) (b : Same H1 H2) : Same H H2 := fun c o h => b c o (a c o h)
theorem Same.free {H H' : Hp} (e : Same H H') {l : Addr} (h : H' l = Option.none) : H l = Option.none := by
  cases q : H l with
  | none => rfl
  | some o =>
    rw [e l o q] at h
    cases h
end L2
set_option maxRecDepth 100000
namespace L2
open PySem PySem.Spec PyProof.Rows
section
variable {κ : Type} [DecidableEq κ]
def valV (kvs : List (κ × V)) (k : κ) : Option V := (kvs.find? fun kv => decide (kv.1 = k)).map (·.2)
def putK (kvs : List (κ × V)) (k : κ) (v : V) : List (κ × V) :=
  if (kvs.any fun kv => decide (kv.1 = k)) = true then kvs.map (fun kv => if kv.1 = k then (kv.1, v) else kv) else kvs ++ [(k, v)]
theorem valV_pos {p : κ × V} {r : List (κ × V)} {k : κ} (e : p.1 = k) : valV (p :: r) k = some p.2 := by simp [valV, List.find?_cons, e]
theorem valV_neg {p : κ × V} {r : List (κ × V)} {k : κ} (e : ¬ p.1 = k) : valV (p :: r) k = valV r k := by simp [valV, List.find?_cons, e]
theorem valV_any (k : κ) : ∀ kvs : List (κ × V), (kvs.any fun kv => decide (kv.1 = k)) = (valV kvs k).isSome
  | [] => rfl
  | p :: r => by
    rw [List.any_cons]
    by_cases e : p.1 = k
    · simp only [valV_pos e, decide_eq_true e, Bool.true_or, Option.isSome_some]
    · rw [valV_neg e, decide_eq_false e, Bool.false_or]; exact valV_any k r
theorem RelO.isSome_eq {o : Option V} {u : Option Value} (r : RelO o u) : o.isSome = u.isSome := by
  cases o with
  | none => cases u with
    | none => rfl
    | some _ => exact (show False from r).elim
  | some _ => cases u with
    | none => exact (show False from r).elim
    | some _ => rfl
theorem KV.val {kvs : List (κ × V)} {vs : List (κ × Value)} (r : KV kvs vs) (k : κ) : RelO (valV kvs k) (valueAt vs k) := by
  unfold KV at r
  induction r with
  | nil => exact True.intro
  | @cons p q ps qs h t ih =>
    obtain ⟨h1, h2⟩ := h
    by_cases e : p.1 = k
    · have e' : q.1 = k := h1.symm.trans e
      have b : valueAt (q :: qs) k = some q.2 := by simp [valueAt, List.find?_cons, e']
      rw [valV_pos e, b]; exact h2
    · have e' : ¬ q.1 = k := fun z => e (h1.trans z)
      have b : valueAt (q :: qs) k = valueAt qs k := by simp [valueAt, List.find?_cons, e']
      rw [valV_neg e, b]; exact ih
theorem KV.any {kvs : List (κ × V)} {vs : List (κ × Value)} (r : KV kvs vs) (k : κ) : (kvs.any fun kv => decide (kv.1 = k)) = vs.any fun kv => decide (kv.1 = k) := by
  unfold KV at r
  induction r with
  | nil => rfl
  | cons h t ih => rw [List.any_cons, List.any_cons, ih, h.1]
theorem KV.repl {kvs : List (κ × V)} {vs : List (κ × Value)} (r : KV kvs vs) (k : κ) {y : V} {u : Value} (ry : RelV y u) :
    KV (kvs.map fun kv => if kv.1 = k then (kv.1, y) else kv) (vs.map fun kv => if kv.1 = k then (kv.1, u) else kv) := by
  unfold KV at r ⊢
  induction r with
  | nil => exact .nil
  | @cons p q ps qs h t ih =>
    rw [List.map_cons, List.map_cons]
    refine .cons ?_ ih
    obtain ⟨h1, h2⟩ := h
    by_cases e : p.1 = k
    · rw [if_pos e, if_pos (h1.symm.trans e)]; exact ⟨h1, ry⟩
    · rw [if_neg e, if_neg (fun z => e (h1.trans z))]; exact ⟨h1, h2⟩
theorem KV.put {kvs : List (κ × V)} {vs : List (κ × Value)} (r : KV kvs vs) (k : κ) {y : V} {u : Value} (ry : RelV y u) : KV (putK kvs k y) (stored vs k u) := by
  unfold putK stored
  rw [r.any k]
  by_cases e : (vs.any fun kv => decide (kv.1 = k)) = true
  · rw [if_pos e, if_pos e]; exact r.repl k ry
  · rw [if_neg e, if_neg e]; exact Paired.snoc r ⟨rfl, ry⟩
theorem KV.length {kvs : List (κ × V)} {vs : List (κ × Value)} (r : KV kvs vs) : kvs.length = vs.length := Paired.length r
end
theorem kV_is {P : Program} {w : World} {k : Key} {u : Value} (r : RelV (kV k) u) : (mixKind P w).is k u = true := by
  cases k with
  | inl i => obtain ⟨t, e⟩ := (show ∃ t, u = Value.int i t from r); subst e; exact mixKind_int P w i t
  | inr x => obtain ⟨t, e⟩ := (show ∃ t, u = Value.str x t from r); subst e; exact mixKind_str P w x t
theorem items_are {P : Program} {w : World} : ∀ {ks : List Key} {us : List Value}, Vals (ks.map kV) us → ItemsAre (mixKind P w) ks us
  | [], _, r => by rw [List.map_nil] at r; cases r; exact .nil
  | k :: ks, _, r => by
    rw [List.map_cons] at r
    cases r with
    | cons h t => exact .cons (kV_is h) (items_are t)
abbrev KT (H : Hp) : List (List Key × V) → List (List Key × Addr × Value) → Prop := Paired fun p q => p.1 = q.1 ∧ H q.2.1 = some (.tup (p.1.map kV)) ∧ RelV p.2 q.2.2
theorem KT.val {H : Hp} {kvs : List (List Key × V)} {xs : List (List Key × Addr × Value)} (r : KT H kvs xs) (k : List Key) : RelO (valV kvs k) ((atKey xs k).map (·.2)) := by
  induction r with
  | nil => exact True.intro
  | @cons p q ps qs h t ih =>
    obtain ⟨h1, _, h2⟩ := h
    by_cases e : p.1 = k
    · have e' : q.1 = k := h1.symm.trans e
      have b : atKey (q :: qs) k = some q.2 := by simp [atKey, List.find?_cons, e']
      rw [valV_pos e, b]; exact h2
    · have e' : ¬ q.1 = k := fun z => e (h1.trans z)
      have b : atKey (q :: qs) k = atKey qs k := by simp [atKey, List.find?_cons, e']
      rw [valV_neg e, b]; exact ih
theorem KT.repl {H : Hp} {kvs : List (List Key × V)} {xs : List (List Key × Addr × Value)} (r : KT H kvs xs) (k : List Key) {y : V} {u : Value} (ry : RelV y u) :
    KT H (kvs.map fun kv => if kv.1 = k then (kv.1, y) else kv) (xs.map (putAt k u)) := by
  induction r with
  | nil => exact .nil
  | @cons p q ps qs h t ih =>
    rw [List.map_cons, List.map_cons]
    refine .cons ?_ ih
    obtain ⟨h1, h2, h3⟩ := h
    unfold putAt
    by_cases e : p.1 = k
    · rw [if_pos e, if_pos (h1.symm.trans e)]; exact ⟨h1, h2, ry⟩
    · rw [if_neg e, if_neg (fun z => e (h1.trans z))]; exact ⟨h1, h2, h3⟩
theorem KT.put {H : Hp} {kvs : List (List Key × V)} {xs : List (List Key × Addr × Value)} (r : KT H kvs xs) (k : List Key) {b : Addr} {y : V} {u : Value} (hb : H b = some (.tup (k.map kV))) (ry : RelV y u) :
    KT H (putK kvs k y) (storedH xs k b u) := by
  have e : (kvs.any fun kv => decide (kv.1 = k)) = (atKey xs k).isSome := by
    rw [valV_any, (r.val k).isSome_eq, Option.isSome_map]
  unfold putK storedH
  rw [e]
  by_cases q : (atKey xs k).isSome = true
  · rw [if_pos q, if_pos q]; exact r.repl k ry
  · rw [if_neg q, if_neg q]; exact Paired.snoc r ⟨rfl, hb, ry⟩
theorem KT.keeps {H H' : Hp} {kvs : List (List Key × V)} {xs : List (List Key × Addr × Value)} (r : KT H kvs xs) (ht : ∀ b ys, H b = some (.tup ys) → H' b = some (.tup ys)) : KT H' kvs xs :=
  Paired.mapP r fun _ _ z => ⟨z.1, ht _ _ z.2.1, z.2.2⟩
section
variable {P : Program} {w : World} {H : Hp} {h : Heap} {a : Addr}
theorem rd_of {u : HO} (ok : HOk P w H h) (e : Rd H a u) : ObjOk P w H h a u := e.ok ok
theorem dk_rd {kvs : List (Key × V)} (ok : HOk P w H h) (e : Rd H a (.dK kvs)) : kvs.length ≤ sizeLine ∧ (a == sysModules) = false ∧ ∃ vs, KV kvs vs ∧ h.DictOf (mixKind P w) a vs :=
  show ObjOk P w H h a (.dK kvs) from rd_of ok e
theorem key_of {ks : List Key} (ok : HOk P w H h) (e : H a = some (.tup (ks.map kV))) : (tupleKind (mixKind P w)).is h ks a := by
  obtain ⟨_, its, r, o, h1, h2, n, h3⟩ := (show ObjOk P w H h a (.tup (ks.map kV)) from ok a _ e)
  exact ⟨o, its.toArray, n, h1, h2, h3, by simpa using items_are r⟩
theorem dt_rd {kvs : List (List Key × V)} (ok : HOk P w H h) (e : Rd H a (.dT kvs)) : kvs.length ≤ sizeLine ∧ (a == sysModules) = false ∧
    ∃ xs, KT H kvs xs ∧ h.DictOfH (tupleKind (mixKind P w)) a xs := by
  obtain ⟨z, y, xs, r, o, es, ep, h1, h2, h3, h4, h5⟩ := (show ObjOk P w H h a (.dT kvs) from rd_of ok e)
  refine ⟨z, y, xs, r, o, es, ep, h1, h2, h3, h4, fun x hx => ?_, h5⟩
  have all : ∀ {l : List (List Key × V)} {m : List (List Key × Addr × Value)}, KT H l m → ∀ x ∈ m, (tupleKind (mixKind P w)).is h x.1 x.2.1 := by
    intro l m q
    induction q with
    | nil => intro x hx; exact nomatch hx
    | @cons p q ps qs hq t ih =>
      intro x hx
      rcases List.mem_cons.mp hx with e | hx
      · subst e
        exact key_of ok (by rw [← hq.1]; exact hq.2.1)
      · exact ih x hx
  exact all r x hx
end
def DGet (H : Hp) (a : Addr) (y : V) (r : Option V) : Prop :=
  (∃ kvs k, Rd H a (.dK kvs) ∧ y = kV k ∧ r = valV kvs k) ∨ ∃ kvs k b, Rd H a (.dT kvs) ∧ y = .ref b ∧ H b = some (.tup (k.map kV)) ∧ r = valV kvs k
def DPut (H : Hp) (a : Addr) (y v : V) (H' : Hp) : Prop :=
  (∃ kvs k, H a = some (.dK kvs) ∧ y = kV k ∧ kvs.length < sizeLine ∧ H' = upd H a (.dK (putK kvs k v))) ∨
  ∃ kvs k b, H a = some (.dT kvs) ∧ y = .ref b ∧ H b = some (.tup (k.map kV)) ∧ kvs.length < sizeLine ∧ H' = upd H a (.dT (putK kvs k v))
theorem DGet.k {H : Hp} {a : Addr} {kvs : List (Key × V)} {k : Key} (e : H a = some (.dK kvs)) : DGet H a (kV k) (valV kvs k) := .inl ⟨kvs, k, .inl e, rfl, rfl⟩
theorem DPut.k {H : Hp} {a : Addr} {kvs : List (Key × V)} {k : Key} {v : V} (e : H a = some (.dK kvs)) (hl : kvs.length < sizeLine) : DPut H a (kV k) v (upd H a (.dK (putK kvs k v))) := .inl ⟨kvs, k, e, rfl, hl, rfl⟩
section
variable {X : Cx} {pins : List (Addr × Obj)} {σ : St} {H : Hp} {s : Shared} {a : Addr} {y v : V} {u r : Value} {o : Option V} {A : Around} {E : Value → Shared → Prop}
theorem Inv.big (I : Inv X pins σ H s) : sysModules < s.heap.objs.size := by
  have h : mainGlobals < s.heap.objs.size := (I.mod.glob.keeps I.bk).lt
  exact Nat.lt_trans (by decide) h
theorem d_getItem {Q : Value → Shared → Prop} (hu : A.units + 1 < cLine) (I : Inv X pins σ H s) (g : DGet H a y (some v)) (ry : RelV y u) (h : ∀ w' s', Inv X pins σ H s' → RelV v w' → Q w' s') :
    wpAny (model X.prog X.w) A (getItem (.ref a) u) Q E s := by
  rcases g with ⟨kvs, k, e, ey, l⟩ | ⟨kvs, k, b, e, ey, eb, l⟩
  · subst ey
    obtain ⟨z, hd, vs, rel, dd⟩ := dk_rd I.hok e
    obtain ⟨w', hw, rw'⟩ := RelO.some_of (v := v) (o := valueAt vs k) (by rw [l]; exact rel.val k)
    exact wpAny_getItem_of (kV_is ry) dd.mapOf hw (h w' _ (I.tok _) rw')
  · subst ey
    cases (show u = Value.ref b from ry)
    obtain ⟨z, hd, xs, rel, dd⟩ := dt_rd I.hok e
    obtain ⟨w', hw, rw'⟩ := RelO.some_of (v := v) (o := (atKey xs k).map (·.2)) (by rw [l]; exact rel.val k)
    obtain ⟨p, hp, hp2⟩ := Option.map_eq_some_iff.mp hw
    refine wpAny_getItem_heap (tupleKind_room_in1 hu) (key_of I.hok eb) dd hp ?_
    rw [hp2]
    exact h w' _ (I.tok _) rw'
theorem d_in {Q : Value → Shared → Prop} (hu : A.units + 1 < cLine) (I : Inv X pins σ H s) (g : DGet H a y o) (ry : RelV y u) (h : ∀ s', Inv X pins σ H s' → Q (.bool o.isSome) s') :
    wpAny (model X.prog X.w) A (compareOp .In u (.ref a)) Q E s := by
  rcases g with ⟨kvs, k, e, ey, l⟩ | ⟨kvs, k, b, e, ey, eb, l⟩
  · subst ey
    obtain ⟨z, hd, vs, rel, dd⟩ := dk_rd I.hok e
    refine wpAny_in_of (kV_is ry) hd dd.mapOf ?_
    rw [← (rel.val k).isSome_eq, ← l]
    exact h _ (I.tok _)
  · subst ey
    cases (show u = Value.ref b from ry)
    obtain ⟨z, hd, xs, rel, dd⟩ := dt_rd I.hok e
    refine wpAny_in_heap (tupleKind_room_in1 hu) (key_of I.hok eb) hd dd ?_
    have q := (rel.val k).isSome_eq
    rw [Option.isSome_map] at q
    rw [← q, ← l]
    exact h _ (I.tok _)
theorem d_notIn {Q : Value → Shared → Prop} (hu : A.units + 1 < cLine) (I : Inv X pins σ H s) (g : DGet H a y o) (ry : RelV y u) (h : ∀ s', Inv X pins σ H s' → Q (.bool (!o.isSome)) s') :
    wpAny (model X.prog X.w) A (compareOp .NotIn u (.ref a)) Q E s := by
  rcases g with ⟨kvs, k, e, ey, l⟩ | ⟨kvs, k, b, e, ey, eb, l⟩
  · subst ey
    obtain ⟨z, hd, vs, rel, dd⟩ := dk_rd I.hok e
    refine wpAny_notIn_of (kV_is ry) hd dd.mapOf ?_
    rw [← (rel.val k).isSome_eq, ← l]
    exact h _ (I.tok _)
  · subst ey
    cases (show u = Value.ref b from ry)
    obtain ⟨z, hd, xs, rel, dd⟩ := dt_rd I.hok e
    refine wpAny_notIn_heap (tupleKind_room_in1 hu) (key_of I.hok eb) hd dd ?_
    have q := (rel.val k).isSome_eq
    rw [Option.isSome_map] at q
    rw [← q, ← l]
    exact h _ (I.tok _)
end
section
variable {X : Cx} {pins : List (Addr × Obj)} {σ : St} {H : Hp} {s : Shared} {a : Addr} {kvs : List (Key × V)} {k : Key} {u : Value} {A : Around} {E : Value → Shared → Prop}
theorem d_len {Q : Value → Shared → Prop} (I : Inv X pins σ H s) (e : Rd H a (.dK kvs)) (h : ∀ t s', Inv X pins σ H s' → Q (.int kvs.length t) s') : wpAny (model X.prog X.w) A (call (.builtin "len") [.ref a]) Q E s := by
  obtain ⟨z, hd, vs, rel, dd⟩ := dk_rd I.hok e
  refine call_len_dict hd dd (by rw [← rel.length]; rw [sizeLine_eq] at z; omega) ?_
  rw [← rel.length]
  exact h _ _ (I.tok _)
end
theorem dict_typeIs {X : Cx} {pins : List (Addr × Obj)} {σ : St} {H : Hp} {s : Shared} {a : Addr} {y : V} {o : Option V} (I : Inv X pins σ H s) (g : DGet H a y o) : s.TypeIs (.ref a) "dict" := by
  rcases g with ⟨kvs, k, e, _, _⟩ | ⟨kvs, k, b, e, _, _, _⟩
  · obtain ⟨_, _, vs, _, dd⟩ := dk_rd I.hok e
    exact dd.typeIs
  · obtain ⟨_, _, xs, _, dd⟩ := dt_rd I.hok e
    exact dd.typeIs
section
variable {X : Cx} {o i e value : Expr} {pos pos' tpos : Pos} {td ty tv : TE}
end
section
variable {X : Cx} {pos : Pos}
end
end L2
namespace Tr
open PySem
inductive D where
  | non | bl (b : Bool) | int (i : Int) | str (x : Str) | tup (ds : List D) | lst (ds : List D) | dct (kvs : List (Sum Int Str × D))
  deriving Inhabited
inductive Res (α : Type) where
  | ok (a : α) | err (c : Nat) (d : D) | no
  deriving Inhabited
namespace Res
@[reducible] def bind {α β : Type} (x : Res α) (f : α → Res β) : Res β := match x with | .ok a => f a | .err c d => .err c d | .no => .no
instance : Monad Res where
  pure := .ok
  bind := bind
@[simp] theorem pure_eq {α : Type} (a : α) : (pure a : Res α) = .ok a := id rfl
@[simp] theorem ok_bind {α β : Type} (a : α) (f : α → Res β) : (Res.ok a >>= f) = f a := id rfl
@[simp] theorem err_bind {α β : Type} (c : Nat) (d : D) (f : α → Res β) : ((Res.err c d : Res α) >>= f) = .err c d := id rfl
@[simp] theorem no_bind {α β : Type} (f : α → Res β) : ((Res.no : Res α) >>= f) = .no := id rfl
theorem bind_ok {α β : Type} {x : Res α} {f : α → Res β} {b : β} (h : (x >>= f) = .ok b) : ∃ a, x = .ok a ∧ f a = .ok b := by
  cases x with
  | ok a => exact ⟨a, rfl, h⟩
  | err c d => cases h
  | no => cases h
end Res
def when {α : Type} (c : Bool) (r : Res α) : Res α := if c then r else .no
theorem when_ok {α : Type} {c : Bool} {r : Res α} {a : α} (h : when c r = .ok a) : c = true ∧ r = .ok a := by
  unfold when at h
  split at h
  · exact ⟨by assumption, h⟩
  · cases h
@[simp] theorem when_true {α : Type} (r : Res α) : when true r = r := id rfl
theorem when_of {α : Type} {c : Bool} (h : c = true) (r : Res α) : when c r = r := by subst h; rfl
def b2z (b : Bool) : Int := if b then 1 else 0
mutual
def D.eqb : D → D → Bool
  | .non, .non => true
  | .bl a, .bl b => a == b
  | .bl a, .int j => b2z a == j
  | .int i, .bl b => i == b2z b
  | .int i, .int j => i == j
  | .str x, .str y => x == y
  | .tup a, .tup b => D.eqs a b
  | .lst a, .lst b => D.eqs a b
  | _, _ => false
def D.eqs : List D → List D → Bool
  | [], [] => true
  | a :: r, b :: q => D.eqb a b && D.eqs r q
  | _, _ => false
end
mutual
def D.pl : Nat → D → Bool
  | _, .dct _ => false
  | n, .tup a => D.pls n a
  | n, .lst a => D.pls n a
  | _, _ => true
def D.pls : Nat → List D → Bool
  | _, [] => true
  | 0, _ :: _ => false
  | n + 1, a :: r => D.pl n a && D.pls (n + 1) r
end
mutual
def D.flat : D → Bool
  | .dct _ => false
  | .lst _ => false
  | .tup a => D.flats a
  | _ => true
def D.flats : List D → Bool
  | [] => true
  | a :: r => D.flat a && D.flats r
end
mutual
theorem D.eqb_refl : ∀ (n : Nat) (d : D), D.pl n d = true → D.eqb d d = true
  | _, .non, _ => rfl
  | _, .bl a, _ => by simp [D.eqb]
  | _, .int i, _ => by simp [D.eqb]
  | _, .str x, _ => by simp [D.eqb]
  | n, .tup a, h => by rw [D.eqb]; exact D.eqs_refl n a (by rw [D.pl] at h; exact h)
  | n, .lst a, h => by rw [D.eqb]; exact D.eqs_refl n a (by rw [D.pl] at h; exact h)
  | _, .dct a, h => by rw [D.pl] at h; cases h
theorem D.eqs_refl : ∀ (n : Nat) (a : List D), D.pls n a = true → D.eqs a a = true
  | _, [], _ => by rw [D.eqs]
  | 0, a :: r, h => by rw [D.pls] at h; cases h
  | n + 1, a :: r, h => by
    rw [D.pls, Bool.and_eq_true] at h
    rw [D.eqs, D.eqb_refl n a h.1, D.eqs_refl (n + 1) r h.2]; rfl
end
def big : Nat := 16777216
def sIx (n d : Nat) : Option Int → Nat
  | none => d
  | some v => if v < 0 then (v + (n : Int)).toNat else min v.toNat n
def cut {α : Type} (xs : List α) (lo hi : Option Int) : List α := (xs.drop (sIx xs.length 0 lo)).take (sIx xs.length xs.length hi - sIx xs.length 0 lo)
def ixN (n : Nat) (i : Int) : Option Nat := if 0 ≤ i then (if i < n then some i.toNat else none) else if -(n : Int) ≤ i then some (i + n).toNat else none
def atI {α : Type} (xs : List α) (i : Int) : Option α := (ixN xs.length i).bind fun j => xs[j]?
def small64 (i : Int) : Bool := decide (-(2 ^ 64) < i) && decide (i < 2 ^ 64)
def D.bin : Operator → D → D → Res D
  | .Add, .int i, .int j => .ok (.int (i + j))
  | .Add, .str x, .str y => when (decide (x.length + y.length ≤ big)) (.ok (.str (x ++ y)))
  | .Add, .lst a, .lst b => when (decide (a.length + b.length ≤ big)) (.ok (.lst (a ++ b)))
  | .Add, .tup a, .tup b => when (decide (a.length + b.length ≤ big)) (.ok (.tup (a ++ b)))
  | .Sub, .int i, .int j => .ok (.int (i - j))
  | .Mult, .int i, .int j => when (small64 i || small64 j) (.ok (.int (i * j)))
  | .FloorDiv, .int i, .int j => when (decide (0 < j) && decide (j < 1073741824)) (.ok (.int (i / j)))
  | .Mod, .int i, .int j => when (decide (0 < j)) (.ok (.int (i % j)))
  | .Pow, .int i, .int j => when (decide (0 ≤ j) && decide (j ≤ 1000000) && decide (i.natAbs < 2 ^ 64)) (.ok (.int (i ^ j.toNat)))
  | _, _, _ => .no
def chr1 (c : Nat) : Str := ⟨#[c]⟩
def strCut (x : Str) (lo hi : Option Int) : Str := ⟨(cut x.cps.toList lo hi).toArray⟩
def splitC (c : Nat) : List Nat → List (List Nat)
  | [] => [[]]
  | x :: r => if x = c then [] :: splitC c r else match splitC c r with
    | h :: t => (x :: h) :: t
    | [] => [[x]]
def splitS (x : Str) (c : Nat) : List Str := (splitC c x.cps.toList).map fun l => ⟨l.toArray⟩
def joinC (g : List Nat) : List (List Nat) → List Nat
  | [] => []
  | [a] => a
  | a :: b :: r => a ++ g ++ joinC g (b :: r)
def joinS (g : Str) (xs : List Str) : Str := ⟨(joinC g.cps.toList (xs.map fun x => x.cps.toList)).toArray⟩
def digitsN (cs : List Nat) : Nat := cs.foldl (fun acc c => acc * 10 + (c - 48)) 0
def isDigits (cs : List Nat) : Bool := !cs.isEmpty && cs.all fun c => decide (48 ≤ c) && decide (c ≤ 57)
def strsOf : List D → Res (List Str)
  | [] => .ok []
  | .str x :: r => do let q ← strsOf r; .ok (x :: q)
  | _ :: _ => .no
def blsOf : List D → Res (List Bool)
  | [] => .ok []
  | .bl x :: r => do let q ← blsOf r; .ok (x :: q)
  | _ :: _ => .no
def oneIn (x y : Str) : Res Bool := match x.cps.toList with
  | [c] => .ok (decide (c ∈ y.cps.toList))
  | _ => .no
def keyOf : D → Option (Sum Int Str)
  | .int i => some (.inl i)
  | .str x => some (.inr x)
  | _ => none
def valK (kvs : List (Sum Int Str × D)) (k : Sum Int Str) : Option D := (kvs.find? fun kv => decide (kv.1 = k)).map (·.2)
def putKD (kvs : List (Sum Int Str × D)) (k : Sum Int Str) (v : D) : List (Sum Int Str × D) :=
  if (kvs.any fun kv => decide (kv.1 = k)) = true then kvs.map (fun kv => if kv.1 = k then (kv.1, v) else kv) else kvs ++ [(k, v)]
def Res.of {α : Type} : Option α → Res α
  | some a => .ok a
  | none => .no
def D.isNon : D → Bool
  | .non => true
  | _ => false
def D.eqOk (a b : D) : Bool := D.pl 30 a && D.pl 30 b
def D.mem (x : D) : List D → Bool
  | [] => false
  | y :: r => D.eqb y x || D.mem x r
def D.inn (x : D) : D → Res Bool
  | .lst ds => when (D.pls 30 ds && D.pl 29 x) (.ok (D.mem x ds))
  | .tup ds => when (D.pls 30 ds && D.pl 29 x) (.ok (D.mem x ds))
  | .dct kvs => do let k ← Res.of (keyOf x); .ok (valK kvs k).isSome
  | .str y => match x with
    | .str z => oneIn z y
    | _ => .no
  | _ => .no
def D.cmp : CmpOp → D → D → Res D
  | .Eq, a, b => when (D.eqOk a b) (.ok (.bl (D.eqb a b)))
  | .NotEq, a, b => when (D.eqOk a b) (.ok (.bl (!D.eqb a b)))
  | .Lt, .int i, .int j => .ok (.bl (decide (i < j)))
  | .LtE, .int i, .int j => .ok (.bl (decide (i ≤ j)))
  | .Gt, .int i, .int j => .ok (.bl (decide (j < i)))
  | .GtE, .int i, .int j => .ok (.bl (decide (j ≤ i)))
  | .Is, a, .non => .ok (.bl a.isNon)
  | .IsNot, a, .non => .ok (.bl (!a.isNon))
  | .In, a, b => do let k ← D.inn a b; .ok (.bl k)
  | .NotIn, a, b => do let k ← D.inn a b; .ok (.bl (!k))
  | _, _, _ => .no
def D.truth : D → Res Bool
  | .non => .ok false
  | .bl b => .ok b
  | .int i => .ok (i != 0)
  | .str x => when (decide (x.length ≤ big)) (.ok ((x.length : Int) != 0))
  | .tup a => .ok (!a.isEmpty)
  | .lst a => .ok (!a.isEmpty)
  | .dct a => .ok (!a.isEmpty)
def D.ix : D → D → Res D
  | .lst a, .int i => Res.of (atI a i)
  | .tup a, .int i => Res.of (atI a i)
  | .str x, .int i => when (decide (x.length ≤ big)) (Res.of ((atI x.cps.toList i).map fun c => .str ⟨#[c]⟩))
  | .dct kvs, y => do let k ← Res.of (keyOf y); Res.of (valK kvs k)
  | _, _ => .no
def D.part : D → Res (Option Int)
  | .non => .ok none
  | .int i => .ok (some i)
  | _ => .no
def D.sl : D → Option Int → Option Int → Res D
  | .lst a, lo, hi => .ok (.lst (cut a lo hi))
  | .tup a, lo, hi => .ok (.tup (cut a lo hi))
  | .str x, lo, hi => when (decide (x.length ≤ big)) (.ok (.str (strCut x lo hi)))
  | _, _, _ => .no
def D.items : D → Res (List D)
  | .lst a => .ok a
  | .tup a => .ok a
  | .str x => .ok (x.cps.toList.map fun c => .str (chr1 c))
  | _ => .no
def intsOf : List D → Res (List Int)
  | [] => .ok []
  | .int i :: r => do let q ← intsOf r; .ok (i :: q)
  | _ :: _ => .no
def rangeD (lo : Int) : Nat → List D
  | 0 => []
  | n + 1 => .int lo :: rangeD (lo + 1) n
def enumD (k : Int) : List D → List D
  | [] => []
  | d :: r => .tup [.int k, d] :: enumD (k + 1) r
def zipD : List D → List D → List D
  | a :: r, b :: q => .tup [a, b] :: zipD r q
  | _, _ => []
def small62 (i : Int) : Bool := decide (-(2 ^ 62) ≤ i) && decide (i < 2 ^ 62)
inductive Ty where
  | int | bool | str | tuple | list
  deriving DecidableEq, Inhabited
def D.isDct : D → Bool
  | .dct _ => true
  | _ => false
def D.isTy : D → Ty → Bool
  | .int _, .int => true
  | .bl _, .int => true
  | .bl _, .bool => true
  | .str _, .str => true
  | .tup _, .tuple => true
  | .lst _, .list => true
  | _, _ => false
inductive Bt where
  | len | sum | tuple | list | int | str | bool | abs | min | max | all | any
  deriving DecidableEq, Inhabited
def D.len : D → Res D
  | .lst a => .ok (.int a.length)
  | .tup a => .ok (.int a.length)
  | .str x => when (decide (x.length ≤ big)) (.ok (.int x.length))
  | .dct a => .ok (.int a.length)
  | _ => .no
def D.sum : D → Res D
  | .lst a => do let ns ← intsOf a; .ok (.int ns.sum)
  | _ => .no
def D.tuple : D → Res D
  | .lst a => .ok (.tup a)
  | .tup a => .ok (.tup a)
  | _ => .no
def D.list : D → Res D
  | .lst a => .ok (.lst a)
  | .tup a => .ok (.lst a)
  | _ => .no
def D.toInt : D → Res D
  | .int i => .ok (.int i)
  | .bl b => .ok (.int (b2z b))
  | .str x => when (isDigits x.cps.toList && decide (x.length ≤ 640)) (.ok (.int (digitsN x.cps.toList)))
  | _ => .no
def D.toStr : D → Res D
  | .int i => when (decide (i.natAbs.log2 < 1920)) (.ok (.str (Str.ofString (toString i))))
  | _ => .no
def D.toBool : D → Res D
  | .int i => .ok (.bl (i != 0))
  | .bl b => .ok (.bl b)
  | _ => .no
def D.abs : D → Res D
  | .int i => .ok (.int (if i < 0 then -i else i))
  | _ => .no
def D.all : D → Res D
  | .lst a => do let q ← blsOf a; .ok (.bl (q.all id))
  | _ => .no
def D.any : D → Res D
  | .lst a => do let q ← blsOf a; .ok (.bl (q.any id))
  | _ => .no
def maxI : Int → List Int → Int
  | m, [] => m
  | m, n :: r => maxI (if n > m then n else m) r
def minI : Int → List Int → Int
  | m, [] => m
  | m, n :: r => minI (if n < m then n else m) r
def D.maxL : D → Res D
  | .lst a => do
    match ← intsOf a with
    | n :: ns => .ok (.int (maxI n ns))
    | [] => .no
  | _ => .no
def D.minL : D → Res D
  | .lst a => do
    match ← intsOf a with
    | n :: ns => .ok (.int (minI n ns))
    | [] => .no
  | _ => .no
def D.maxD : D → D → Res D
  | .lst a, .int d => do
    match ← intsOf a with
    | n :: ns => .ok (.int (maxI n ns))
    | [] => .ok (.int d)
  | _, _ => .no
def D.min2 : D → D → Res D
  | .int i, .int j => .ok (.int (if j < i then j else i))
  | _, _ => .no
def D.max2 : D → D → Res D
  | .int i, .int j => .ok (.int (if j > i then j else i))
  | _, _ => .no
def Bt.one : Bt → D → Res D
  | .len => D.len
  | .sum => D.sum
  | .tuple => D.tuple
  | .list => D.list
  | .int => D.toInt
  | .str => D.toStr
  | .bool => D.toBool
  | .abs => D.abs
  | .all => D.all
  | .any => D.any
  | .min => D.minL
  | .max => D.maxL
def Bt.two : Bt → D → D → Res D
  | .min => D.min2
  | .max => D.max2
  | _ => fun _ _ => .no
def Bt.run (b : Bt) : List D → Res D
  | [d] => b.one d
  | [d, d'] => b.two d d'
  | _ => .no
def D.aug : Operator → D → D → Res D
  | .Add, .int i, .int j => .ok (.int (i + j))
  | .Sub, .int i, .int j => .ok (.int (i - j))
  | _, _, _ => .no
def zipR : D → D → Res (List D)
  | .lst a, .lst b => .ok (zipD a b)
  | _, _ => .no
def lrngR : D → Res D
  | .int n => when (small62 n && decide (n ≤ (big : Nat))) (.ok (.lst (rangeD 0 n.toNat)))
  | _ => .no
inductive Mt where
  | split | join
  deriving DecidableEq, Inhabited
def Mt.run : Mt → D → D → Res D
  | .split, .str x, .str y => match y.cps.toList with
    | [c] => when (decide (x.length < big) && decide (c < 256)) (.ok (.lst ((splitS x c).map D.str)))
    | _ => .no
  | .join, .str g, .lst ds => do
    let xs ← strsOf ds
    when (decide (g.length ≤ 64) && decide ((xs.map (·.length)).sum + xs.length * 64 ≤ big)) (.ok (.str (joinS g xs)))
  | _, _, _ => .no
def tabAt (fs : List Nat) : D → Res Nat
  | .int i => Res.of (atI fs i)
  | _ => .no
def idxS (ss : List Str) : D → Res D
  | .str z => when (ss.contains z) (.ok (.int (ss.idxOf z : Nat)))
  | _ => .no
def keysD : List D → Res (List (Sum Int Str))
  | [] => .ok []
  | d :: r => do let k ← Res.of (keyOf d); let q ← keysD r; .ok (k :: q)
def D.keys : D → Res (List (Sum Int Str))
  | .lst ds => keysD ds
  | .str x => .ok (x.cps.toList.map fun c => .inr ⟨#[c]⟩)
  | _ => .no
def metD (ks : List (Sum Int Str)) : List (Sum Int Str) := ks.foldl (fun acc k => if acc.any (fun x => decide (x = k)) then acc else acc ++ [k]) []
inductive G where
  | one (i : Nat) | many (is : List Nat)
  deriving Inhabited
inductive E where
  | var (i : Nat) | rd (i : Nat) | con (d : D) | glob (g : Nat)
  | bin (o : Operator) (a b : E) | cmp (o : CmpOp) (a b : E) | chain (o p : CmpOp) (a b c : E)
  | and (a b : E) | or (a b : E) | not (a : E) | neg (a : E) | ife (c a b : E)
  | ix (a b : E) | sl (a lo hi : E) | omit
  | tup (a : E) | lst (a : E) | anil | acons (a r : E)
  | call (f : Nat) (a : E) | callB (f : Nat) (a : E) | bt (b : Bt) (a : E) | isi (a : E) (t : Ty)
  | comp (own : Nat) (caps : List Nat) (g : G) (elt src cond : E)
  | seq (a : E) | rng (a : E) | rng2 (a b : E) | enum (a : E)
  | dnew | mth (m : Mt) (a b : E)
  | callT (fs : List Nat) (k a : E) | gidx (ss : List Str) (a : E) | lset (a : E)
  | lrng (a : E) | zip (a b : E) | maxd (a b : E)
  deriving Inhabited
inductive S where
  | nil | cons (a r : S)
  | pass | ret (e : E) | retO (i : Nat) | retN
  | asg (g : G) (e : E) | asgO (i : Nat) (e : E) | sealed (i : Nat)
  | ite (c : E) (a b : S) | forS (g : G) (src : E) (b : S) | whl (n : Nat) (c : E) (b : S)
  | app (i : Nat) (e : E) | rev (i : Nat) | brk | cnt
  | dput (i : Nat) (k v : E) | ext (i : Nat) (e : E)
  | never | asgP (g : G) (i : Nat) (k : E) | appP (j i : Nat) (k : E)
  | aug (i : Nat) (o : Operator) (e : E) | lput (i : Nat) (k e : E)
  deriving Inhabited
inductive Sl where
  | no | v (d : D) | o (d : D)
  deriving Inhabited
abbrev Nv := List Sl
def Nv.at (e : Nv) (i : Nat) : Sl := (e[i]?).getD .no
def Sl.val : Sl → Res D
  | .v d => .ok d
  | _ => .no
def Sl.any : Sl → Res D
  | .v d => .ok d
  | .o d => .ok d
  | _ => .no
def Sl.own : Sl → Res (List D)
  | .o (.lst a) => .ok a
  | _ => .no
def Sl.ownD : Sl → Res (List (Sum Int Str × D))
  | .o (.dct a) => .ok a
  | _ => .no
def Sl.ownA : Sl → Res D
  | .o d => .ok d
  | _ => .no
def puts : List Nat → List D → Nv → Res Nv
  | [], [], e => .ok e
  | i :: r, d :: q, e => puts r q (e.set i (.v d))
  | _, _, _ => .no
def G.put : G → D → Nv → Res Nv
  | .one i, d, e => .ok (e.set i (.v d))
  | .many is, .tup ds, e => puts is ds e
  | _, _, _ => .no
def compEnv (own : Nat) (caps : List Nat) (e : Nv) : Nv := List.replicate own Sl.no ++ caps.map fun i => e.at i
structure Tab where
  glob : Nat → D
  fresh : Nat → Bool
section
variable (T : Tab) (cf : Nat → List D → Res D)
def compL (f : D → Res (Option D)) : List D → Res (List D)
  | [] => .ok []
  | d :: r => do
    let x ← f d
    let q ← compL f r
    match x with
    | some y => .ok (y :: q)
    | none => .ok q
mutual
def evE : E → Nv → Res D
  | .var i, e => (e.at i).val
  | .rd i, e => (e.at i).any
  | .con d, _ => .ok d
  | .glob g, _ => .ok (T.glob g)
  | .bin o a b, e => do let x ← evE a e; let y ← evE b e; D.bin o x y
  | .cmp o a b, e => do let x ← evE a e; let y ← evE b e; D.cmp o x y
  | .chain o p a b c, e => do
    let x ← evE a e
    let y ← evE b e
    match ← D.cmp o x y with
    | .bl true => do let z ← evE c e; D.cmp p y z
    | .bl false => .ok (.bl false)
    | _ => .no
  | .and a b, e => do let x ← evE a e; let k ← x.truth; if k then evE b e else .ok x
  | .or a b, e => do let x ← evE a e; let k ← x.truth; if k then .ok x else evE b e
  | .not a, e => do let x ← evE a e; let k ← x.truth; .ok (.bl (!k))
  | .neg a, e => do
    match ← evE a e with
    | .int i => .ok (.int (-i))
    | _ => .no
  | .ife c a b, e => do let x ← evE c e; let k ← x.truth; if k then evE a e else evE b e
  | .ix a b, e => do let x ← evE a e; let y ← evE b e; D.ix x y
  | .sl a lo hi, e => do let x ← evE a e; let l ← evE lo e; let l ← l.part; let h ← evE hi e; let h ← h.part; D.sl x l h
  | .omit, _ => .ok .non
  | .tup a, e => do let xs ← evA a e; .ok (.tup xs)
  | .lst a, e => do let xs ← evA a e; .ok (.lst xs)
  | .call f a, e => do let xs ← evA a e; cf f xs
  | .callB f a, e => do let xs ← evA a e; let d ← cf f xs; when d.flat (.ok d)
  | .bt b a, e => do let xs ← evA a e; b.run xs
  | .isi a t, e => do let x ← evE a e; when (!x.isDct) (.ok (.bl (x.isTy t)))
  | .dnew, _ => .ok (.dct [])
  | .mth m a b, e => do let x ← evE a e; let y ← evE b e; m.run x y
  | .callT fs k a, e => do let x ← evE k e; let f ← tabAt fs x; let xs ← evA a e; cf f xs
  | .gidx ss a, e => do let x ← evE a e; idxS ss x
  | .lset a, e => do let x ← evE a e; let ks ← x.keys; when (decide (ks.length + 1 < 4096)) (.ok (.int (metD ks).length))
  | .lrng a, e => do let x ← evE a e; lrngR x
  | .maxd a b, e => do let x ← evE a e; let y ← evE b e; D.maxD x y
  | .comp own caps g elt src cond, e => do
    let ds ← evI src e
    let ys ← compL (fun d => do
      let e1 ← g.put d (compEnv own caps e)
      let c ← evE cond e1
      let k ← c.truth
      if k then do let y ← evE elt e1; .ok (some y) else .ok none) ds
    when (decide (ds.length ≤ big)) (.ok (.lst ys))
  | _, _ => .no
def evA : E → Nv → Res (List D)
  | .anil, _ => .ok []
  | .acons a r, e => do let x ← evE a e; let q ← evA r e; when (decide (q.length < 1000)) (.ok (x :: q))
  | _, _ => .no
def evI : E → Nv → Res (List D)
  | .seq a, e => do let x ← evE a e; x.items
  | .rng a, e => do
    match ← evE a e with
    | .int n => when (small62 n) (.ok (rangeD 0 n.toNat))
    | _ => .no
  | .rng2 a b, e => do
    match ← evE a e with
    | .int n => do
      match ← evE b e with
      | .int m => when (small62 n && small62 m) (.ok (rangeD n (m - n).toNat))
      | _ => .no
    | _ => .no
  | .enum a, e => do
    match ← evE a e with
    | .lst ds => .ok (enumD 0 ds)
    | .tup ds => .ok (enumD 0 ds)
    | _ => .no
  | .zip a b, e => do let x ← evE a e; let y ← evE b e; zipR x y
  | _, _ => .no
end
def popIx (n : Nat) : D → Res Nat
  | .int v => when (small62 v) (Res.of (ixN n v))
  | _ => .no
def popAt (n : Nat) : E → D → Res Nat
  | .omit, _ => if n = 0 then .no else .ok (n - 1)
  | _, d => popIx n d
inductive Out where
  | nx (e : Nv) | rt (d : D) (fresh : Bool) | bk (e : Nv) | ct (e : Nv)
  deriving Inhabited
def freshE : E → Bool
  | .lst _ => true
  | .sl _ _ _ => true
  | .bin .Add _ _ => true
  | .comp _ _ _ _ _ _ => true
  | .bt .list _ => true
  | .dnew => true
  | .lrng _ => true
  | .mth .split _ _ => true
  | .call f _ => T.fresh f
  | _ => false
def forL (f : D → Nv → Res Out) : List D → Nv → Res Out
  | [], e => .ok (.nx e)
  | d :: r, e => do
    match ← f d e with
    | .nx e1 => forL f r e1
    | .ct e1 => forL f r e1
    | .bk e1 => .ok (.nx e1)
    | .rt x k => .ok (.rt x k)
def whileL (c : Nv → Res Bool) (f : Nv → Res Out) : Nat → Nv → Res Out
  | 0, _ => .no
  | n + 1, e => do
    if ← c e then
      match ← f e with
      | .nx e1 => whileL c f n e1
      | .ct e1 => whileL c f n e1
      | .bk e1 => .ok (.nx e1)
      | .rt x k => .ok (.rt x k)
    else .ok (.nx e)
def exS : S → Nv → Res Out
  | .nil, e => .ok (.nx e)
  | .cons a r, e => do
    match ← exS a e with
    | .nx e1 => exS r e1
    | o => .ok o
  | .pass, e => .ok (.nx e)
  | .ret x, e => do let d ← evE T cf x e; .ok (.rt d (freshE T x))
  | .retO i, e => do let a ← (e.at i).ownA; .ok (.rt a true)
  | .retN, _ => .ok (.rt .non false)
  | .asg g x, e => do let d ← evE T cf x e; let e1 ← g.put d e; .ok (.nx e1)
  | .asgO i x, e => do
    match ← evE T cf x e with
    | .lst a => when (freshE T x) (.ok (.nx (e.set i (.o (.lst a)))))
    | .dct a => when (freshE T x) (.ok (.nx (e.set i (.o (.dct a)))))
    | _ => .no
  | .sealed i, e => do let a ← (e.at i).ownA; .ok (.nx (e.set i (.v a)))
  | .ite c a b, e => do let x ← evE T cf c e; let k ← x.truth; if k then exS a e else exS b e
  | .forS g src b, e => do
    let ds ← evI T cf src e
    forL (fun d e0 => do let e1 ← g.put d e0; exS b e1) ds e
  | .whl n c b, e => whileL (fun e0 => do let x ← evE T cf c e0; x.truth) (fun e0 => exS b e0) n e
  | .app i x, e => do
    let d ← evE T cf x e
    let a ← (e.at i).own
    when (decide (a.length < big)) (.ok (.nx (e.set i (.o (.lst (a ++ [d]))))))
  | .rev i, e => do
    let a ← (e.at i).own
    .ok (.nx (e.set i (.o (.lst a.reverse))))
  | .dput i k x, e => do
    let d ← evE T cf x e
    let a ← (e.at i).ownD
    let y ← evE T cf k e
    let key ← Res.of (keyOf y)
    when (decide (a.length < big)) (.ok (.nx (e.set i (.o (.dct (putKD a key d))))))
  | .ext i x, e => do
    match ← evE T cf x e with
    | .lst b => do
      let a ← (e.at i).own
      when (freshE T x && decide (a.length + b.length ≤ big)) (.ok (.nx (e.set i (.o (.lst (a ++ b))))))
    | _ => .no
  | .never, _ => .no
  | .asgP g i k, e => do
    let a ← (e.at i).own
    let d ← evE T cf k e
    let j ← popAt a.length k d
    let y ← Res.of a[j]?
    let e1 ← g.put y (e.set i (.o (.lst (a.eraseIdx j))))
    .ok (.nx e1)
  | .appP i' i k, e => do
    let b ← (e.at i').own
    let a ← (e.at i).own
    let d ← evE T cf k e
    let j ← popAt a.length k d
    let y ← Res.of a[j]?
    when (decide (i ≠ i') && decide (b.length < big)) (.ok (.nx ((e.set i (.o (.lst (a.eraseIdx j)))).set i' (.o (.lst (b ++ [y]))))))
  | .aug i o x, e => do
    let d ← (e.at i).val
    let y ← evE T cf x e
    let z ← D.aug o d y
    .ok (.nx (e.set i (.v z)))
  | .lput i k x, e => do
    let d ← evE T cf x e
    let a ← (e.at i).own
    let y ← evE T cf k e
    let j ← popIx a.length y
    .ok (.nx (e.set i (.o (.lst (a.set j d)))))
  | .brk, e => .ok (.bk e)
  | .cnt, e => .ok (.ct e)
end
structure Df where
  names : Nat
  pars : Nat
  body : S
  deriving Inhabited
def callF (T : Tab) (defs : List Df) : Nat → Nat → List D → Res D
  | 0, _, _ => .no
  | n + 1, f, ds =>
    match defs[f]? with
    | none => .no
    | some d =>
      when (ds.length == d.pars) (do
        match ← exS T (callF T defs n) d.body (ds.map Sl.v ++ List.replicate (d.names - d.pars) Sl.no) with
        | .rt x k => when (k || !T.fresh f) (.ok x)
        | .nx _ => when (!T.fresh f) (.ok .non)
        | _ => .no)
end Tr
namespace Tr
open PySem
section
variable {T : Tab} {cf : Nat → List D → Res D} {e : Nv}
theorem xE_var {i : Nat} : evE T cf (.var i) e = ((e.at i).val) := rfl
theorem xE_rd {i : Nat} : evE T cf (.rd i) e = ((e.at i).any) := rfl
theorem xE_con {d : D} : evE T cf (.con d) e = (.ok d) := rfl
theorem xE_glob {g : Nat} : evE T cf (.glob g) e = (.ok (T.glob g)) := rfl
theorem xE_bin {o : Operator} {a : E} {b : E} : evE T cf (.bin o a b) e = (do let x ← evE T cf a e; let y ← evE T cf b e; D.bin o x y) := rfl
theorem xE_cmp {o : CmpOp} {a : E} {b : E} : evE T cf (.cmp o a b) e = (do let x ← evE T cf a e; let y ← evE T cf b e; D.cmp o x y) := rfl
theorem xE_chain {o : CmpOp} {p : CmpOp} {a : E} {b : E} {c : E} : evE T cf (.chain o p a b c) e = (do
    let x ← evE T cf a e
    let y ← evE T cf b e
    match ← D.cmp o x y with
    | .bl true => do let z ← evE T cf c e; D.cmp p y z
    | .bl false => .ok (.bl false)
    | _ => .no) := rfl
theorem xE_and {a : E} {b : E} : evE T cf (.and a b) e = (do let x ← evE T cf a e; let k ← x.truth; if k then evE T cf b e else .ok x) := rfl
theorem xE_or {a : E} {b : E} : evE T cf (.or a b) e = (do let x ← evE T cf a e; let k ← x.truth; if k then .ok x else evE T cf b e) := rfl
theorem xE_not {a : E} : evE T cf (.not a) e = (do let x ← evE T cf a e; let k ← x.truth; .ok (.bl (!k))) := rfl
theorem xE_neg {a : E} : evE T cf (.neg a) e = (do
    match ← evE T cf a e with
    | .int i => .ok (.int (-i))
    | _ => .no) := rfl
theorem xE_ife {c : E} {a : E} {b : E} : evE T cf (.ife c a b) e = (do let x ← evE T cf c e; let k ← x.truth; if k then evE T cf a e else evE T cf b e) := rfl
theorem xE_ix {a : E} {b : E} : evE T cf (.ix a b) e = (do let x ← evE T cf a e; let y ← evE T cf b e; D.ix x y) := rfl
theorem xE_sl {a : E} {lo : E} {hi : E} : evE T cf (.sl a lo hi) e = (do let x ← evE T cf a e; let l ← evE T cf lo e; let l ← l.part; let h ← evE T cf hi e; let h ← h.part; D.sl x l h) := rfl
theorem xE_omit  : evE T cf (.«omit») e = (.ok .non) := rfl
theorem xE_tup {a : E} : evE T cf (.tup a) e = (do let xs ← evA T cf a e; .ok (.tup xs)) := rfl
theorem xE_lst {a : E} : evE T cf (.lst a) e = (do let xs ← evA T cf a e; .ok (.lst xs)) := rfl
theorem xE_call {f : Nat} {a : E} : evE T cf (.call f a) e = (do let xs ← evA T cf a e; cf f xs) := rfl
theorem xE_callB {f : Nat} {a : E} : evE T cf (.callB f a) e = (do let xs ← evA T cf a e; let d ← cf f xs; when d.flat (.ok d)) := rfl
theorem xE_bt {b : Bt} {a : E} : evE T cf (.bt b a) e = (do let xs ← evA T cf a e; b.run xs) := rfl
theorem xE_isi {a : E} {t : Ty} : evE T cf (.isi a t) e = (do let x ← evE T cf a e; when (!x.isDct) (.ok (.bl (x.isTy t)))) := rfl
theorem xE_dnew  : evE T cf (.dnew) e = (.ok (.dct [])) := rfl
theorem xE_mth {m : Mt} {a : E} {b : E} : evE T cf (.mth m a b) e = (do let x ← evE T cf a e; let y ← evE T cf b e; m.run x y) := rfl
theorem xE_callT {fs : List Nat} {k : E} {a : E} : evE T cf (.callT fs k a) e = (do let x ← evE T cf k e; let f ← tabAt fs x; let xs ← evA T cf a e; cf f xs) := rfl
theorem xE_gidx {ss : List Str} {a : E} : evE T cf (.gidx ss a) e = (do let x ← evE T cf a e; idxS ss x) := rfl
theorem xE_lset {a : E} : evE T cf (.lset a) e = (do let x ← evE T cf a e; let ks ← x.keys; when (decide (ks.length + 1 < 4096)) (.ok (.int (metD ks).length))) := rfl
theorem xE_maxd {a : E} {b : E} : evE T cf (.maxd a b) e = (do let x ← evE T cf a e; let y ← evE T cf b e; D.maxD x y) := rfl
theorem xE_lrng {a : E} : evE T cf (.lrng a) e = (do let x ← evE T cf a e; lrngR x) := rfl
theorem xE_comp {own : Nat} {caps : List Nat} {g : G} {elt : E} {src : E} {cond : E} : evE T cf (.comp own caps g elt src cond) e = (do
    let ds ← evI T cf src e
    let ys ← compL (fun d => do
      let e1 ← g.put d (compEnv own caps e)
      let c ← evE T cf cond e1
      let k ← c.truth
      if k then do let y ← evE T cf elt e1; .ok (some y) else .ok none) ds
    when (decide (ds.length ≤ big)) (.ok (.lst ys))) := rfl
theorem xA_anil  : evA T cf (.anil) e = (.ok []) := rfl
theorem xA_acons {a : E} {r : E} : evA T cf (.acons a r) e = (do let x ← evE T cf a e; let q ← evA T cf r e; when (decide (q.length < 1000)) (.ok (x :: q))) := rfl
theorem xI_seq {a : E} : evI T cf (.seq a) e = (do let x ← evE T cf a e; x.items) := rfl
theorem xI_rng {a : E} : evI T cf (.rng a) e = (do
    match ← evE T cf a e with
    | .int n => when (small62 n) (.ok (rangeD 0 n.toNat))
    | _ => .no) := rfl
theorem xI_rng2 {a : E} {b : E} : evI T cf (.rng2 a b) e = (do
    match ← evE T cf a e with
    | .int n => do
      match ← evE T cf b e with
      | .int m => when (small62 n && small62 m) (.ok (rangeD n (m - n).toNat))
      | _ => .no
    | _ => .no) := rfl
theorem xI_enum {a : E} : evI T cf (.enum a) e = (do
    match ← evE T cf a e with
    | .lst ds => .ok (enumD 0 ds)
    | .tup ds => .ok (enumD 0 ds)
    | _ => .no) := rfl
theorem xI_zip {a : E} {b : E} : evI T cf (.zip a b) e = (do let x ← evE T cf a e; let y ← evE T cf b e; zipR x y) := rfl
theorem xS_nil  : exS T cf (.nil) e = (.ok (.nx e)) := rfl
theorem xS_cons {a : S} {r : S} : exS T cf (.cons a r) e = (do
    match ← exS T cf a e with
    | .nx e1 => exS T cf r e1
    | o => .ok o) := rfl
theorem xS_pass  : exS T cf (.pass) e = (.ok (.nx e)) := rfl
theorem xS_ret {x : E} : exS T cf (.ret x) e = (do let d ← evE T cf x e; .ok (.rt d (freshE T x))) := rfl
theorem xS_retO {i : Nat} : exS T cf (.retO i) e = (do let a ← (e.at i).ownA; .ok (.rt a true)) := rfl
theorem xS_retN  : exS T cf (.retN) e = (.ok (.rt .non false)) := rfl
theorem xS_asg {g : G} {x : E} : exS T cf (.asg g x) e = (do let d ← evE T cf x e; let e1 ← g.put d e; .ok (.nx e1)) := rfl
theorem xS_asgO {i : Nat} {x : E} : exS T cf (.asgO i x) e = (do
    match ← evE T cf x e with
    | .lst a => when (freshE T x) (.ok (.nx (e.set i (.o (.lst a)))))
    | .dct a => when (freshE T x) (.ok (.nx (e.set i (.o (.dct a)))))
    | _ => .no) := rfl
theorem xS_sealed {i : Nat} : exS T cf (.«sealed» i) e = (do let a ← (e.at i).ownA; .ok (.nx (e.set i (.v a)))) := rfl
theorem xS_ite {c : E} {a : S} {b : S} : exS T cf (.ite c a b) e = (do let x ← evE T cf c e; let k ← x.truth; if k then exS T cf a e else exS T cf b e) := rfl
theorem xS_forS {g : G} {src : E} {b : S} : exS T cf (.forS g src b) e = (do
    let ds ← evI T cf src e
    forL (fun d e0 => do let e1 ← g.put d e0; exS T cf b e1) ds e) := rfl
theorem xS_whl {n : Nat} {c : E} {b : S} : exS T cf (.whl n c b) e = (whileL (fun e0 => do let x ← evE T cf c e0; x.truth) (fun e0 => exS T cf b e0) n e) := rfl
theorem xS_app {i : Nat} {x : E} : exS T cf (.app i x) e = (do
    let d ← evE T cf x e
    let a ← (e.at i).own
    when (decide (a.length < big)) (.ok (.nx (e.set i (.o (.lst (a ++ [d]))))))) := rfl
theorem xS_rev {i : Nat} : exS T cf (.rev i) e = (do
    let a ← (e.at i).own
    .ok (.nx (e.set i (.o (.lst a.reverse))))) := rfl
theorem xS_dput {i : Nat} {k : E} {x : E} : exS T cf (.dput i k x) e = (do
    let d ← evE T cf x e
    let a ← (e.at i).ownD
    let y ← evE T cf k e
    let key ← Res.of (keyOf y)
    when (decide (a.length < big)) (.ok (.nx (e.set i (.o (.dct (putKD a key d))))))) := rfl
theorem xS_ext {i : Nat} {x : E} : exS T cf (.ext i x) e = (do
    match ← evE T cf x e with
    | .lst b => do
      let a ← (e.at i).own
      when (freshE T x && decide (a.length + b.length ≤ big)) (.ok (.nx (e.set i (.o (.lst (a ++ b))))))
    | _ => .no) := rfl
theorem xS_never  : exS T cf (.never) e = (.no) := rfl
theorem xS_asgP {g : G} {i : Nat} {k : E} : exS T cf (.asgP g i k) e = (do
    let a ← (e.at i).own
    let d ← evE T cf k e
    let j ← popAt a.length k d
    let y ← Res.of a[j]?
    let e1 ← g.put y (e.set i (.o (.lst (a.eraseIdx j))))
    .ok (.nx e1)) := rfl
theorem xS_appP {i' : Nat} {i : Nat} {k : E} : exS T cf (.appP i' i k) e = (do
    let b ← (e.at i').own
    let a ← (e.at i).own
    let d ← evE T cf k e
    let j ← popAt a.length k d
    let y ← Res.of a[j]?
    when (decide (i ≠ i') && decide (b.length < big)) (.ok (.nx ((e.set i (.o (.lst (a.eraseIdx j)))).set i' (.o (.lst (b ++ [y]))))))) := rfl
theorem xS_aug {i : Nat} {o : Operator} {x : E} : exS T cf (.aug i o x) e = (do
    let d ← (e.at i).val
    let y ← evE T cf x e
    let z ← D.aug o d y
    .ok (.nx (e.set i (.v z)))) := rfl
theorem xS_lput {i : Nat} {k : E} {x : E} : exS T cf (.lput i k x) e = (do
    let d ← evE T cf x e
    let a ← (e.at i).own
    let y ← evE T cf k e
    let j ← popIx a.length y
    .ok (.nx (e.set i (.o (.lst (a.set j d)))))) := rfl
theorem xS_brk  : exS T cf (.brk) e = (.ok (.bk e)) := rfl
theorem xS_cnt  : exS T cf (.cnt) e = (.ok (.ct e)) := rfl
end
end Tr
namespace Tr
open PySem PySem.Spec PyProof.Rows L2 Builtin.Str
theorem str_ext {x y : Str} (h : x.cps.toList = y.cps.toList) : x = y := by
  cases x; cases y
  simp only [Str.mk.injEq]
  exact Array.toList_inj.mp h
theorem filterMap_range {α : Type} (xs : List α) (a b : Nat) (hb : b ≤ xs.length) : ((List.range (b - a)).map fun k => a + k).filterMap (xs[·]?) = (xs.drop a).take (b - a) := by
  generalize hn : b - a = n
  induction n generalizing a with
  | zero => simp
  | succ n ih =>
    have ha : a < xs.length := by omega
    rw [List.range_succ_eq_map, List.map_cons, List.filterMap_cons, List.map_map, List.drop_eq_getElem_cons ha, List.take_succ_cons]
    simp only [Nat.add_zero, List.getElem?_eq_getElem ha]
    congr 1
    rw [← ih (a + 1) (by omega)]
    congr 1
    apply List.map_congr_left
    intro k _
    simp only [Function.comp]
    omega
theorem sliceRange_nat {a b : Int} {p q : Nat} (ha : a = p) (hb : b = q) : sliceRange a b 1 = (List.range (q - p)).map fun k => p + k := by
  subst ha hb
  unfold sliceRange
  simp only [show (1 : Int) > 0 by decide, if_true]
  have hc : (if (p : Int) < (q : Int) then ((q : Int) - (p : Int) + 1 - 1) / 1 else 0).toNat = q - p := by
    rw [Int.ediv_one]
    split <;> omega
  rw [hc]
  apply List.map_congr_left
  intro k _
  omega
theorem slice_indices (n : Nat) (lo hi : Option Int) : strSliceIndices lo hi 1 n = (List.range (sIx n n hi - sIx n 0 lo)).map fun k => sIx n 0 lo + k := by
  unfold strSliceIndices
  refine sliceRange_nat ?_ ?_
  · cases lo with
    | none => rfl
    | some v =>
      simp only [show (1 : Int) > 0 by decide, if_true, sIx]
      split <;> omega
  · cases hi with
    | none => rfl
    | some v =>
      simp only [show (1 : Int) > 0 by decide, if_true, sIx]
      split <;> omega
theorem sIx_le' (n d : Nat) (hd : d ≤ n) (o : Option Int) : sIx n d o ≤ n := by
  cases o with
  | none => exact hd
  | some v =>
    simp only [sIx]
    split <;> omega
theorem slice_cut (x : Str) (lo hi : Option Int) : Txt.slice x lo hi = strCut x lo hi := by
  have hl : x.cps.toList.length = x.length := by simp [Str.length]
  unfold Txt.slice
  rw [slice_indices]
  have e : (List.filterMap (x.cps[·]?) ((List.range (sIx x.length x.length hi - sIx x.length 0 lo)).map fun k => sIx x.length 0 lo + k)) = cut x.cps.toList lo hi := by
    have := filterMap_range x.cps.toList (sIx x.length 0 lo) (sIx x.length x.length hi) (by rw [hl]; exact sIx_le' _ _ (Nat.le_refl _) _)
    unfold cut
    rw [hl, ← this]
    congr 1
    funext k
    simp
  split
  · rename_i c
    simp only [beq_self_eq_true, Bool.true_and, List.length_map, List.length_range, beq_iff_eq] at c
    refine str_ext ?_
    show _ = (cut x.cps.toList lo hi).toArray.toList
    have h1 := sIx_le' x.length x.length (Nat.le_refl _) hi
    unfold cut
    by_cases hz : x.length = 0
    · have : x.cps.toList = [] := List.eq_nil_of_length_eq_zero (by omega)
      rw [this]; simp
    · have h0 : sIx x.length 0 lo = 0 := by omega
      have h2 : sIx x.length x.length hi = x.length := by omega
      rw [hl, h0, h2, List.drop_zero, Nat.sub_zero, ← hl, List.take_of_length_le (Nat.le_refl _)]
  · rw [e]; rfl
theorem oneIn_ok {x y : Str} {b : Bool} (h : oneIn x y = .ok b) : (!(occurrences y x 0 y.length 1).isEmpty) = b := by
  unfold oneIn at h
  split at h
  · rename_i c hc
    cases h
    have ex : x = ⟨#[c]⟩ := str_ext (by rw [hc])
    rw [ex]
    exact StrLaws.found_one y c
  · cases h
end Tr
namespace Tr
open PySem PySem.Spec PyProof.Rows L2 Builtin.Str
section
variable {X : Cx}
theorem isPart_str {v : Value} {o : Option Int} (h : IsPart v o) : ∃ p : Option (Int × Tok), v = partValue p ∧ p.map (·.1) = o := by
  cases h with
  | none => exact ⟨none, rfl, rfl⟩
  | int i t => exact ⟨some (i, t), rfl, rfl⟩
theorem sl_str : SlR X (fun x lo hi H Q => ∃ z, x = .str z ∧ z.length ≤ sizeLine ∧ Q (.str (strCut z lo hi)) H) := by
  intro pins s σ H x v vl vu lo hi sl Q I rx hs pl pu h
  obtain ⟨z, rfl, hz, q⟩ := h
  obtain ⟨t, rfl⟩ := rx
  obtain ⟨p, rfl, rfl⟩ := isPart_str pl
  obtain ⟨p', rfl, rfl⟩ := isPart_str pu
  refine ⟨"str", _, PySem.F.slot_str_getitem.lookup, typeIs_str _ _ _, wpAny_getItem_str_slice (l := p) (u := p') (st := none) hs rfl ?_⟩
  refine post_val_or_str ⟨Nat.le_trans (Txt.slice_le z _ _) hz, fun t' k => ?_⟩
  refine ⟨.str _, H, I.tok k, ⟨t', ?_⟩, q⟩
  rw [← slice_cut]
  rfl
theorem call_int_text : CallR X (.type "int") (fun xs H Q => ∃ z, xs = [.str z] ∧ isDigits z.cps.toList = true ∧ z.length ≤ 640 ∧ Q (.int (digitsN z.cps.toList)) H) := by
  intro pins s σ H xs us Q I r h
  obtain ⟨z, rfl, hd, hl, q⟩ := h
  obtain ⟨u, rfl, rx⟩ := vals1 r
  obtain ⟨t, rfl⟩ := rx
  unfold isDigits at hd
  rw [Bool.and_eq_true, List.all_eq_true] at hd
  have had : PySem.NumText.AllDigits z.cps.toList := fun c hc => by
    have := hd.2 c hc
    simpa using this
  have hne : z.cps.toList ≠ [] := by
    have := hd.1
    intro e
    rw [e] at this
    cases this
  have hn := PySem.intText_digits had hne (by omega)
  exact PySem.W.KIN.call_text (n := ((digitsN z.cps.toList : Nat) : Int)) hn hl ⟨.int _, H, I.tok _, ⟨_, rfl⟩, q⟩
theorem bools_walk {pins : List (Addr × Obj)} {s : Shared} {σ : L2.St} {H : Hp} {a : Addr} {bs : List Bool} {its : List Value} (I : Inv X pins σ H s) (r' : Vals (bs.map V.bl) its) (pl : PlainL s.heap a its.toArray) :
    (s.heap.push { cls := .type "list_iterator", data := .fields #[.ref a, .int 0 0] }).IsList a its.toArray ∧ TruthOf X.prog X.w X.A.in1 (fun i v => its.toArray[i]? = some v) (fun i => (bs[i]?).getD true) := by
  refine ⟨pl.isList.at fun o e => Heap.get?_push_of_some _ e, ?_⟩
  intro i v s' Q' E' hv hQ'
  have hv' : its[i]? = some v := by simpa using hv
  obtain ⟨hi, _⟩ := List.getElem?_eq_some_iff.mp hv'
  have hib : i < bs.length := by have := r'.length; rw [List.length_map] at this; omega
  obtain ⟨w, hw, rw'⟩ := r'.get (i := i) (by rw [List.getElem?_map, List.getElem?_eq_getElem hib]; rfl)
  rw [hv'] at hw
  cases hw
  have : v = .bool bs[i] := rw'
  subst this
  have e : (bs[i]?).getD true = bs[i] := by rw [List.getElem?_eq_getElem hib]; rfl
  dsimp only at hQ'
  rw [e] at hQ'
  exact wpAny_truthy_bool hQ'
theorem range_all (bs : List Bool) : (List.range bs.length).all (fun i => (bs[i]?).getD true) = bs.all id := by
  induction bs with
  | nil => rfl
  | cons b r ih =>
    rw [List.length_cons, List.range_succ_eq_map, List.all_cons, List.all_map, List.all_cons, ← ih]
    rfl
theorem call_all : CallR X (.builtin "all") (fun xs H Q => ∃ (a : Addr) (bs : List Bool), xs = [.ref a] ∧ SqL X.K H a (bs.map V.bl) ∧ X.calm = true ∧ Q (.bl (bs.all id)) H) := by
  intro pins s σ H xs us Q I r h
  obtain ⟨a, bs, rfl, hq, hc, q⟩ := h
  obtain ⟨u, rfl, rx⟩ := vals1 r
  cases rx
  obtain ⟨its, r', pl, hz⟩ := I.list hq
  refine call_all_walk (wpAny_pyIter_list pl.isList ?_)
  have hlt : a < s.heap.objs.size := by obtain ⟨o, e, _⟩ := pl.isList; exact Heap.lt_size e
  obtain ⟨w1, w2⟩ := bools_walk I r' pl
  refine ⟨s.heap.objs.size, [s.heap.objs.size, a], [s.heap.objs.size], its.toArray.size, (fun i v => its.toArray[i]? = some v), (fun i h => h.IsListIter s.heap.objs.size a i ∧ h.IsList a its.toArray), fun i => (bs[i]?).getD true, rfl, Walks.list (A := X.A.in1) (I.ok.hd hc) s.heap.objs.size a (Nat.ne_of_lt hlt) its.toArray, ⟨⟨_, Heap.get?_push_size _ rfl, rfl, rfl⟩, w1⟩, w2, fun h' tk hk => ?_⟩
  refine ⟨.bl (bs.all id), H, I.kept (h' := h') (t' := tk) fun b o e => hk b o (by simp; exact fun z => absurd (z ▸ Heap.lt_size e) (Nat.lt_irrefl _)) (Heap.get?_push_of_some _ e), ?_, q⟩
  have hl := r'.length
  rw [List.length_map] at hl
  show Value.bool _ = Value.bool _
  rw [List.size_toArray, ← hl, range_all]
def Its (x : Str) : It := ⟨fun i _ => i < x.cps.size, fun i H v H' => H' = H ∧ ∃ c, x.cps[i]? = some c ∧ v = .str ⟨#[c]⟩, fun i _ => x.cps.size ≤ i⟩
theorem turn_str {P : Program} {w : World} {K : PySem.W.Frag} {tg : Expr} (ty : String) (it : Addr) (x : Str) (t : Tok)
    (hty : ["enumerate", "zip", "dict_itemiterator", "dict_reverseitemiterator", "odict_iterator", "itertools.zip_longest", "itertools.pairwise"].contains ty = false)
    (W : ∀ A : Around, A.handled = none → Walks P w A it [it] [it] x.cps.size (SignAt x) (fun i h => h.IsStrIter it ty x t i))
    (en : ∀ (A : Around) (s : Shared) (i : Nat) (Q : Option Value → Shared → Prop) (E : Value → Shared → Prop), A.handled = none → s.heap.IsStrIter it ty x t i → x.cps[i]? = none → (∀ h', Heap.ExtBut it s.heap h' → Q none { s with heap := h' }) → wpAny (model P w) A (pyNext (.ref it)) Q E s)
    (sf : ∀ (A : Around) (s : Shared) (i : Nat) (Q : Value → Shared → Prop) (E : Value → Shared → Prop), s.heap.IsStrIter it ty x t i → Q (.ref it) s → wpAny (model P w) A (pyIter (.ref it)) Q E s) :
    Turn P w K tg (Its x) [it] it (fun i h => h.IsStrIter it ty x t i) where
  mem := by simp
  obj := fun i h st b hb => by
    have e : b = it := by simpa using hb
    subst e
    obtain ⟨o, e, c, d⟩ := st
    exact ⟨o, e, fun v z => by rw [d] at z; cases z⟩
  keep := fun i h h' st k => let ⟨o, e, c⟩ := st; ⟨o, k it (by simp) o e, c⟩
  item := by
    intro X hP hw hK hc i pins s σ H E I hf st hg
    subst hP hw hK
    obtain ⟨f0, f1, f2, f3, f4, f5⟩ := hf it (by simp)
    refine (W X.A (I.ok.hd hc)).item i s _ _ hg st fun v h' tk hv st' kk => ?_
    obtain ⟨c, u, hx, rfl⟩ := hv
    have I1 : Inv X pins σ H { s with heap := h', toks := tk } := I.turned (fun b o hb e => kk b o (by simpa using hb) e) f0 f1 f3 f4 f5
    obtain ⟨o, e, cc, d⟩ := id st'
    exact ⟨_, rfl, go_of (s := { s with heap := h', toks := tk }) e cc d hty ⟨.str ⟨#[c]⟩, H, I1, ⟨u, rfl⟩, ⟨rfl, c, hx, rfl⟩, st', fun b hb => (hf b hb).1⟩⟩
  done := by
    intro X hP hw hK hc i pins s σ H E I hf st hg
    subst hP hw hK
    obtain ⟨f0, f1, f2, f3, f4, f5⟩ := hf it (by simp)
    have hn : x.cps[i]? = none := by
      have : x.cps.size ≤ i := hg
      simpa using this
    exact en X.A s i _ _ (I.ok.hd hc) st hn fun h' eb => ⟨rfl, I.turned (t' := s.toks) (fun b o hb e => eb b o hb e) f0 f1 f3 f4 f5⟩
  self := fun A i s Q E st h => sf A s i Q E st h
theorem pi_str {pins : List (Addr × Obj)} {s : Shared} {σ : L2.St} {H : Hp} {tg : Expr} {R : It → Hp → Prop} {x : Str} {t : Tok} (I : Inv X pins σ H s) (h : R (Its x) H) :
    wpAny (model X.prog X.w) X.A (pyIter (.str x t)) (PIE X pins σ tg R) X.xe s := by
  have fp : ∀ b ∈ [s.heap.objs.size], FpOk X pins H b := fun b hb => by
    rcases List.mem_cons.mp hb with rfl | hb
    · exact I.fpOk (Nat.le_refl _) (I.hok.fresh (Nat.le_refl _))
    · cases hb
  cases ha : x.cps.all (· < 128)
  · refine wpAny_pyIter_wide ha ?_
    exact ⟨s.heap.objs.size, [s.heap.objs.size], _, Its x, H, rfl, I.kept (t' := s.toks) fun b u e => Heap.get?_push_of_some _ e, turn_str "str_iterator" _ x t (by decide) (fun A hA => Walks.strWide hA _ x t) (fun A s i Q E hA st hx k => wpAny_pyNext_wide_end hA st hx k) (fun A s i Q E st k => wpAny_pyIter_striter_wide st k), ⟨_, Heap.get?_push_size _ rfl, rfl, rfl⟩, fp, h⟩
  · refine wpAny_pyIter_ascii ha ?_
    exact ⟨s.heap.objs.size, [s.heap.objs.size], _, Its x, H, rfl, I.kept (t' := s.toks) fun b u e => Heap.get?_push_of_some _ e, turn_str "str_ascii_iterator" _ x t (by decide) (fun A hA => Walks.strAscii hA _ x t) (fun A s i Q E hA st hx k => wpAny_pyNext_ascii_end hA st hx k) (fun A s i Q E st k => wpAny_pyIter_striter_ascii st k), ⟨_, Heap.get?_push_size _ rfl, rfl, rfl⟩, fp, h⟩
end
end Tr
namespace Tr
open PySem PySem.Spec PyProof.Rows L2
section
variable {prog : Program} {w : World} {A : Around} {E : Value → Shared → Prop} {s : Shared}
end
end Tr
namespace Tr
open PySem PySem.Spec PyProof.Rows L2 PySem.SeqAt
end Tr
namespace Tr
open PySem PySem.Spec PyProof.Rows L2 PySem.SeqAt
def ModS (K : PySem.W.Frag) (a : Addr) (ss : List Str) : Prop := ∃ (o : Obj) (its : Array Value) (n : Nat), K.lookup a = some o ∧ o.cls = .type "tuple" ∧ o.dict = none ∧ o.data = .seq its n ∧ Vals (ss.map V.str) its.toList
end Tr
namespace Tr
open PySem PySem.Spec PyProof.Rows L2
def met (val : Nat → Key) : Nat → List Key
  | 0 => []
  | i + 1 => if (met val i).any (fun x => decide (x = val i)) then met val i else met val i ++ [val i]
section
variable {prog : Program} {w : World} {A : Around} {R : Result → Shared → Prop} {I : Addr} {fp wr : List Addr} {G : Array GenState → Array GenState → Prop} {n : Nat} {P : Nat → Value → Prop} {St : Nat → Shared → Prop}
end
section
variable {prog : Program} {w : World} {A : Around} {E : Value → Shared → Prop} {s : Shared}
set_option maxHeartbeats 3200000 in
end
end Tr
namespace Tr
open PySem PySem.Spec PyProof.Rows L2
section
variable {prog : Program} {w : World} {A : Around} {E : Value → Shared → Prop} {s : Shared}
set_option maxHeartbeats 3200000 in
end
end Tr
namespace Tr
open PySem PySem.Spec PyProof.Rows L2
end Tr
namespace Tr
open PySem PySem.Spec PyProof.Rows L2
end Tr
namespace Tr
open PySem PySem.Spec PyProof.Rows L2
theorem vals_ints : ∀ {ns : List Int} {its : List Value}, Vals (ns.map V.int) its → ∃ xs : List (Int × Tok), its = xs.map (fun p => Value.int p.1 p.2) ∧ xs.map (·.1) = ns
  | [], _, h => by cases h; exact ⟨[], rfl, rfl⟩
  | n :: ns, _, h => by
    cases h with
    | cons r rr =>
      obtain ⟨t, rfl⟩ := r
      obtain ⟨xs, rfl, e⟩ := vals_ints rr
      exact ⟨(n, t) :: xs, rfl, by rw [List.map_cons, e]⟩
def maxTo (f : Nat → Int) : Nat → Int
  | 0 => f 0
  | k + 1 => if f (k + 1) > maxTo f k then f (k + 1) else maxTo f k
def minTo (f : Nat → Int) : Nat → Int
  | 0 => f 0
  | k + 1 => if f (k + 1) < minTo f k then f (k + 1) else minTo f k
theorem best_max (f : Nat → Int) : ∀ k, f (argBest (fun i j => decide (f i > f j)) k) = maxTo f k
  | 0 => rfl
  | k + 1 => by
    rw [argBest, maxTo, ← best_max f k]
    by_cases c : f (k + 1) > f (argBest (fun i j => decide (f i > f j)) k)
    · rw [if_pos (decide_eq_true c), if_pos c]
    · rw [if_neg (by simpa using c), if_neg c]
theorem best_min (f : Nat → Int) : ∀ k, f (argBest (fun i j => decide (f i < f j)) k) = minTo f k
  | 0 => rfl
  | k + 1 => by
    rw [argBest, minTo, ← best_min f k]
    by_cases c : f (k + 1) < f (argBest (fun i j => decide (f i < f j)) k)
    · rw [if_pos (decide_eq_true c), if_pos c]
    · rw [if_neg (by simpa using c), if_neg c]
theorem maxTo_eq (g : Nat → Int) : ∀ (ns : List Int) (m : Int) (k : Nat), maxTo g k = m → (∀ i, i < ns.length → g (k + 1 + i) = ns.getD i 0) → maxTo g (k + ns.length) = maxI m ns
  | [], m, k, h, _ => by rw [maxI]; exact h
  | n :: ns, m, k, h, e => by
    have h0 := e 0 (by simp)
    have h1 : maxTo g (k + 1) = if n > m then n else m := by
      rw [maxTo, h]
      have : g (k + 1) = n := h0
      rw [this]
    have ih := maxTo_eq g ns (if n > m then n else m) (k + 1) h1 (fun i hi => by
      have := e (i + 1) (by simp; omega)
      rw [show k + 1 + 1 + i = k + 1 + (i + 1) by omega, this]
      rfl)
    rw [maxI, ← ih, List.length_cons, show k + 1 + ns.length = k + (ns.length + 1) by omega]
theorem minTo_eq (g : Nat → Int) : ∀ (ns : List Int) (m : Int) (k : Nat), minTo g k = m → (∀ i, i < ns.length → g (k + 1 + i) = ns.getD i 0) → minTo g (k + ns.length) = minI m ns
  | [], m, k, h, _ => by rw [minI]; exact h
  | n :: ns, m, k, h, e => by
    have h0 := e 0 (by simp)
    have h1 : minTo g (k + 1) = if n < m then n else m := by
      rw [minTo, h]
      have : g (k + 1) = n := h0
      rw [this]
    have ih := minTo_eq g ns (if n < m then n else m) (k + 1) h1 (fun i hi => by
      have := e (i + 1) (by simp; omega)
      rw [show k + 1 + 1 + i = k + 1 + (i + 1) by omega, this]
      rfl)
    rw [minI, ← ih, List.length_cons, show k + 1 + ns.length = k + (ns.length + 1) by omega]
theorem numAt_get (xs : List (Int × Tok)) (i : Nat) : numAt xs.toArray i = (xs.map (·.1)).getD i 0 := by
  unfold numAt
  rw [List.getD_eq_getElem?_getD, List.getElem?_map]
  simp
theorem maxTo_num {xs : List (Int × Tok)} {n : Int} {ns : List Int} (e : xs.map (·.1) = n :: ns) : maxTo (numAt xs.toArray) (xs.length - 1) = maxI n ns := by
  have hl : xs.length = ns.length + 1 := by
    have := congrArg List.length e
    simpa using this
  have := maxTo_eq (numAt xs.toArray) ns n 0 (by rw [maxTo, numAt_get, e]; rfl) (fun i _ => by rw [numAt_get, e, show 0 + 1 + i = i + 1 by omega]; rfl)
  rw [← this, hl]
  congr 1
  omega
theorem minTo_num {xs : List (Int × Tok)} {n : Int} {ns : List Int} (e : xs.map (·.1) = n :: ns) : minTo (numAt xs.toArray) (xs.length - 1) = minI n ns := by
  have hl : xs.length = ns.length + 1 := by
    have := congrArg List.length e
    simpa using this
  have := minTo_eq (numAt xs.toArray) ns n 0 (by rw [minTo, numAt_get, e]; rfl) (fun i _ => by rw [numAt_get, e, show 0 + 1 + i = i + 1 by omega]; rfl)
  rw [← this, hl]
  congr 1
  omega
theorem call_maxL {X : Cx} (hc : X.calm = true) : CallR X (.builtin "max") (fun vs H Q => ∃ a n ns, vs = [.ref a] ∧ SqL X.K H a ((n :: ns).map V.int) ∧ Q (.int (maxI n ns)) H) := by
  intro pins s σ H vs us Q I rv h
  obtain ⟨a, n, ns, rfl, hq, q⟩ := h
  obtain ⟨u, rfl, ru⟩ := rv.one
  cases ru
  obtain ⟨its, r, pl, hz⟩ := I.list hq
  obtain ⟨xs, rfl, e⟩ := vals_ints r
  have hl : s.heap.IsList a (intItems xs.toArray) := by
    have := pl.isList
    rwa [show (xs.map fun p => Value.int p.1 p.2).toArray = intItems xs.toArray by simp [intItems]] at this
  refine max_intList (I.ok.hd hc) hl (by have := congrArg List.length e; simp at this ⊢; omega) fun v h' tk hv hk => ?_
  obtain ⟨t, rfl⟩ := intItems_at hv
  rw [best_max (numAt xs.toArray), List.size_toArray, maxTo_num e]
  exact ⟨.int (maxI n ns), H, I.kept (t' := tk) hk, ⟨t, rfl⟩, q⟩
theorem call_minL {X : Cx} (hc : X.calm = true) : CallR X (.builtin "min") (fun vs H Q => ∃ a n ns, vs = [.ref a] ∧ SqL X.K H a ((n :: ns).map V.int) ∧ Q (.int (minI n ns)) H) := by
  intro pins s σ H vs us Q I rv h
  obtain ⟨a, n, ns, rfl, hq, q⟩ := h
  obtain ⟨u, rfl, ru⟩ := rv.one
  cases ru
  obtain ⟨its, r, pl, hz⟩ := I.list hq
  obtain ⟨xs, rfl, e⟩ := vals_ints r
  have hl : s.heap.IsList a (intItems xs.toArray) := by
    have := pl.isList
    rwa [show (xs.map fun p => Value.int p.1 p.2).toArray = intItems xs.toArray by simp [intItems]] at this
  refine min_intList (I.ok.hd hc) hl (by have := congrArg List.length e; simp at this ⊢; omega) fun v h' tk hv hk => ?_
  obtain ⟨t, rfl⟩ := intItems_at hv
  rw [best_min (numAt xs.toArray), List.size_toArray, minTo_num e]
  exact ⟨.int (minI n ns), H, I.kept (t' := tk) hk, ⟨t, rfl⟩, q⟩
end Tr
namespace Tr
open PySem PySem.Spec PyProof.Rows L2
section
variable {prog : Program} {w : World} {A : Around} {R : Result → Shared → Prop} {it : Addr} {fp wr : List Addr} {n : Nat} {P : Nat → Value → Prop} {St : Nat → Heap → Prop}
theorem max_go (W : Walks prog w A.in1 it fp wr n P St) (bt : Nat → Nat → Bool) (hb : CmpOf prog w A.in1 .Gt P bt) (B : Addr) (nB : B ∉ fp) (kw : List (Str × Value)) : ∀ (m j : Nat) (s : Shared) (v0 : Value) (c : Nat), n - (j + 1) = m → j + 1 ≤ n → St (j + 1) s.heap → P (argBest bt j) v0 →
    s.heap.get? B = some { cls := .type "list", dict := none, data := .seq #[v0, v0] c, slots := #[] } →
    (∀ v h1 tk, P (argBest bt (n - 1)) v → (∀ b o, b ∉ wr → b ≠ B → s.heap.get? b = some o → h1.get? b = some o) → R (.ok (.ret v)) { s with heap := h1, toks := tk }) →
    codeAny (model prog w) A (.builtin "max.loop" ⟨[.ref it, .none, .ref B], kw⟩) R s := by
  have nw : B ∉ wr := fun z => nB (W.sub _ z)
  have nm : (toString "max" ++ toString ".loop" : String) = "max.loop" := by decide
  intro m
  induction m with
  | zero =>
    intro j s v0 c e1 e2 st p0 hB fin
    have en : j + 1 = n := by omega
    apply codeAny_builtin F.entry_max_loop
    rw [Around.under_plainId F.plain_max_loop]
    show wpAny _ A.in1 (seqItems? (.ref B) >>= _) _ _ s
    refine wpAny_bind (wpAny_seqItems hB rfl ?_)
    show wpAny _ A.in1 (tryCatch (pyNext (.ref it)) _ >>= _) _ _ s
    refine wpAny_bind (wpAny_tryCatch (W.done s _ _ (en ▸ st) fun h1 tk kept => ?_))
    have hB1 := kept B _ nw hB
    show wpAny _ A.in1 (updateSeq B (fun _ => #[]) >>= _) _ _ _
    exact wpAny_bind (wpAny_updateSeq hB1 rfl (wpAny_bind (wpAny_letGo (wpAny_pure (fin v0 _ tk (by rw [← en]; exact p0) fun b o b1 b2 e => (Heap.get?_update_other _ _ (Ne.symm b2)).trans (kept b o b1 e))))))
  | succ m ih =>
    intro j s v0 c e1 e2 st p0 hB fin
    have lt : j + 1 < n := by omega
    apply codeAny_builtin F.entry_max_loop
    rw [Around.under_plainId F.plain_max_loop]
    show wpAny _ A.in1 (seqItems? (.ref B) >>= _) _ _ s
    refine wpAny_bind (wpAny_seqItems hB rfl ?_)
    show wpAny _ A.in1 (tryCatch (pyNext (.ref it)) _ >>= _) _ _ s
    refine wpAny_bind (wpAny_tryCatch (W.item (j + 1) s _ _ lt st fun v h1 tk p1 st1 kept => ?_))
    have hB1 := kept B _ nw hB
    show wpAny _ A.in1 (tryCatch (holding [v, v] (richCompare .Gt v v0 >>= _)) _ >>= _) _ _ _
    refine wpAny_bind (wpAny_tryCatch (wpAny_holding (wpAny_bind (hb (j + 1) (argBest bt j) v v0 _ _ _ p1 p0 ?_))))
    refine wpAny_bind (wpAny_holding (wpAny_truthy_bool (wpAny_bind (wpAny_letGo (wpAny_pure ?_)))))
    cases q : bt (j + 1) (argBest bt j) with
    | true =>
      simp only [if_true]
      refine wpAny_bind (wpAny_updateSeq hB1 rfl (wpAny_bind (wpAny_letGo ?_)))
      rw [nm]
      refine wpAny_pure ⟨plainId_quiet F.plain_max_loop _, ih (j + 1) _ v _ (by omega) lt (W.frame _ _ _ st1 fun b f o e => ?_) (by rw [argBest, q]; exact p1) (Heap.get?_update_self _ hB1 rfl) fun v1 h2 tk2 p2 k2 => ?_⟩
      · exact (Heap.get?_update_other _ _ (fun z : B = b => nB (by rw [z]; exact f))).trans e
      · exact fin v1 h2 tk2 p2 fun b o b1 b2 e => k2 b o b1 b2 ((Heap.get?_update_other _ _ (Ne.symm b2)).trans (kept b o b1 e))
    | false =>
      simp only [Bool.false_eq_true, if_false]
      refine wpAny_bind (wpAny_letGo ?_)
      rw [nm]
      exact wpAny_pure ⟨plainId_quiet F.plain_max_loop _, ih (j + 1) _ v0 c (by omega) lt st1 (by rw [argBest, q]; exact p0) hB1 fun v1 h2 tk2 p2 k2 => fin v1 h2 tk2 p2 fun b o b1 b2 e => k2 b o b1 b2 (kept b o b1 e)⟩
theorem max_start (W : Walks prog w A.in1 it fp wr n P St) (bt : Nat → Nat → Bool) (hb : CmpOf prog w A.in1 .Gt P bt) (B : Addr) (nB : B ∉ fp) (kn : Str) (d : Value) {s : Shared} {c : Nat} (st : St 0 s.heap)
    (hB : s.heap.get? B = some { cls := .type "list", dict := none, data := .seq #[] c, slots := #[] })
    (fin : ∀ v h1 tk, ((0 < n ∧ P (argBest bt (n - 1)) v) ∨ (n = 0 ∧ v = d)) → (∀ b o, b ∉ wr → b ≠ B → s.heap.get? b = some o → h1.get? b = some o) → R (.ok (.ret v)) { s with heap := h1, toks := tk }) :
    codeAny (model prog w) A (.builtin "max.loop" ⟨[.ref it, .none, .ref B], [(kn, d)]⟩) R s := by
  have nw : B ∉ wr := fun z => nB (W.sub _ z)
  have nm : (toString "max" ++ toString ".loop" : String) = "max.loop" := by decide
  apply codeAny_builtin F.entry_max_loop
  rw [Around.under_plainId F.plain_max_loop]
  show wpAny _ A.in1 (seqItems? (.ref B) >>= _) _ _ s
  refine wpAny_bind (wpAny_seqItems hB rfl ?_)
  show wpAny _ A.in1 (tryCatch (pyNext (.ref it)) _ >>= _) _ _ s
  rcases Nat.eq_zero_or_pos n with z | z
  · refine wpAny_bind (wpAny_tryCatch (W.done s _ _ (by rw [z]; exact st) fun h1 tk kept => ?_))
    show wpAny _ A.in1 (rule _ >>= fun _ => ret d) _ _ _
    exact wpAny_bind (wpAny_rule (wpAny_pure (fin d h1 tk (.inr ⟨z, rfl⟩) fun b o b1 _ e => kept b o b1 e)))
  · refine wpAny_bind (wpAny_tryCatch (W.item 0 s _ _ z st fun v h1 tk p1 st1 kept => ?_))
    have hB1 := kept B _ nw hB
    show wpAny _ A.in1 (updateSeq B (fun _ => #[v, v]) >>= _) _ _ _
    refine wpAny_bind (wpAny_updateSeq hB1 rfl ?_)
    rw [nm]
    refine wpAny_pure ⟨plainId_quiet F.plain_max_loop _, max_go W bt hb B nB [(kn, d)] _ 0 _ v _ rfl z (W.frame _ _ _ st1 fun b f o e => ?_) p1 (Heap.get?_update_self _ hB1 rfl) fun v1 h2 tk2 p2 k2 => ?_⟩
    · exact (Heap.get?_update_other _ _ (fun y : B = b => nB (by rw [y]; exact f))).trans e
    · exact fin v1 h2 tk2 (.inl ⟨z, p2⟩) fun b o b1 b2 e => k2 b o b1 b2 ((Heap.get?_update_other _ _ (Ne.symm b2)).trans (kept b o b1 e))
end
theorem args_maxd (a d : Value) : argsOk "max" ⟨[a], [(Str.ofString "default", d)]⟩ := by unfold argsOk; kernel_rfl
theorem maxd_call {prog : Program} {w : World} {A : Around} {E : Value → Shared → Prop} {s : Shared} {l : Addr} {xs : List (Int × Tok)} {d : Value} {Q : Value → Shared → Prop} (hh : A.handled = none) (hl : s.heap.IsList l (intItems xs.toArray))
    (h : ∀ v h1 tk, ((0 < xs.length ∧ ∃ t, v = .int (maxTo (numAt xs.toArray) (xs.length - 1)) t) ∨ (xs.length = 0 ∧ v = d)) → (∀ b o, s.heap.get? b = some o → h1.get? b = some o) → Q v { s with heap := h1, toks := tk }) :
    wpAny (model prog w) A (call (.builtin "max") [.ref l] [(Str.ofString "default", d)]) Q E s := by
  have nm : (toString "max" ++ toString ".loop" : String) = "max.loop" := by decide
  have hlt : l < s.heap.objs.size := by obtain ⟨_, e, _⟩ := hl; exact Heap.lt_size e
  apply wpAny_call
  apply codeAny_call_builtin F.plain_max F.entry_max
  have ha := args_maxd (.ref l) d
  simp only [checkBuiltinCall, F.kind_max]
  have go : wpAny (model prog w) A.in1 (Builtin.«max» ⟨[.ref l], [(Str.ofString "default", d)]⟩) (fun fin s' => match fin with
      | .done f => (match (Except.ok f : Result) with | .ok (.ret v) => Q v s' | .ok _ => False | .error e => E e s')
      | .again c' => c'.quiet = true ∧ codeAny (model prog w) A c' (fun r s' => match r with | .ok (.ret v) => Q v s' | .ok _ => False | .error e => E e s') s') E s := by
    show wpAny _ A.in1 (Builtin.Builtins.bindParams "max" ["key", "default"] 0 ⟨[], [(Str.ofString "default", d)]⟩ >>= _) _ _ s
    refine wpAny_bind (wpAny_of_eq (show Builtin.Builtins.bindParams "max" ["key", "default"] 0 ⟨[], [(Str.ofString "default", d)]⟩ = pure [none, some d] by rfl) ?_)
    refine wpAny_bind (wpAny_pure (wpAny_bind (wpAny_pyIter_list hl (wpAny_bind (wpAny_newObj_type ?_)))))
    rw [nm]
    generalize hg1 : s.heap.push { cls := .type "list_iterator", data := .fields #[.ref l, .int 0 0] } = g1
    have z1 : g1.objs.size = s.heap.objs.size + 1 := by rw [← hg1]; exact Heap.size_push ..
    have old1 : ∀ b o, s.heap.get? b = some o → g1.get? b = some o := fun b o e => by rw [← hg1]; exact Heap.get?_push_of_some _ e
    have it1 : g1.get? s.heap.objs.size = some { cls := .type "list_iterator", data := .fields #[.ref l, .int 0 0] } := by rw [← hg1]; exact Heap.get?_push_size _ rfl
    have W := Walks.list (prog := prog) (w := w) (A := A.in1) hh s.heap.objs.size l (Nat.ne_of_lt hlt) (intItems xs.toArray)
    have sz : (intItems xs.toArray).size = xs.length := by simp [intItems]
    refine wpAny_pure ⟨plainId_quiet F.plain_max_loop _, max_start W (fun i j => decide (numAt xs.toArray i > numAt xs.toArray j)) (CmpOf.ints_gt (numAt xs.toArray) (fun _ _ => intItems_at)) g1.objs.size ?_ (Str.ofString "default") d ?_ (Heap.get?_push_size _ rfl) fun v h1 tk hv kept => ?_⟩
    · simp only [List.mem_cons, List.not_mem_nil, or_false, not_or]
      exact ⟨by rw [z1]; exact Nat.ne_of_gt (Nat.lt_succ_self _), by rw [z1]; exact Nat.ne_of_gt (Nat.lt_succ_of_lt hlt)⟩
    · exact ⟨⟨_, Heap.get?_push_of_some _ it1, rfl, rfl⟩, (hl.at fun o e => Heap.get?_push_of_some _ (old1 _ o e))⟩
    · refine h v h1 tk ?_ fun b o e => ?_
      · rw [sz] at hv
        rcases hv with ⟨q1, q2⟩ | q
        · obtain ⟨t, rfl⟩ := intItems_at q2
          exact .inl ⟨q1, t, by rw [best_max (numAt xs.toArray)]⟩
        · exact .inr q
      · have lb := Heap.lt_size e
        exact kept b o (by simp only [List.mem_cons, List.not_mem_nil, or_false]; exact Nat.ne_of_lt lb) (by rw [z1]; exact Nat.ne_of_lt (Nat.lt_succ_of_lt lb)) (Heap.get?_push_of_some _ (old1 b o e))
  cases hsig : Manifest.signature? "max" with
  | none => exact wpAny_pure go
  | some sig =>
    simp only [argsOk, hsig] at ha
    have h2 : Bind.checkArgs "max" sig ⟨[.ref l], [(Str.ofString "default", d)]⟩ = pure () := ha
    simp only [h2]
    exact wpAny_pure go
theorem maxd_val {X : Cx} (hc : X.calm = true) {pins : List (Addr × Obj)} {s : Shared} {σ : L2.St} {H : Hp} {a : Addr} {ns : List Int} {d : Int} {t : Tok} {Q : VK} (I : Inv X pins σ H s) (hq : SqL X.K H a (ns.map V.int)) (q : Q (.int (match ns with | [] => d | n :: r => maxI n r)) H) :
    wpAny (model X.prog X.w) X.A (call (.builtin "max") [.ref a] [(Str.ofString "default", .int d t)]) (EP X pins σ Q) X.xe s := by
  obtain ⟨its, r, pl, hz⟩ := I.list hq
  obtain ⟨xs, rfl, e⟩ := vals_ints r
  have hl : s.heap.IsList a (intItems xs.toArray) := by
    have := pl.isList
    rwa [show (xs.map fun p => Value.int p.1 p.2).toArray = intItems xs.toArray by simp [intItems]] at this
  refine maxd_call (I.ok.hd hc) hl fun v h1 tk hv kept => ?_
  have ln : xs.length = ns.length := by rw [← e, List.length_map]
  refine ⟨_, H, I.kept (t' := tk) kept, ?_, q⟩
  cases ns with
  | nil =>
    rcases hv with ⟨z, _⟩ | ⟨_, rfl⟩
    · rw [ln] at z; exact absurd z (Nat.lt_irrefl _)
    · exact ⟨t, rfl⟩
  | cons n ns =>
    rcases hv with ⟨_, t', rfl⟩ | ⟨z, _⟩
    · exact ⟨t', by rw [maxTo_num e]⟩
    · rw [ln] at z; cases z
end Tr
namespace Tr
open PySem PySem.Spec PyProof.Rows L2
def ModL (K : PySem.W.Frag) (a : Addr) (xs : List V) : Prop :=
  ∃ (o : Obj) (its : Array Value) (n : Nat), K.lookup a = some o ∧ o.cls = .type "list" ∧ o.dict = none ∧ o.data = .seq its n ∧ its.size ≤ sizeLine ∧ Vals xs its.toList
mutual
def RD (K : PySem.W.Frag) (H : Hp) (O : Addr → Prop) : D → V → Prop
  | .non, v => v = .non
  | .bl b, v => v = .bl b
  | .int i, v => v = .int i
  | .str x, v => v = .str x
  | .tup ds, v => ∃ a xs, v = .ref a ∧ SqT K H a xs ∧ RDs K H O ds xs
  | .lst ds, v => ∃ a xs, v = .ref a ∧ ((¬ O a ∧ Rd H a (.lst xs)) ∨ ModL K a xs) ∧ RDs K H O ds xs
  | .dct kvs, v => ∃ a ps, v = .ref a ∧ (¬ O a ∧ H a = some (.dK ps)) ∧ RDk K H O kvs ps
def RDs (K : PySem.W.Frag) (H : Hp) (O : Addr → Prop) : List D → List V → Prop
  | [], xs => xs = []
  | d :: ds, xs => ∃ v r, xs = v :: r ∧ RD K H O d v ∧ RDs K H O ds r
def RDk (K : PySem.W.Frag) (H : Hp) (O : Addr → Prop) : List (Sum Int Str × D) → List (Key × V) → Prop
  | [], xs => xs = []
  | (k, d) :: ds, xs => ∃ v r, xs = (k, v) :: r ∧ RD K H O d v ∧ RDk K H O ds r
end
def OwnAt (K : PySem.W.Frag) (H : Hp) (O : Addr → Prop) (a : Addr) : D → Prop
  | .lst ds => ∃ xs, H a = some (.lst xs) ∧ RDs K H O ds xs
  | .dct kvs => ∃ ps, H a = some (.dK ps) ∧ RDk K H O kvs ps
  | _ => False
def RR (K : PySem.W.Frag) (H : Hp) (O : Addr → Prop) (d : D) (v : V) : Prop :=
  RD K H O d v ∨ ∃ a, v = .ref a ∧ OwnAt K H O a d
def RRs (K : PySem.W.Frag) (H : Hp) (O : Addr → Prop) : List D → List V → Prop
  | [], xs => xs = []
  | d :: ds, xs => ∃ v r, xs = v :: r ∧ RR K H O d v ∧ RRs K H O ds r
section
variable {K : PySem.W.Frag} {H H' : Hp} {O O' : Addr → Prop}
mutual
theorem RD.map (ht : ∀ a xs, SqT K H a xs → SqT K H' a xs) (hl : ∀ a xs, ¬ O a → Rd H a (.lst xs) → ¬ O' a ∧ Rd H' a (.lst xs)) (hd : ∀ a ps, ¬ O a → H a = some (.dK ps) → ¬ O' a ∧ H' a = some (.dK ps)) : ∀ {d : D} {v : V}, RD K H O d v → RD K H' O' d v
  | .non, _, h => h
  | .bl _, _, h => h
  | .int _, _, h => h
  | .str _, _, h => h
  | .tup ds, v, h => by
    obtain ⟨a, xs, e, s, r⟩ := h
    exact ⟨a, xs, e, ht a xs s, RDs.map ht hl hd r⟩
  | .lst ds, v, h => by
    obtain ⟨a, xs, e, s, r⟩ := h
    refine ⟨a, xs, e, ?_, RDs.map ht hl hd r⟩
    rcases s with ⟨s1, s2⟩ | s
    · exact .inl (hl a xs s1 s2)
    · exact .inr s
  | .dct kvs, v, h => by
    obtain ⟨a, ps, e, s, r⟩ := h
    exact ⟨a, ps, e, hd a ps s.1 s.2, RDk.map ht hl hd r⟩
theorem RDs.map (ht : ∀ a xs, SqT K H a xs → SqT K H' a xs) (hl : ∀ a xs, ¬ O a → Rd H a (.lst xs) → ¬ O' a ∧ Rd H' a (.lst xs)) (hd : ∀ a ps, ¬ O a → H a = some (.dK ps) → ¬ O' a ∧ H' a = some (.dK ps)) : ∀ {ds : List D} {vs : List V}, RDs K H O ds vs → RDs K H' O' ds vs
  | [], _, h => h
  | d :: ds, vs, h => by
    obtain ⟨v, r, e, h1, h2⟩ := h
    exact ⟨v, r, e, RD.map ht hl hd h1, RDs.map ht hl hd h2⟩
theorem RDk.map (ht : ∀ a xs, SqT K H a xs → SqT K H' a xs) (hl : ∀ a xs, ¬ O a → Rd H a (.lst xs) → ¬ O' a ∧ Rd H' a (.lst xs)) (hd : ∀ a ps, ¬ O a → H a = some (.dK ps) → ¬ O' a ∧ H' a = some (.dK ps)) : ∀ {ds : List (Sum Int Str × D)} {vs : List (Key × V)}, RDk K H O ds vs → RDk K H' O' ds vs
  | [], _, h => h
  | (k, d) :: ds, vs, h => by
    obtain ⟨v, r, e, h1, h2⟩ := h
    exact ⟨v, r, e, RD.map ht hl hd h1, RDk.map ht hl hd h2⟩
end
theorem Rd.same (s : Same H H') {a : Addr} {u : HO} (h : Rd H a u) : Rd H' a u := by
  rcases h with h | ⟨o, h⟩
  · exact .inl (s _ _ h)
  · exact .inr ⟨o, s _ _ h⟩
theorem SqT.same (s : Same H H') {a : Addr} {xs : List V} (h : SqT K H a xs) : SqT K H' a xs := by
  rcases h with h | h
  · exact .inl (Rd.same s h)
  · exact .inr h
theorem RD.same (s : Same H H') {d : D} {v : V} (h : RD K H O d v) : RD K H' O d v := RD.map (fun _ _ q => SqT.same s q) (fun _ _ n q => ⟨n, Rd.same s q⟩) (fun _ _ n q => ⟨n, s _ _ q⟩) h
theorem RDk.same (s : Same H H') {d : List (Sum Int Str × D)} {v : List (Key × V)} (h : RDk K H O d v) : RDk K H' O d v := RDk.map (fun _ _ q => SqT.same s q) (fun _ _ n q => ⟨n, Rd.same s q⟩) (fun _ _ n q => ⟨n, s _ _ q⟩) h
theorem RDs.same (s : Same H H') {d : List D} {v : List V} (h : RDs K H O d v) : RDs K H' O d v := RDs.map (fun _ _ q => SqT.same s q) (fun _ _ n q => ⟨n, Rd.same s q⟩) (fun _ _ n q => ⟨n, s _ _ q⟩) h
theorem RD.weak (s : ∀ a, O' a → O a) {d : D} {v : V} (h : RD K H O d v) : RD K H O' d v := RD.map (fun _ _ q => q) (fun a _ n q => ⟨fun z => n (s a z), q⟩) (fun a _ n q => ⟨fun z => n (s a z), q⟩) h
theorem RDk.weak (s : ∀ a, O' a → O a) {d : List (Sum Int Str × D)} {v : List (Key × V)} (h : RDk K H O d v) : RDk K H O' d v := RDk.map (fun _ _ q => q) (fun a _ n q => ⟨fun z => n (s a z), q⟩) (fun a _ n q => ⟨fun z => n (s a z), q⟩) h
theorem RDs.weak (s : ∀ a, O' a → O a) {d : List D} {v : List V} (h : RDs K H O d v) : RDs K H O' d v := RDs.map (fun _ _ q => q) (fun a _ n q => ⟨fun z => n (s a z), q⟩) (fun a _ n q => ⟨fun z => n (s a z), q⟩) h
def plus (O : Addr → Prop) (p : Addr) : Addr → Prop := fun a => O a ∨ a = p
def minus (O : Addr → Prop) (p : Addr) : Addr → Prop := fun a => O a ∧ a ≠ p
theorem Rd.ne {p a : Addr} {u : HO} (hp : H p = none) (h : Rd H a u) : a ≠ p := by
  rcases h with h | ⟨o, h⟩ <;> exact ne_of_none h hp
theorem RD.new {p : Addr} (hp : H p = none) {d : D} {v : V} (h : RD K H O d v) : RD K H (plus O p) d v :=
  RD.map (fun _ _ q => q) (fun a _ n q => ⟨fun z => z.elim n (Rd.ne hp q), q⟩) (fun a _ n q => ⟨fun z => z.elim n (ne_of_none q hp), q⟩) h
theorem RDk.new {p : Addr} (hp : H p = none) {d : List (Sum Int Str × D)} {v : List (Key × V)} (h : RDk K H O d v) : RDk K H (plus O p) d v :=
  RDk.map (fun _ _ q => q) (fun a _ n q => ⟨fun z => z.elim n (Rd.ne hp q), q⟩) (fun a _ n q => ⟨fun z => z.elim n (ne_of_none q hp), q⟩) h
theorem RDs.new {p : Addr} (hp : H p = none) {d : List D} {v : List V} (h : RDs K H O d v) : RDs K H (plus O p) d v :=
  RDs.map (fun _ _ q => q) (fun a _ n q => ⟨fun z => z.elim n (Rd.ne hp q), q⟩) (fun a _ n q => ⟨fun z => z.elim n (ne_of_none q hp), q⟩) h
def MutO : HO → Prop
  | .lst _ => True
  | .dK _ => True
  | _ => False
theorem Rd.upd_mut {p a : Addr} {u o o' : HO} (hp : H p = some o) (hm : MutO o) (hu : u ≠ o) (h : Rd H a u) : Rd (upd H p o') a u := by
  rcases h with h | ⟨o1, h⟩
  · exact .inl (by rw [upd_ne (ne_of h hp hu)]; exact h)
  · exact .inr ⟨o1, by rw [upd_ne (ne_of h hp (by intro z; subst z; exact hm))]; exact h⟩
theorem upd_map {p : Addr} {o o' : HO} (hO : O p) (hp : H p = some o) (hm : MutO o) : (∀ a xs, SqT K H a xs → SqT K (upd H p o') a xs) ∧ (∀ a xs, ¬ O a → Rd H a (.lst xs) → ¬ O a ∧ Rd (upd H p o') a (.lst xs)) ∧ ∀ a ps, ¬ O a → H a = some (.dK ps) → ¬ O a ∧ upd H p o' a = some (.dK ps) := by
  refine ⟨fun a xs h => ?_, fun a xs n h => ⟨n, ?_⟩, fun a ps n h => ⟨n, ?_⟩⟩
  · rcases h with h | h
    · exact .inl (Rd.upd_mut hp hm (by intro z; subst z; exact hm) h)
    · exact .inr h
  · have e : a ≠ p := fun z => n (z ▸ hO)
    rcases h with h | ⟨o, h⟩
    · exact .inl (by rw [upd_ne e]; exact h)
    · exact .inr ⟨o, by rw [upd_ne e]; exact h⟩
  · have e : a ≠ p := fun z => n (z ▸ hO)
    rw [upd_ne e]; exact h
theorem RD.updM {p : Addr} {o o' : HO} (hO : O p) (hp : H p = some o) (hm : MutO o) {d : D} {v : V} (h : RD K H O d v) : RD K (L2.upd H p o') O d v := RD.map (upd_map (K := K) hO hp hm).1 (upd_map (K := K) hO hp hm).2.1 (upd_map (K := K) hO hp hm).2.2 h
theorem RDs.updM {p : Addr} {o o' : HO} (hO : O p) (hp : H p = some o) (hm : MutO o) {d : List D} {v : List V} (h : RDs K H O d v) : RDs K (L2.upd H p o') O d v := RDs.map (upd_map (K := K) hO hp hm).1 (upd_map (K := K) hO hp hm).2.1 (upd_map (K := K) hO hp hm).2.2 h
theorem RDk.updM {p : Addr} {o o' : HO} (hO : O p) (hp : H p = some o) (hm : MutO o) {d : List (Sum Int Str × D)} {v : List (Key × V)} (h : RDk K H O d v) : RDk K (L2.upd H p o') O d v := RDk.map (upd_map (K := K) hO hp hm).1 (upd_map (K := K) hO hp hm).2.1 (upd_map (K := K) hO hp hm).2.2 h
theorem RD.upd {p : Addr} {ys zs : List V} (hO : O p) (hp : H p = some (.lst ys)) {d : D} {v : V} (h : RD K H O d v) : RD K (L2.upd H p (.lst zs)) O d v := RD.updM hO hp trivial h
theorem RDs.upd {p : Addr} {ys zs : List V} (hO : O p) (hp : H p = some (.lst ys)) {d : List D} {v : List V} (h : RDs K H O d v) : RDs K (L2.upd H p (.lst zs)) O d v := RDs.updM hO hp trivial h
mutual
theorem RD.flat : ∀ {d : D} {v : V}, d.flat = true → RD K H O d v → RD K H O' d v
  | .non, _, _, h => h
  | .bl _, _, _, h => h
  | .int _, _, _, h => h
  | .str _, _, _, h => h
  | .tup ds, v, f, h => by
    obtain ⟨a, xs, e, s, r⟩ := h
    rw [D.flat] at f
    exact ⟨a, xs, e, s, RDs.flat f r⟩
  | .lst ds, v, f, _ => by rw [D.flat] at f; cases f
  | .dct _, _, f, _ => by rw [D.flat] at f; cases f
theorem RDs.flat : ∀ {ds : List D} {vs : List V}, D.flats ds = true → RDs K H O ds vs → RDs K H O' ds vs
  | [], _, _, h => h
  | d :: ds, vs, f, h => by
    obtain ⟨v, r, e, h1, h2⟩ := h
    rw [D.flats, Bool.and_eq_true] at f
    exact ⟨v, r, e, RD.flat f.1 h1, RDs.flat f.2 h2⟩
end
theorem RDs.length : ∀ {ds : List D} {vs : List V}, RDs K H O ds vs → vs.length = ds.length
  | [], _, h => by rw [RDs] at h; rw [h]; rfl
  | d :: ds, vs, h => by
    obtain ⟨v, r, e, _, h2⟩ := h
    rw [e, List.length_cons, List.length_cons, RDs.length h2]
theorem RDs.get : ∀ {ds : List D} {vs : List V} {i : Nat} {d : D}, RDs K H O ds vs → ds[i]? = some d → ∃ v, vs[i]? = some v ∧ RD K H O d v
  | [], _, _, _, _, e => by simp at e
  | d :: ds, vs, 0, d', h, e => by
    obtain ⟨v, r, rfl, h1, _⟩ := h
    simp at e; subst e
    exact ⟨v, rfl, h1⟩
  | d :: ds, vs, i + 1, d', h, e => by
    obtain ⟨v, r, rfl, _, h2⟩ := h
    obtain ⟨w, h3, h4⟩ := RDs.get (i := i) h2 (by simpa using e)
    exact ⟨w, by simpa using h3, h4⟩
theorem RDs.append : ∀ {ds es : List D} {vs ws : List V}, RDs K H O ds vs → RDs K H O es ws → RDs K H O (ds ++ es) (vs ++ ws)
  | [], _, _, _, h, g => by rw [RDs] at h; subst h; exact g
  | d :: ds, es, vs, ws, h, g => by
    obtain ⟨v, r, rfl, h1, h2⟩ := h
    exact ⟨v, r ++ ws, rfl, h1, RDs.append h2 g⟩
theorem RDs.drop : ∀ {ds : List D} {vs : List V} (n : Nat), RDs K H O ds vs → RDs K H O (ds.drop n) (vs.drop n)
  | _, _, 0, h => h
  | [], _, n + 1, h => by rw [RDs] at h; subst h; exact rfl
  | d :: ds, vs, n + 1, h => by
    obtain ⟨v, r, rfl, _, h2⟩ := h
    exact RDs.drop n h2
theorem RDs.take : ∀ {ds : List D} {vs : List V} (n : Nat), RDs K H O ds vs → RDs K H O (ds.take n) (vs.take n)
  | _, _, 0, _ => by simp [RDs]
  | [], _, n + 1, h => by rw [RDs] at h; subst h; simp [RDs]
  | d :: ds, vs, n + 1, h => by
    obtain ⟨v, r, rfl, h1, h2⟩ := h
    exact ⟨v, r.take n, rfl, h1, RDs.take n h2⟩
theorem RDs.reverse {ds : List D} {vs : List V} (h : RDs K H O ds vs) : RDs K H O ds.reverse vs.reverse := by
  induction ds generalizing vs with
  | nil => rw [RDs] at h; subst h; exact rfl
  | cons d ds ih =>
    obtain ⟨v, r, rfl, h1, h2⟩ := h
    rw [List.reverse_cons, List.reverse_cons]
    exact RDs.append (ih h2) ⟨v, [], rfl, h1, rfl⟩
theorem RDs.cut {ds : List D} {vs : List V} (lo hi : Option Int) (h : RDs K H O ds vs) : RDs K H O (Tr.cut ds lo hi) (cutV vs lo hi) := by
  have e := RDs.length h
  unfold Tr.cut cutV
  rw [e]
  exact RDs.take _ (RDs.drop _ h)
theorem RDs.cons {d : D} {v : V} {ds : List D} {vs : List V} (h : RD K H O d v) (r : RDs K H O ds vs) : RDs K H O (d :: ds) (v :: vs) := ⟨v, vs, rfl, h, r⟩
theorem RDs.nil : RDs K H O [] [] := rfl
theorem RDk.length : ∀ {ds : List (Sum Int Str × D)} {vs : List (Key × V)}, RDk K H O ds vs → vs.length = ds.length
  | [], _, h => by rw [RDk] at h; rw [h]; rfl
  | (k, d) :: ds, vs, h => by
    obtain ⟨v, r, e, _, h2⟩ := h
    rw [e, List.length_cons, List.length_cons, RDk.length h2]
theorem RD.rr {d : D} {v : V} (h : RD K H O d v) : RR K H O d v := .inl h
theorem RDs.rr : ∀ {ds : List D} {vs : List V}, RDs K H O ds vs → RRs K H O ds vs
  | [], _, h => h
  | d :: ds, vs, h => by
    obtain ⟨v, r, e, h1, h2⟩ := h
    exact ⟨v, r, e, .inl h1, RDs.rr h2⟩
theorem OwnAt.map (hs : ∀ {d v}, RDs K H O d v → RDs K H' O' d v) (hk : ∀ {d v}, RDk K H O d v → RDk K H' O' d v) {a : Addr} (ho : ∀ o, MutO o → H a = some o → H' a = some o) : ∀ {d : D}, OwnAt K H O a d → OwnAt K H' O' a d
  | .lst ds, ⟨xs, h1, h2⟩ => ⟨xs, ho _ trivial h1, hs h2⟩
  | .dct ds, ⟨xs, h1, h2⟩ => ⟨xs, ho _ trivial h1, hk h2⟩
  | .non, h | .bl _, h | .int _, h | .str _, h | .tup _, h => h.elim
theorem OwnAt.same (s : Same H H') {a : Addr} {d : D} (h : OwnAt K H O a d) : OwnAt K H' O a d := OwnAt.map (fun q => q.same s) (fun q => q.same s) (fun _ _ q => s _ _ q) h
theorem OwnAt.new {p : Addr} (hp : H p = none) {a : Addr} {d : D} (h : OwnAt K H O a d) : OwnAt K H (plus O p) a d := OwnAt.map (fun q => q.new hp) (fun q => q.new hp) (fun _ _ q => q) h
theorem OwnAt.weak (s : ∀ a, O' a → O a) {a : Addr} {d : D} (h : OwnAt K H O a d) : OwnAt K H O' a d := OwnAt.map (fun q => q.weak s) (fun q => q.weak s) (fun _ _ q => q) h
theorem OwnAt.updM {p : Addr} {o o' : HO} (hO : O p) (hp : H p = some o) (hm : MutO o) {a : Addr} (hne : a ≠ p) {d : D} (h : OwnAt K H O a d) : OwnAt K (L2.upd H p o') O a d := OwnAt.map (fun q => q.updM hO hp hm) (fun q => q.updM hO hp hm) (fun _ _ q => by rw [upd_ne hne]; exact q) h
theorem OwnAt.obj {a : Addr} : ∀ {d : D}, OwnAt K H O a d → ∃ o, H a = some o ∧ MutO o
  | .lst ds, ⟨xs, h1, h2⟩ => ⟨_, h1, trivial⟩
  | .dct ds, ⟨xs, h1, h2⟩ => ⟨_, h1, trivial⟩
  | .non, h | .bl _, h | .int _, h | .str _, h | .tup _, h => h.elim
theorem OwnAt.rd {a : Addr} (hn : ¬ O a) : ∀ {d : D}, OwnAt K H O a d → RD K H O d (.ref a)
  | .lst ds, ⟨xs, h1, h2⟩ => ⟨a, xs, rfl, .inl ⟨hn, .inl h1⟩, h2⟩
  | .dct ds, ⟨xs, h1, h2⟩ => ⟨a, xs, rfl, ⟨hn, h1⟩, h2⟩
  | .non, h | .bl _, h | .int _, h | .str _, h | .tup _, h => h.elim
theorem RR.same (s : Same H H') {d : D} {v : V} (h : RR K H O d v) : RR K H' O d v := by
  rcases h with h | ⟨a, e, h⟩
  · exact .inl (h.same s)
  · exact .inr ⟨a, e, h.same s⟩
theorem RR.bare {d : D} {v : V} (h : RR K H O d v) : RD K H (fun _ => False) d v := by
  rcases h with h | ⟨a, rfl, h⟩
  · exact h.weak fun _ z => z.elim
  · exact OwnAt.rd (fun z => z) (h.weak fun _ z => z.elim)
theorem RRs.bare : ∀ {ds : List D} {vs : List V}, RRs K H O ds vs → RDs K H (fun _ => False) ds vs
  | [], _, h => h
  | d :: ds, vs, h => by
    obtain ⟨v, r, e, h1, h2⟩ := h
    exact ⟨v, r, e, h1.bare, RRs.bare h2⟩
theorem RR.lst {ds : List D} {v : V} (h : RR K H O (.lst ds) v) : ∃ a xs, v = .ref a ∧ SqL K H a xs ∧ RDs K H O ds xs := by
  rcases h with ⟨a, xs, e, s, r⟩ | ⟨a, e, xs, h1, h2⟩
  · refine ⟨a, xs, e, ?_, r⟩
    rcases s with ⟨_, s⟩ | s
    · exact .inl s
    · exact .inr s
  · exact ⟨a, xs, e, .of h1, h2⟩
theorem RR.dct {kvs : List (Sum Int Str × D)} {v : V} (h : RR K H O (.dct kvs) v) : ∃ a ps, v = .ref a ∧ H a = some (.dK ps) ∧ RDk K H O kvs ps := by
  rcases h with ⟨a, ps, e, s, r⟩ | ⟨a, e, ps, h1, h2⟩
  · exact ⟨a, ps, e, s.2, r⟩
  · exact ⟨a, ps, e, h1, h2⟩
theorem RR.tup {ds : List D} {v : V} (h : RR K H O (.tup ds) v) : ∃ a xs, v = .ref a ∧ SqT K H a xs ∧ RDs K H O ds xs := by
  rcases h with h | ⟨a, e, h⟩
  · exact h
  · exact h.elim
def D.still : D → Bool
  | .lst _ => false
  | .dct _ => false
  | _ => true
theorem RR.rd {d : D} {v : V} (h : RR K H O d v) (n : d.still = true) : RD K H O d v := by
  rcases h with h | ⟨a, e, h⟩
  · exact h
  · cases d with
    | lst _ => cases n
    | dct _ => cases n
    | non => exact h.elim
    | bl _ => exact h.elim
    | int _ => exact h.elim
    | str _ => exact h.elim
    | tup _ => exact h.elim
end
def RS (K : PySem.W.Frag) (H : Hp) (O : Addr → Prop) (own : Option Addr) : Sl → Option V → Prop
  | .no, _ => True
  | .v d, ov => ∃ v, ov = some v ∧ RD K H O d v
  | .o d, ov => ∃ a, own = some a ∧ ov = some (.ref a) ∧ OwnAt K H O a d
def stAt (σ : L2.St) (i : Nat) : Option V := (σ[i]?).join
structure Fm (K : PySem.W.Frag) (H₀ : Hp) (O₀ : Addr → Prop) (H : Hp) (O : Addr → Prop) (own : Nat → Option Addr) (e : Nv) (σ : L2.St) : Prop where
  len : e.length = σ.length
  sl : ∀ i, RS K H O (own i) (e.at i) (stAt σ i)
  inj : ∀ i j a, own i = some a → own j = some a → i = j
  same : Same H₀ H
  sub : ∀ a, O₀ a → O a
  trk0 : ∀ a, O₀ a → ∃ o, H₀ a = some o
  trk : ∀ a, O a → ∃ o, H a = some o
  new : ∀ i a, own i = some a → O a ∧ H₀ a = none
section
variable {K : PySem.W.Frag} {H₀ H H' : Hp} {O₀ O O' : Addr → Prop} {own : Nat → Option Addr} {e : Nv} {σ : L2.St}
theorem RS.same (s : Same H H') {o : Option Addr} {x : Sl} {ov : Option V} (h : RS K H O o x ov) : RS K H' O o x ov := by
  cases x with
  | no => trivial
  | v d => obtain ⟨v, e, r⟩ := h; exact ⟨v, e, r.same s⟩
  | o d => obtain ⟨a, e1, e2, h⟩ := h; exact ⟨a, e1, e2, h.same s⟩
theorem Fm.grow (F : Fm K H₀ O₀ H O own e σ) (s : Same H H') : Fm K H₀ O₀ H' O own e σ :=
  ⟨F.len, fun i => (F.sl i).same s, F.inj, F.same.trans s, F.sub, F.trk0, fun a h => let ⟨xs, q⟩ := F.trk a h; ⟨xs, s _ _ q⟩, F.new⟩
end
end Tr
namespace Tr
open PySem PySem.Spec PyProof.Rows L2
section
variable {K : PySem.W.Frag} {H₀ H H' : Hp} {O₀ O O' : Addr → Prop} {own : Nat → Option Addr} {e : Nv} {σ : L2.St}
theorem at_set_same {e : Nv} {i : Nat} {x : Sl} (h : i < e.length) : Nv.at (e.set i x) i = x := by
  unfold Nv.at; rw [List.getElem?_set_self h]; rfl
theorem at_set_ne {e : Nv} {i j : Nat} {x : Sl} (h : i ≠ j) : Nv.at (e.set i x) j = Nv.at e j := by
  unfold Nv.at; rw [List.getElem?_set_ne h]
theorem at_out {e : Nv} {i : Nat} (h : ¬ i < e.length) : Nv.at e i = .no := by
  unfold Nv.at; rw [List.getElem?_eq_none (by omega)]; rfl
theorem st_set_same {σ : L2.St} {i : Nat} {v : V} (h : i < σ.length) : stAt (σ.set i (some v)) i = some v := by
  unfold stAt; rw [List.getElem?_set_self h]; rfl
theorem st_set_ne {σ : L2.St} {i j : Nat} {v : Option V} (h : i ≠ j) : stAt (σ.set i v) j = stAt σ j := by
  unfold stAt; rw [List.getElem?_set_ne h]
theorem st_get {σ : L2.St} {i : Nat} {v : V} (h : stAt σ i = some v) : σ[i]? = some (some v) := by
  unfold stAt at h
  cases q : σ[i]? with
  | none => rw [q] at h; cases h
  | some o => rw [q] at h; cases o with
    | none => cases h
    | some w => cases h; rfl
theorem RS.map (ht : ∀ {d v}, RD K H O d v → RD K H' O' d v) (hs : ∀ {d v}, RDs K H O d v → RDs K H' O' d v) (hk : ∀ {d v}, RDk K H O d v → RDk K H' O' d v) {o : Option Addr} (ho : ∀ a u, o = some a → MutO u → H a = some u → H' a = some u) {x : Sl} {ov : Option V} (h : RS K H O o x ov) : RS K H' O' o x ov := by
  cases x with
  | no => trivial
  | v d => obtain ⟨v, e, r⟩ := h; exact ⟨v, e, ht r⟩
  | o d => obtain ⟨a, e1, e2, h⟩ := h; exact ⟨a, e1, e2, h.map hs hk fun u hm q => ho a u e1 hm q⟩
theorem Fm.setV (F : Fm K H₀ O₀ H O own e σ) (i : Nat) {d : D} {v : V} (r : RD K H O d v) : Fm K H₀ O₀ H O (fun j => if j = i then none else own j) (e.set i (.v d)) (σ.set i (some v)) where
  len := by rw [List.length_set, List.length_set]; exact F.len
  sl := fun j => by
    by_cases h : i = j
    · subst h
      by_cases hi : i < e.length
      · rw [at_set_same hi, st_set_same (by rw [← F.len]; exact hi)]; exact ⟨v, rfl, r⟩
      · rw [at_out (by rw [List.length_set]; exact hi)]; trivial
    · rw [at_set_ne h, st_set_ne h, if_neg (Ne.symm h)]; exact F.sl j
  inj := fun j k a h1 h2 => by
    by_cases h : j = i
    · rw [if_pos h] at h1; cases h1
    · by_cases h' : k = i
      · rw [if_pos h'] at h2; cases h2
      · rw [if_neg h] at h1; rw [if_neg h'] at h2; exact F.inj j k a h1 h2
  same := F.same
  sub := F.sub
  trk0 := F.trk0
  trk := F.trk
  new := fun j a h1 => by
    by_cases h : j = i
    · rw [if_pos h] at h1; cases h1
    · rw [if_neg h] at h1; exact F.new j a h1
theorem Fm.setO (F : Fm K H₀ O₀ H O own e σ) (s : Same H H') (i : Nat) {d : D} {p : Addr} (hp : H p = none) (r : OwnAt K H' (plus O p) p d) :
    Fm K H₀ O₀ H' (plus O p) (fun j => if j = i then some p else own j) (e.set i (.o d)) (σ.set i (some (.ref p))) where
  len := by rw [List.length_set, List.length_set]; exact F.len
  sl := fun j => by
    by_cases h : i = j
    · subst h
      rw [if_pos rfl]
      by_cases hi : i < e.length
      · rw [at_set_same hi, st_set_same (by rw [← F.len]; exact hi)]; exact ⟨p, rfl, rfl, r⟩
      · rw [at_out (by rw [List.length_set]; exact hi)]; trivial
    · rw [at_set_ne h, st_set_ne h, if_neg (Ne.symm h)]
      exact RS.map (fun q => (q.new hp).same s) (fun q => (q.new hp).same s) (fun q => (q.new hp).same s) (fun a u _ _ q => s _ _ q) (F.sl j)
  inj := fun j k a h1 h2 => by
    have no : ∀ j, own j ≠ some p := fun j q => by
      obtain ⟨xs, w⟩ := F.trk p (F.new j p q).1
      rw [hp] at w; cases w
    by_cases h : j = i
    · rw [if_pos h] at h1
      cases h1
      by_cases h' : k = i
      · rw [h, h']
      · rw [if_neg h'] at h2; exact absurd h2 (no k)
    · rw [if_neg h] at h1
      by_cases h' : k = i
      · rw [if_pos h'] at h2; cases h2; exact absurd h1 (no j)
      · rw [if_neg h'] at h2; exact F.inj j k a h1 h2
  same := F.same.trans s
  sub := fun a h => .inl (F.sub a h)
  trk0 := F.trk0
  trk := fun a h => by
    rcases h with h | h
    · obtain ⟨ys, q⟩ := F.trk a h
      exact ⟨ys, s _ _ q⟩
    · subst h
      obtain ⟨o, h1, _⟩ := r.obj
      exact ⟨o, h1⟩
  new := fun j a h1 => by
    by_cases h : j = i
    · rw [if_pos h] at h1; cases h1; exact ⟨.inr rfl, F.same.free hp⟩
    · rw [if_neg h] at h1; exact ⟨.inl (F.new j a h1).1, (F.new j a h1).2⟩
theorem Fm.mutA (F : Fm K H₀ O₀ H O own e σ) (i : Nat) {d : D} (hi : e.at i = .o d) : ∃ p, stAt σ i = some (.ref p) ∧ OwnAt K H O p d ∧ O p ∧
    ∀ d' o', (∀ o, H p = some o → OwnAt K (upd H p o') O p d') → Fm K H₀ O₀ (upd H p o') O own (e.set i (.o d')) σ := by
  have q := F.sl i
  rw [hi] at q
  obtain ⟨p, e1, e2, h1⟩ := q
  obtain ⟨o, ho, hm⟩ := h1.obj
  have hn := F.new i p e1
  refine ⟨p, e2, h1, hn.1, fun d' o' r => ?_⟩
  have hlen : i < e.length := by
    by_cases h : i < e.length
    · exact h
    · rw [at_out h] at hi; cases hi
  refine ⟨by rw [List.length_set]; exact F.len, fun j => ?_, F.inj, fun b u hb => ?_, F.sub, F.trk0, fun a ha => ?_, F.new⟩
  · by_cases h : i = j
    · subst h
      rw [at_set_same hlen, e2]
      exact ⟨p, e1, rfl, r o ho⟩
    · rw [at_set_ne h]
      refine RS.map (fun q => q.updM hn.1 ho hm) (fun q => q.updM hn.1 ho hm) (fun q => q.updM hn.1 ho hm) (fun a u ea _ q => ?_) (F.sl j)
      have : a ≠ p := fun z => h (F.inj i j p e1 (z ▸ ea))
      rw [upd_ne this]; exact q
  · rw [upd_ne (fun z => by rw [z, hn.2] at hb; cases hb)]; exact F.same b u hb
  · by_cases h : a = p
    · subst h; exact ⟨_, upd_same⟩
    · obtain ⟨ys, q⟩ := F.trk a ha
      exact ⟨ys, by rw [upd_ne h]; exact q⟩
theorem Fm.mut (F : Fm K H₀ O₀ H O own e σ) (i : Nat) {ds : List D} (hi : e.at i = .o (.lst ds)) : ∃ p xs, stAt σ i = some (.ref p) ∧ H p = some (.lst xs) ∧ RDs K H O ds xs ∧ O p ∧
    ∀ ds' xs', RDs K H O ds' xs' → Fm K H₀ O₀ (upd H p (.lst xs')) O own (e.set i (.o (.lst ds'))) σ := by
  obtain ⟨p, e2, ⟨xs, h1, h2⟩, hO, k⟩ := F.mutA i hi
  exact ⟨p, xs, e2, h1, h2, hO, fun ds' xs' r => k (.lst ds') (.lst xs') fun _ _ => ⟨xs', upd_same, r.upd hO h1⟩⟩
theorem Fm.seal (F : Fm K H₀ O₀ H O own e σ) (i : Nat) {d : D} (hi : e.at i = .o d) : ∃ O' own', Fm K H₀ O₀ H O' own' (e.set i (.v d)) σ ∧ ∀ a, O' a → O a := by
  have q := F.sl i
  rw [hi] at q
  obtain ⟨p, e1, e2, h1⟩ := q
  have hn := F.new i p e1
  have hlen : i < e.length := by
    by_cases h : i < e.length
    · exact h
    · rw [at_out h] at hi; cases hi
  refine ⟨minus O p, fun j => if j = i then none else own j, ⟨by rw [List.length_set]; exact F.len, fun j => ?_, fun j k a q1 q2 => ?_, F.same, fun a ha => ⟨F.sub a ha, fun z => ?_⟩, F.trk0, fun a ha => F.trk a ha.1, fun j a q1 => ?_⟩, fun a ha => ha.1⟩
  · by_cases h : i = j
    · subst h
      rw [at_set_same hlen, e2]
      exact ⟨.ref p, rfl, OwnAt.rd (fun z => z.2 rfl) (h1.weak fun _ z => z.1)⟩
    · rw [at_set_ne h, if_neg (Ne.symm h)]
      exact RS.map (fun q => q.weak fun _ z => z.1) (fun q => q.weak fun _ z => z.1) (fun q => q.weak fun _ z => z.1) (fun a ys _ _ q => q) (F.sl j)
  · by_cases h : j = i
    · rw [if_pos h] at q1; cases q1
    · by_cases h' : k = i
      · rw [if_pos h'] at q2; cases q2
      · rw [if_neg h] at q1; rw [if_neg h'] at q2; exact F.inj j k a q1 q2
  · obtain ⟨o, w⟩ := F.trk0 a ha
    rw [z, hn.2] at w; cases w
  · by_cases h : j = i
    · rw [if_pos h] at q1; cases q1
    · rw [if_neg h] at q1
      exact ⟨⟨(F.new j a q1).1, fun z => h (F.inj j i p (z ▸ q1) e1)⟩, (F.new j a q1).2⟩
theorem Fm.val (F : Fm K H₀ O₀ H O own e σ) {i : Nat} {d : D} (h : (e.at i).val = .ok d) : ∃ v, σ[i]? = some (some v) ∧ RD K H O d v := by
  have q := F.sl i
  cases z : e.at i with
  | no => rw [z] at h; cases h
  | o d => rw [z] at h; cases h
  | v d' =>
    rw [z] at h q
    cases h
    obtain ⟨v, e1, r⟩ := q
    exact ⟨v, st_get e1, r⟩
theorem Fm.any (F : Fm K H₀ O₀ H O own e σ) {i : Nat} {d : D} (h : (e.at i).any = .ok d) : ∃ v, σ[i]? = some (some v) ∧ RR K H O d v := by
  have q := F.sl i
  cases z : e.at i with
  | no => rw [z] at h; cases h
  | o d' =>
    rw [z] at h q
    cases h
    obtain ⟨a, e1, e2, h1⟩ := q
    exact ⟨.ref a, st_get e2, .inr ⟨a, rfl, h1⟩⟩
  | v d' =>
    rw [z] at h q
    cases h
    obtain ⟨v, e1, r⟩ := q
    exact ⟨v, st_get e1, .inl r⟩
theorem Sl.own_ok {x : Sl} {a : List D} (h : x.own = .ok a) : x = .o (.lst a) := by
  unfold Sl.own at h
  split at h
  · cases h; rfl
  · cases h
theorem Sl.ownA_ok {x : Sl} {a : D} (h : x.ownA = .ok a) : x = .o a := by
  unfold Sl.ownA at h
  split at h
  · cases h; rfl
  · cases h
end
def NewL (K : PySem.W.Frag) (H H' : Hp) (O : Addr → Prop) (d : D) (v : V) : Prop := d.still = false → ∃ a, v = .ref a ∧ H a = none ∧ OwnAt K H' (plus O a) a d
theorem NewL.back {K : PySem.W.Frag} {H1 H H' : Hp} {O : Addr → Prop} {d : D} {v : V} (s : Same H1 H) (n : NewL K H H' O d v) : NewL K H1 H' O d v := fun z => by
  obtain ⟨a, h1, h2, h3⟩ := n z
  exact ⟨a, h1, s.free h2, h3⟩
theorem NewL.weak {K : PySem.W.Frag} {H H' : Hp} {O O' : Addr → Prop} {d : D} {v : V} (s : ∀ a, O' a → O a) (n : NewL K H H' O d v) : NewL K H H' O' d v := fun z => by
  obtain ⟨a, h1, h2, h3⟩ := n z
  exact ⟨a, h1, h2, h3.weak fun b hb => hb.imp (s b) id⟩
theorem NewL.still {K : PySem.W.Frag} {H H' : Hp} {O : Addr → Prop} {d : D} {v : V} (h : d.still = true) : NewL K H H' O d v := fun z => by rw [h] at z; cases z
section
variable (T : Tab) (cf : Nat → List D → Res D) (K : PySem.W.Frag) (H₀ : Hp) (O₀ : Addr → Prop)
def tE (x : E) : TE := fun σ H Q => ∃ O own e d, Fm K H₀ O₀ H O own e σ ∧ evE T cf x e = .ok d ∧ ∀ v H', Same H H' → RD K H' O d v → (freshE T x = true → NewL K H H' O d v) → Q v H'
def tR (x : E) : TE := fun σ H Q => ∃ O own e d, Fm K H₀ O₀ H O own e σ ∧ evE T cf x e = .ok d ∧ ∀ v H', Same H H' → RR K H' O d v → Q v H'
def tT (x : E) : TT := fun σ H Q => ∃ O own e d k, Fm K H₀ O₀ H O own e σ ∧ evE T cf x e = .ok d ∧ d.truth = .ok k ∧ ∀ H', Same H H' → Q k H'
def tAv (x : E) : TA := fun σ H Q => ∃ O own e ds, Fm K H₀ O₀ H O own e σ ∧ evA T cf x e = .ok ds ∧ ∀ vs H', Same H H' → RDs K H' O ds vs → Q vs H'
def tAr (x : E) : TA := fun σ H Q => ∃ O own e ds, Fm K H₀ O₀ H O own e σ ∧ evA T cf x e = .ok ds ∧ ∀ vs H', Same H H' → RRs K H' O ds vs → Q vs H'
end
section
variable (T : Tab) (cf : Nat → List D → Res D) (X : Cx)
def SE (x : E) (p : Expr) : Prop := ∀ H₀ O₀, PE X p (tE T cf X.K H₀ O₀ x)
def SR (x : E) (p : Expr) : Prop := ∀ H₀ O₀, PE X p (tR T cf X.K H₀ O₀ x)
def ST (x : E) (p : Expr) : Prop := ∀ H₀ O₀, PT X p (tT T cf X.K H₀ O₀ x)
def SAv (x : E) (p : List Expr) : Prop := ∀ H₀ O₀, PA X p (tAv T cf X.K H₀ O₀ x)
def SAr (x : E) (p : List Expr) : Prop := ∀ H₀ O₀, PA X p (tAr T cf X.K H₀ O₀ x)
end
section
variable {T : Tab} {cf : Nat → List D → Res D} {X : Cx} {x y z : E} {p q r : Expr} {pos : Pos}
theorem PE.imp {t t' : TE} (h : ∀ σ H Q, t' σ H Q → t σ H Q) (hp : PE X p t) : PE X p t' := fun pins s σ H Q I q => hp pins s σ H Q I (h σ H Q q)
theorem PT.imp {t t' : TT} (h : ∀ σ H Q, t' σ H Q → t σ H Q) (hp : PT X p t) : PT X p t' := fun pins s σ H Q I q => hp pins s σ H Q I (h σ H Q q)
theorem SE.sr (h : SE T cf X x p) : SR T cf X x p := fun H₀ O₀ => PE.imp (fun σ H Q ⟨O, own, e, d, F, ev, q⟩ => ⟨O, own, e, d, F, ev, fun v H' s r _ => q v H' s r.rr⟩) (h H₀ O₀)
theorem SAv.sr {ps : List Expr} (h : SAv T cf X x ps) : SAr T cf X x ps := fun H₀ O₀ pos pins s σ H Q I ⟨O, own, e, ds, F, ev, q⟩ => h H₀ O₀ pos pins s σ H Q I ⟨O, own, e, ds, F, ev, fun vs H' s r => q vs H' s r.rr⟩
theorem se_var {i : Nat} {n : Str} (hN : X.N[i]? = some n) (hv : Vis X.env.scope n) (hd : (n == ("__debug__" : Str)) = false) (hc : (n == ("__classdict__" : Str)) = false) : SE T cf X (.var i) (.Name n pos) := fun H₀ O₀ =>
  PE.imp (fun σ H Q ⟨O, own, e, d, F, ev, q⟩ => by
    obtain ⟨v, h1, h2⟩ := F.val (i := i) (by (first | rw [xE_var] at ev | rw [xE_rd] at ev | rw [xE_con] at ev | rw [xE_glob] at ev | rw [xE_bin] at ev | rw [xE_cmp] at ev | rw [xE_chain] at ev | rw [xE_and] at ev | rw [xE_or] at ev | rw [xE_not] at ev | rw [xE_neg] at ev | rw [xE_ife] at ev | rw [xE_ix] at ev | rw [xE_sl] at ev | rw [xE_omit] at ev | rw [xE_tup] at ev | rw [xE_lst] at ev | rw [xE_call] at ev | rw [xE_callB] at ev | rw [xE_bt] at ev | rw [xE_isi] at ev | rw [xE_dnew] at ev | rw [xE_mth] at ev | rw [xE_callT] at ev | rw [xE_gidx] at ev | rw [xE_lset] at ev | rw [xE_maxd] at ev | rw [xE_lrng] at ev | rw [xE_comp] at ev); exact ev)
    exact ⟨v, h1, q v H (Same.refl H) h2 (fun z => by cases z)⟩) (pe_var hN hv hd hc)
theorem sr_rd {i : Nat} {n : Str} (hN : X.N[i]? = some n) (hv : Vis X.env.scope n) (hd : (n == ("__debug__" : Str)) = false) (hc : (n == ("__classdict__" : Str)) = false) : SR T cf X (.rd i) (.Name n pos) := fun H₀ O₀ =>
  PE.imp (fun σ H Q ⟨O, own, e, d, F, ev, q⟩ => by
    obtain ⟨v, h1, h2⟩ := F.any (i := i) (by (first | rw [xE_var] at ev | rw [xE_rd] at ev | rw [xE_con] at ev | rw [xE_glob] at ev | rw [xE_bin] at ev | rw [xE_cmp] at ev | rw [xE_chain] at ev | rw [xE_and] at ev | rw [xE_or] at ev | rw [xE_not] at ev | rw [xE_neg] at ev | rw [xE_ife] at ev | rw [xE_ix] at ev | rw [xE_sl] at ev | rw [xE_omit] at ev | rw [xE_tup] at ev | rw [xE_lst] at ev | rw [xE_call] at ev | rw [xE_callB] at ev | rw [xE_bt] at ev | rw [xE_isi] at ev | rw [xE_dnew] at ev | rw [xE_mth] at ev | rw [xE_callT] at ev | rw [xE_gidx] at ev | rw [xE_lset] at ev | rw [xE_maxd] at ev | rw [xE_lrng] at ev | rw [xE_comp] at ev); exact ev)
    exact ⟨v, h1, q v H (Same.refl H) h2⟩) (pe_var hN hv hd hc)
def cstIs : D → Const → Bool
  | .non, .none => true
  | .bl a, .bool b => a == b
  | .int i, .int j => i == j
  | .str a, .str b => a == b
  | _, _ => false
theorem se_con {d : D} {c : Const} {k : Nat} (h : cstIs d c = true) : SE T cf X (.con d) (.Constant c k pos) := fun H₀ O₀ => by
  have fin : ∀ {v : V} {σ : L2.St} {H : Hp} {Q : VK}, (∀ H O, RD X.K H O d v) → tE T cf X.K H₀ O₀ (.con d) σ H Q → Q v H := fun hv ⟨O, own, e, d', F, ev, q⟩ => by
    (first | rw [xE_var] at ev | rw [xE_rd] at ev | rw [xE_con] at ev | rw [xE_glob] at ev | rw [xE_bin] at ev | rw [xE_cmp] at ev | rw [xE_chain] at ev | rw [xE_and] at ev | rw [xE_or] at ev | rw [xE_not] at ev | rw [xE_neg] at ev | rw [xE_ife] at ev | rw [xE_ix] at ev | rw [xE_sl] at ev | rw [xE_omit] at ev | rw [xE_tup] at ev | rw [xE_lst] at ev | rw [xE_call] at ev | rw [xE_callB] at ev | rw [xE_bt] at ev | rw [xE_isi] at ev | rw [xE_dnew] at ev | rw [xE_mth] at ev | rw [xE_callT] at ev | rw [xE_gidx] at ev | rw [xE_lset] at ev | rw [xE_maxd] at ev | rw [xE_lrng] at ev | rw [xE_comp] at ev); cases ev
    exact q _ _ (Same.refl _) (hv _ _) (fun z => by cases z)
  cases d <;> cases c <;> first
    | (exact absurd (show false = true from h) Bool.false_ne_true)
    | (exact PE.imp (fun σ H Q w => fin (v := .non) (fun _ _ => rfl) w) pe_non)
    | (have e := eq_of_beq (show _ == _ from h); subst e; first
        | exact PE.imp (fun σ H Q w => fin (fun _ _ => rfl) w) pe_bl
        | exact PE.imp (fun σ H Q w => fin (fun _ _ => rfl) w) pe_int
        | exact PE.imp (fun σ H Q w => fin (fun _ _ => rfl) w) pe_str)
def GlobIs (X : Cx) (n : Str) (d : D) : Prop := ∃ v u, X.mg n = some u ∧ RelV v u ∧ ∀ H O, RD X.K H O d v
def rD2 (K : PySem.W.Frag) (f : D → D → Res D) (fr : Bool) : R2 := fun x y H Q => ∃ O d1 d2 d, RR K H O d1 x ∧ RR K H O d2 y ∧ f d1 d2 = .ok d ∧ (∀ a, O a → ∃ o, H a = some o) ∧ ∀ v H', Same H H' → RD K H' O d v → (fr = true → NewL K H H' O d v) → Q v H'
theorem se_op2 {w : E} {pe : Expr} {f : D → D → Res D} (hw : ∀ e, evE T cf w e = (do let a ← evE T cf x e; let b ← evE T cf y e; f a b))
    (hop : ∀ {ta tb : TE}, PE X p ta → PE X q tb → PE X pe (tOp (rD2 X.K f (freshE T w)) ta tb)) (ha : SR T cf X x p) (hb : SR T cf X y q) : SE T cf X w pe := fun H₀ O₀ => by
  refine PE.imp (fun σ H Q hq => ?_) (hop (ha H₀ O₀) (hb H₀ O₀))
  obtain ⟨O, own, e, d, F, ev, k⟩ := hq
  rw [hw] at ev
  obtain ⟨d1, e1, ev⟩ := Res.bind_ok ev
  obtain ⟨d2, e2, ev⟩ := Res.bind_ok ev
  refine ⟨O, own, e, d1, F, e1, fun v1 H1 s1 r1 => ?_⟩
  refine ⟨O, own, e, d2, F.grow s1, e2, fun v2 H2 s2 r2 => ?_⟩
  refine ⟨O, d1, d2, d, r1.same s2, r2, ev, fun a ha => ?_, fun v H' s3 r3 n3 => ?_⟩
  · exact (F.grow (s1.trans s2)).trk a ha
  · exact k v H' ((s1.trans s2).trans s3) r3 fun fr => (n3 fr).back (s1.trans s2)
end
end Tr
namespace Tr
open PySem PySem.Spec PyProof.Rows L2
abbrev no : Addr → Prop := fun _ => False
section
variable {X : Cx} {pins : List (Addr × Obj)} {σ : L2.St} {H : Hp} {s : Shared}
theorem sq_apart (I : Inv X pins σ H s) {a : Addr} {xs ys : List V} (h1 : SqL X.K H a xs) (h2 : SqT X.K H a ys) : False := by
  obtain ⟨its, _, pl, _⟩ := I.list h1
  obtain ⟨its', _, pt, _⟩ := I.tuple h2
  exact SeqAt.ne_of_list_tuple pl.isList pt rfl
theorem RD.sql {K : PySem.W.Frag} {O : Addr → Prop} {ds : List D} {v : V} (h : RD K H O (.lst ds) v) : ∃ a xs, v = .ref a ∧ SqL K H a xs ∧ RDs K H O ds xs := RR.lst (.inl h)
theorem dk_class (I : Inv X pins σ H s) {a : Addr} {ps : List (Key × V)} (h : H a = some (.dK ps)) : ∃ o, s.heap.get? a = some o ∧ o.cls = .type "dict" := by
  obtain ⟨_, _, vs, _, o, es, ep, e, c, _⟩ := (show ObjOk X.prog X.w H s.heap a (.dK ps) from I.hok a _ h)
  exact ⟨o, e, c.1⟩
theorem dk_lst (I : Inv X pins σ H s) {a : Addr} {ps : List (Key × V)} {xs : List V} (h : H a = some (.dK ps)) (h2 : SqL X.K H a xs) : False := by
  obtain ⟨its, _, pl, _⟩ := I.list h2
  obtain ⟨o, e, c⟩ := dk_class I h
  obtain ⟨o', e', c', _⟩ := pl.isList
  rw [e] at e'; cases e'
  rw [c] at c'
  injection c' with z
  exact absurd z (by decide)
theorem dk_tup (I : Inv X pins σ H s) {a : Addr} {ps : List (Key × V)} {xs : List V} (h : H a = some (.dK ps)) (h2 : SqT X.K H a xs) : False := by
  obtain ⟨its, _, pl, _⟩ := I.tuple h2
  obtain ⟨o, e, c⟩ := dk_class I h
  obtain ⟨o', e', c', _⟩ := pl
  rw [e] at e'; cases e'
  rw [c] at c'
  injection c' with z
  exact absurd z (by decide)
mutual
theorem RD.inj (I : Inv X pins σ H s) : ∀ {d d' : D} {v : V}, RD X.K H no d v → RD X.K H no d' v → d = d'
  | .non, d', v, h, h' => by cases (show v = .non from h); cases d' <;> first | (obtain ⟨a, xs, e, _⟩ := h'; cases e; done) | rfl | (cases h'; done)
  | .bl b, d', v, h, h' => by cases (show v = .bl b from h); cases d' <;> first | (obtain ⟨a, xs, e, _⟩ := h'; cases e; done) | rfl | (cases h'; rfl) | (cases h'; done)
  | .int b, d', v, h, h' => by cases (show v = .int b from h); cases d' <;> first | (obtain ⟨a, xs, e, _⟩ := h'; cases e; done) | rfl | (cases h'; rfl) | (cases h'; done)
  | .str b, d', v, h, h' => by cases (show v = .str b from h); cases d' <;> first | (obtain ⟨a, xs, e, _⟩ := h'; cases e; done) | rfl | (cases h'; rfl) | (cases h'; done)
  | .tup ds, d', v, h, h' => by
    obtain ⟨a, xs, e, q, r⟩ := h
    subst e
    cases d' with
    | tup ds' =>
      obtain ⟨a', xs', e, q', r'⟩ := h'
      cases e
      have := I.tuple_inj q q'
      subst this
      rw [RDs.inj I r r']
    | lst ds' =>
      obtain ⟨a', xs', e, q', r'⟩ := RD.sql h'
      cases e
      exact (sq_apart I q' q).elim
    | non => cases h'
    | bl _ => cases h'
    | int _ => cases h'
    | str _ => cases h'
    | dct _ =>
      obtain ⟨a', xs', e, q', r'⟩ := h'
      cases e
      exact (dk_tup I q'.2 q).elim
  | .lst ds, d', v, h, h' => by
    obtain ⟨a, xs, e, q, r⟩ := RD.sql h
    subst e
    cases d' with
    | lst ds' =>
      obtain ⟨a', xs', e, q', r'⟩ := RD.sql h'
      cases e
      have := I.list_inj q q'
      subst this
      rw [RDs.inj I r r']
    | tup ds' =>
      obtain ⟨a', xs', e, q', r'⟩ := h'
      cases e
      exact (sq_apart I q q').elim
    | non => cases h'
    | bl _ => cases h'
    | int _ => cases h'
    | str _ => cases h'
    | dct _ =>
      obtain ⟨a', xs', e, q', r'⟩ := h'
      cases e
      exact (dk_lst I q'.2 q).elim
  | .dct kvs, d', v, h, h' => by
    obtain ⟨a, xs, e, q, r⟩ := h
    subst e
    cases d' with
    | dct kvs' =>
      obtain ⟨a', xs', e, q', r'⟩ := h'
      cases e
      have := q.2.symm.trans q'.2
      cases this
      rw [RDk.inj I r r']
    | tup ds' =>
      obtain ⟨a', xs', e, q', r'⟩ := h'
      cases e
      exact (dk_tup I q.2 q').elim
    | lst ds' =>
      obtain ⟨a', xs', e, q', r'⟩ := RD.sql h'
      cases e
      exact (dk_lst I q.2 q').elim
    | non => cases h'
    | bl _ => cases h'
    | int _ => cases h'
    | str _ => cases h'
theorem RDs.inj (I : Inv X pins σ H s) : ∀ {ds ds' : List D} {vs : List V}, RDs X.K H no ds vs → RDs X.K H no ds' vs → ds = ds'
  | [], [], _, _, _ => rfl
  | [], _ :: _, _, h, h' => by
    rw [RDs] at h; subst h
    obtain ⟨_, _, e, _⟩ := h'; cases e
  | _ :: _, [], _, h, h' => by
    rw [RDs] at h'; subst h'
    obtain ⟨_, _, e, _⟩ := h; cases e
  | d :: ds, d' :: ds', vs, h, h' => by
    obtain ⟨v, r, rfl, h1, h2⟩ := h
    obtain ⟨v', r', e, h1', h2'⟩ := h'
    cases e
    rw [RD.inj I h1 h1', RDs.inj I h2 h2']
theorem RDk.inj (I : Inv X pins σ H s) : ∀ {ds ds' : List (Sum Int Str × D)} {vs : List (Key × V)}, RDk X.K H no ds vs → RDk X.K H no ds' vs → ds = ds'
  | [], [], _, _, _ => rfl
  | [], _ :: _, _, h, h' => by
    rw [RDk] at h; subst h
    obtain ⟨_, _, e, _⟩ := h'; cases e
  | _ :: _, [], _, h, h' => by
    rw [RDk] at h'; subst h'
    obtain ⟨_, _, e, _⟩ := h; cases e
  | (k, d) :: ds, (k', d') :: ds', vs, h, h' => by
    obtain ⟨v, r, rfl, h1, h2⟩ := h
    obtain ⟨v', r', e, h1', h2'⟩ := h'
    cases e
    rw [RD.inj I h1 h1', RDk.inj I h2 h2']
end
def pairEq (xs ys : List D) (j : Nat) : Bool := match xs[j]?, ys[j]? with
  | some x, some y => D.eqb x y
  | _, _ => false
theorem pairEq_succ (x y : D) (xs ys : List D) (j : Nat) : pairEq (x :: xs) (y :: ys) (j + 1) = pairEq xs ys j := by simp [pairEq]
theorem eqs_all : ∀ xs ys : List D, xs.length = ys.length → (List.range xs.length).all (pairEq xs ys) = D.eqs xs ys
  | [], [], _ => by simp [D.eqs]
  | [], _ :: _, h => by simp at h
  | _ :: _, [], h => by simp at h
  | x :: xs, y :: ys, h => by
    rw [List.length_cons, List.range_succ_eq_map, List.all_cons, List.all_map, D.eqs, ← eqs_all xs ys (by simpa using h)]
    congr 1
theorem eqs_len : ∀ xs ys : List D, xs.length ≠ ys.length → D.eqs xs ys = false
  | [], [], h => by simp at h
  | [], _ :: _, _ => by simp [D.eqs]
  | _ :: _, [], _ => by simp [D.eqs]
  | x :: xs, y :: ys, h => by rw [D.eqs, eqs_len xs ys (by simpa using h), Bool.and_false]
theorem min_len {xs ys : List D} : ((List.range (min xs.length ys.length)).all (pairEq xs ys) && xs.length == ys.length) = D.eqs xs ys := by
  by_cases h : xs.length = ys.length
  · rw [← eqs_all xs ys h, h, Nat.min_self]; simp
  · rw [eqs_len xs ys h]; simp [h]
inductive Sees (X : Cx) (H : Hp) (s : Shared) : D → Value → Prop
  | non : Sees X H s .non .none
  | bl (b) : Sees X H s (.bl b) (.bool b)
  | int (i t) : Sees X H s (.int i) (.int i t)
  | str (x t) : Sees X H s (.str x) (.str x t)
  | tup (ds : List D) (a : Addr) (xs : List V) (its : List Value) : SqT X.K H a xs → RDs X.K H no ds xs → Vals xs its → IsTup s.heap a its.toArray → Sees X H s (.tup ds) (.ref a)
  | lst (ds : List D) (a : Addr) (xs : List V) (its : List Value) : SqL X.K H a xs → RDs X.K H no ds xs → Vals xs its → PlainL s.heap a its.toArray → Sees X H s (.lst ds) (.ref a)
  | dct (ds : List (Sum Int Str × D)) (a : Addr) (ps : List (Key × V)) : H a = some (.dK ps) → RDk X.K H no ds ps → Sees X H s (.dct ds) (.ref a)
theorem sees (I : Inv X pins σ H s) {d : D} {v : V} {u : Value} (h : RD X.K H no d v) (r : RelV v u) : Sees X H s d u := by
  cases d with
  | non => cases (show v = .non from h); cases r; exact .non
  | bl b => cases (show v = .bl b from h); cases r; exact .bl b
  | int i => cases (show v = .int i from h); obtain ⟨t, rfl⟩ := r; exact .int i t
  | str x => cases (show v = .str x from h); obtain ⟨t, rfl⟩ := r; exact .str x t
  | tup ds =>
    obtain ⟨a, xs, rfl, q, w⟩ := h
    cases r
    obtain ⟨its, r1, p1, _⟩ := I.tuple q
    exact .tup ds a xs its q w r1 p1
  | lst ds =>
    obtain ⟨a, xs, rfl, q, w⟩ := RD.sql h
    cases r
    obtain ⟨its, r1, p1, _⟩ := I.list q
    exact .lst ds a xs its q w r1 p1
  | dct ds =>
    obtain ⟨a, ps, rfl, q, w⟩ := h
    cases r
    exact .dct ds a ps q.2 w
theorem rds_at {ds : List D} {xs : List V} {its : List Value} (w : RDs X.K H no ds xs) (r : Vals xs its) : its.length = ds.length := by rw [← r.length, w.length]
def EqItems (X : Cx) (H : Hp) (s : Shared) (n : Nat) : Prop := ∀ (ds1 ds2 : List D) (A : Around) (us1 us2 : List Value) (xs1 xs2 : List V), RDs X.K H no ds1 xs1 → Vals xs1 us1 → RDs X.K H no ds2 xs2 → Vals xs2 us2 → D.pls n ds1 = true → D.pls n ds2 = true → A.units + n < cLine →
    ∀ j (h1 : j < us1.length) (h2 : j < us2.length), SeqAt.EqAt A.in1 s us1[j] us2[j] (pairEq ds1 ds2 j)
def EqData (X : Cx) (H : Hp) (s : Shared) (n : Nat) : Prop := ∀ (d1 d2 : D) (A : Around) (u1 u2 : Value), Sees X H s d1 u1 → Sees X H s d2 u2 → D.pl n d1 = true → D.pl n d2 = true → A.units + n < cLine → SeqAt.EqAt A s u1 u2 (D.eqb d1 d2)
theorem eqData_of (I : Inv X pins σ H s) {n : Nat} (it : EqItems X H s n) : EqData X H s n := by
  intro d1 d2 A u1 u2 h1 h2 f1 f2 hu
  have hu' : A.units < cLine := by omega
  have nd2 : ∀ ds, d2 ≠ .dct ds := fun ds z => by rw [z, D.pl] at f2; cases f2
  cases h1 with
  | dct ds a ps q w => rw [D.pl] at f1; cases f1
  | non => cases h2 with
    | non => exact SeqAt.EqAt.same _
    | bl b => exact SeqAt.EqAt.none_bool b
    | int b t => exact SeqAt.EqAt.none_int b t
    | str b t => exact SeqAt.EqAt.none_str b t
    | tup ds a xs its q w r p => exact SeqAt.EqAt.none_tuple p hu'
    | lst ds a xs its q w r p => exact SeqAt.EqAt.none_list p.isList hu'
    | dct ds a ps q w => exact absurd rfl (nd2 ds)
  | bl x => cases h2 with
    | non => exact SeqAt.EqAt.bool_none x
    | bl b => exact SeqAt.EqAt.bool_bool x b
    | int b t => exact SeqAt.EqAt.bool_int x b t
    | str b t => exact SeqAt.EqAt.bool_str x b t
    | tup ds a xs its q w r p => exact SeqAt.EqAt.bool_tuple x p hu'
    | lst ds a xs its q w r p => exact SeqAt.EqAt.bool_list x p.isList hu'
    | dct ds a ps q w => exact absurd rfl (nd2 ds)
  | int x t' => cases h2 with
    | non => exact SeqAt.EqAt.int_none x t'
    | bl b => exact SeqAt.EqAt.int_bool x t' b
    | int b t => exact SeqAt.EqAt.int_int x t' b t
    | str b t => exact SeqAt.EqAt.int_str x t' b t
    | tup ds a xs its q w r p => exact SeqAt.EqAt.int_tuple x t' p hu'
    | lst ds a xs its q w r p => exact SeqAt.EqAt.int_list x t' p.isList hu'
    | dct ds a ps q w => exact absurd rfl (nd2 ds)
  | str x t' => cases h2 with
    | non => exact SeqAt.EqAt.str_none x t'
    | bl b => exact SeqAt.EqAt.str_bool x t' b
    | int b t => exact SeqAt.EqAt.str_int x t' b t
    | str b t => exact SeqAt.EqAt.str_str x t' b t
    | tup ds a xs its q w r p => exact SeqAt.EqAt.str_tuple x t' p hu'
    | lst ds a xs its q w r p => exact SeqAt.EqAt.str_list x t' p.isList hu'
    | dct ds a ps q w => exact absurd rfl (nd2 ds)
  | tup ds1 a1 xs1 its1 q1 w1 r1 p1 => cases h2 with
    | non => exact SeqAt.EqAt.tuple_none p1 hu'
    | bl b => exact SeqAt.EqAt.tuple_bool b p1 hu'
    | int b t => exact SeqAt.EqAt.tuple_int b t p1 hu'
    | str b t => exact SeqAt.EqAt.tuple_str b t p1 hu'
    | lst ds a xs its q w r p => exact SeqAt.EqAt.tuple_list p1 p.isList hu'
    | dct ds a ps q w => exact absurd rfl (nd2 ds)
    | tup ds2 a2 xs2 its2 q2 w2 r2 p2 =>
      by_cases ha : a1 = a2
      · subst ha
        have := I.tuple_inj q1 q2
        subst this
        have := RDs.inj I w1 w2
        subst this
        rw [D.eqb_refl n _ f1]
        exact SeqAt.EqAt.same _
      · rw [D.eqb, ← min_len, ← rds_at w1 r1, ← rds_at w2 r2]
        have z := SeqAt.EqAt.of_refs ha (SeqAt.RcAt.tuples (A := A) (e := pairEq ds1 ds2) p1 p2 hu' fun j j1 j2 => by
          have := it ds1 ds2 A its1 its2 xs1 xs2 w1 r1 w2 r2 (by rw [D.pl] at f1; exact f1) (by rw [D.pl] at f2; exact f2) hu j (by simpa using j1) (by simpa using j2)
          simpa using this)
        simpa using z
  | lst ds1 a1 xs1 its1 q1 w1 r1 p1 => cases h2 with
    | non => exact SeqAt.EqAt.list_none p1.isList hu'
    | bl b => exact SeqAt.EqAt.list_bool b p1.isList hu'
    | int b t => exact SeqAt.EqAt.list_int b t p1.isList hu'
    | str b t => exact SeqAt.EqAt.list_str b t p1.isList hu'
    | tup ds a xs its q w r p => exact SeqAt.EqAt.list_tuple p1.isList p hu'
    | dct ds a ps q w => exact absurd rfl (nd2 ds)
    | lst ds2 a2 xs2 its2 q2 w2 r2 p2 =>
      by_cases ha : a1 = a2
      · subst ha
        have := I.list_inj q1 q2
        subst this
        have := RDs.inj I w1 w2
        subst this
        rw [D.eqb_refl n _ f1]
        exact SeqAt.EqAt.same _
      · have l1 := rds_at w1 r1
        have l2 := rds_at w2 r2
        rw [D.eqb]
        by_cases hl : ds1.length = ds2.length
        · rw [← eqs_all ds1 ds2 hl, ← l1]
          have z := SeqAt.EqAt.of_refs ha (SeqAt.RcAt.lists (A := A) (e := pairEq ds1 ds2) p1.isList p2.isList (by simp only [List.size_toArray]; omega) hu' fun j j1 j2 => by
            have := it ds1 ds2 A its1 its2 xs1 xs2 w1 r1 w2 r2 (by rw [D.pl] at f1; exact f1) (by rw [D.pl] at f2; exact f2) hu j (by simpa using j1) (by simpa using j2)
            simpa using this)
          simpa using z
        · rw [eqs_len ds1 ds2 hl]
          exact SeqAt.EqAt.of_refs ha (SeqAt.RcAt.lists_lengths p1.isList p2.isList (by simp only [List.size_toArray, bne_iff_ne, ne_eq]; omega) hu')
theorem eqItems_zero : EqItems X H s 0 := by
  intro ds1 ds2 A us1 us2 xs1 xs2 w1 r1 w2 r2 f1 f2 hu j h1 h2
  cases ds1 with
  | nil =>
    rw [RDs] at w1; subst w1
    cases r1
    exact absurd h1 (Nat.not_lt_zero _)
  | cons d ds => rw [D.pls] at f1; cases f1
theorem eqItems_succ (I : Inv X pins σ H s) {n : Nat} (ih : EqData X H s n) : EqItems X H s (n + 1) := by
  intro ds1
  induction ds1 with
  | nil =>
    intro ds2 A us1 us2 xs1 xs2 w1 r1 w2 r2 f1 f2 hu j h1 h2
    rw [RDs] at w1; subst w1
    cases r1
    exact absurd h1 (Nat.not_lt_zero _)
  | cons d1 ds1 ih2 =>
    intro ds2 A us1 us2 xs1 xs2 w1 r1 w2 r2 f1 f2 hu j h1 h2
    cases ds2 with
    | nil =>
      rw [RDs] at w2; subst w2
      cases r2
      exact absurd h2 (Nat.not_lt_zero _)
    | cons d2 ds2 =>
      obtain ⟨v1, y1, rfl, e1, w1⟩ := w1
      obtain ⟨v2, y2, rfl, e2, w2⟩ := w2
      cases r1 with
      | cons a1 r1 =>
        cases r2 with
        | cons a2 r2 =>
          rw [D.pls, Bool.and_eq_true] at f1 f2
          cases j with
          | zero => exact ih d1 d2 A.in1 _ _ (sees I e1 a1) (sees I e2 a2) f1.1 f2.1 (by show A.units + 1 + n < cLine; omega)
          | succ j =>
            rw [pairEq_succ]
            exact ih2 ds2 A _ _ _ _ w1 r1 w2 r2 f1.2 f2.2 hu j (Nat.lt_of_succ_lt_succ h1) (Nat.lt_of_succ_lt_succ h2)
theorem eqItems (I : Inv X pins σ H s) : ∀ n, EqItems X H s n
  | 0 => eqItems_zero
  | n + 1 => eqItems_succ I (eqData_of I (eqItems I n))
theorem eqAt_D (I : Inv X pins σ H s) (n : Nat) : EqData X H s n := eqData_of I (eqItems I n)
theorem eqAt_Ds (I : Inv X pins σ H s) (n : Nat) : EqItems X H s n := eqItems I n
end
end Tr
namespace Tr
open PySem PySem.Spec PyProof.Rows L2
theorem same_upd {H : Hp} {p : Addr} (h : H p = none) (o : HO) : Same H (upd H p o) := fun b u q => by rw [upd_ne (ne_of_none q h)]; exact q
section
variable {K : PySem.W.Frag} {H : Hp} {O : Addr → Prop} {p : Addr} {ds : List D} {xs : List V}
theorem new_lst (w : RDs K H O ds xs) (hp : H p = none) (tr : ∀ a, O a → ∃ o, H a = some o) : RD K (upd H p (.lst xs)) O (.lst ds) (.ref p) ∧ NewL K H (upd H p (.lst xs)) O (.lst ds) (.ref p) := by
  have nO : ¬ O p := fun z => by
    obtain ⟨o, q⟩ := tr p z
    rw [hp] at q; cases q
  exact ⟨⟨p, xs, rfl, .inl ⟨nO, .inl upd_same⟩, w.same (same_upd hp _)⟩, fun _ => ⟨p, rfl, hp, xs, upd_same, (w.new hp).same (same_upd hp _)⟩⟩
theorem new_tup (w : RDs K H O ds xs) (hp : H p = none) : RD K (upd H p (.tup xs)) O (.tup ds) (.ref p) := ⟨p, xs, rfl, .of upd_same, w.same (same_upd hp _)⟩
end
section
variable {X : Cx} {pins : List (Addr × Obj)} {σ : L2.St} {H : Hp} {s : Shared}
theorem rcAt_D (I : Inv X pins σ H s) {n : Nat} {d1 d2 : D} {A : Around} {u1 u2 : Value} (h1 : Sees X H s d1 u1) (h2 : Sees X H s d2 u2) (f1 : D.pl n d1 = true) (f2 : D.pl n d2 = true) (hu : A.units + n < cLine) : SeqAt.RcAt A s u1 u2 (D.eqb d1 d2) := by
  have hu' : A.units < cLine := by omega
  have nd2 : ∀ ds, d2 ≠ .dct ds := fun ds z => by rw [z, D.pl] at f2; cases f2
  cases h1 with
  | dct ds a ps q w => rw [D.pl] at f1; cases f1
  | non => cases h2 with
    | non => exact SeqAt.RcAt.none_none
    | bl b => exact SeqAt.RcAt.none_bool b
    | int b t => exact SeqAt.RcAt.none_int b t
    | str b t => exact SeqAt.RcAt.none_str b t
    | tup ds a xs its q w r p => exact SeqAt.RcAt.none_tuple p hu'
    | lst ds a xs its q w r p => exact SeqAt.RcAt.none_list p.isList hu'
    | dct ds a ps q w => exact absurd rfl (nd2 ds)
  | bl x => cases h2 with
    | non => exact SeqAt.RcAt.bool_none x
    | bl b => exact SeqAt.RcAt.bool_bool x b
    | int b t => exact SeqAt.RcAt.bool_int x b t
    | str b t => exact SeqAt.RcAt.bool_str x b t
    | tup ds a xs its q w r p => exact SeqAt.RcAt.bool_tuple x p hu'
    | lst ds a xs its q w r p => exact SeqAt.RcAt.bool_list x p.isList hu'
    | dct ds a ps q w => exact absurd rfl (nd2 ds)
  | int x t' => cases h2 with
    | non => exact SeqAt.RcAt.int_none x t'
    | bl b => exact SeqAt.RcAt.int_bool x t' b
    | int b t => exact SeqAt.RcAt.int_int x t' b t
    | str b t => exact SeqAt.RcAt.int_str x t' b t
    | tup ds a xs its q w r p => exact SeqAt.RcAt.int_tuple x t' p hu'
    | lst ds a xs its q w r p => exact SeqAt.RcAt.int_list x t' p.isList hu'
    | dct ds a ps q w => exact absurd rfl (nd2 ds)
  | str x t' => cases h2 with
    | non => exact SeqAt.RcAt.str_none x t'
    | bl b => exact SeqAt.RcAt.str_bool x t' b
    | int b t => exact SeqAt.RcAt.str_int x t' b t
    | str b t => exact SeqAt.RcAt.str_str x t' b t
    | tup ds a xs its q w r p => exact SeqAt.RcAt.str_tuple x t' p hu'
    | lst ds a xs its q w r p => exact SeqAt.RcAt.str_list x t' p.isList hu'
    | dct ds a ps q w => exact absurd rfl (nd2 ds)
  | tup ds1 a1 xs1 its1 q1 w1 r1 p1 => cases h2 with
    | non => exact SeqAt.RcAt.tuple_none p1 hu'
    | bl b => exact SeqAt.RcAt.tuple_bool b p1 hu'
    | int b t => exact SeqAt.RcAt.tuple_int b t p1 hu'
    | str b t => exact SeqAt.RcAt.tuple_str b t p1 hu'
    | lst ds a xs its q w r p => exact SeqAt.RcAt.tuple_list p1 p.isList hu'
    | dct ds a ps q w => exact absurd rfl (nd2 ds)
    | tup ds2 a2 xs2 its2 q2 w2 r2 p2 =>
      rw [D.eqb, ← min_len, ← rds_at w1 r1, ← rds_at w2 r2]
      have z := SeqAt.RcAt.tuples (A := A) (e := pairEq ds1 ds2) p1 p2 hu' fun j j1 j2 => by
        have := eqAt_Ds I n ds1 ds2 A its1 its2 xs1 xs2 w1 r1 w2 r2 (by rw [D.pl] at f1; exact f1) (by rw [D.pl] at f2; exact f2) hu j (by simpa using j1) (by simpa using j2)
        simpa using this
      simpa using z
  | lst ds1 a1 xs1 its1 q1 w1 r1 p1 => cases h2 with
    | non => exact SeqAt.RcAt.list_none p1.isList hu'
    | bl b => exact SeqAt.RcAt.list_bool b p1.isList hu'
    | int b t => exact SeqAt.RcAt.list_int b t p1.isList hu'
    | str b t => exact SeqAt.RcAt.list_str b t p1.isList hu'
    | tup ds a xs its q w r p => exact SeqAt.RcAt.list_tuple p1.isList p hu'
    | dct ds a ps q w => exact absurd rfl (nd2 ds)
    | lst ds2 a2 xs2 its2 q2 w2 r2 p2 =>
      have l1 := rds_at w1 r1
      have l2 := rds_at w2 r2
      rw [D.eqb]
      by_cases hl : ds1.length = ds2.length
      · rw [← eqs_all ds1 ds2 hl, ← l1]
        have z := SeqAt.RcAt.lists (A := A) (e := pairEq ds1 ds2) p1.isList p2.isList (by simp only [List.size_toArray]; omega) hu' fun j j1 j2 => by
          have := eqAt_Ds I n ds1 ds2 A its1 its2 xs1 xs2 w1 r1 w2 r2 (by rw [D.pl] at f1; exact f1) (by rw [D.pl] at f2; exact f2) hu j (by simpa using j1) (by simpa using j2)
          simpa using this
        simpa using z
      · rw [eqs_len ds1 ds2 hl]
        exact SeqAt.RcAt.lists_lengths p1.isList p2.isList (by simp only [List.size_toArray, bne_iff_ne, ne_eq]; omega) hu'
theorem rcNeAt_D (I : Inv X pins σ H s) {n : Nat} {d1 d2 : D} {A : Around} {u1 u2 : Value} (h1 : Sees X H s d1 u1) (h2 : Sees X H s d2 u2) (f1 : D.pl n d1 = true) (f2 : D.pl n d2 = true) (hu : A.units + n < cLine) : SeqAt.RcNeAt A s u1 u2 (!D.eqb d1 d2) := by
  have hu' : A.units < cLine := by omega
  have nd2 : ∀ ds, d2 ≠ .dct ds := fun ds z => by rw [z, D.pl] at f2; cases f2
  cases h1 with
  | dct ds a ps q w => rw [D.pl] at f1; cases f1
  | non => cases h2 with
    | non => exact SeqAt.RcNeAt.none_none
    | bl b => exact SeqAt.RcNeAt.none_bool b
    | int b t => exact SeqAt.RcNeAt.none_int b t
    | str b t => exact SeqAt.RcNeAt.none_str b t
    | tup ds a xs its q w r p => exact SeqAt.RcNeAt.none_tuple p hu'
    | lst ds a xs its q w r p => exact SeqAt.RcNeAt.none_list p.isList hu'
    | dct ds a ps q w => exact absurd rfl (nd2 ds)
  | bl x => cases h2 with
    | non => exact SeqAt.RcNeAt.bool_none x
    | bl b => exact SeqAt.RcNeAt.bool_bool x b
    | int b t => exact SeqAt.RcNeAt.bool_int x b t
    | str b t => exact SeqAt.RcNeAt.bool_str x b t
    | tup ds a xs its q w r p => exact SeqAt.RcNeAt.bool_tuple x p hu'
    | lst ds a xs its q w r p => exact SeqAt.RcNeAt.bool_list x p.isList hu'
    | dct ds a ps q w => exact absurd rfl (nd2 ds)
  | int x t' => cases h2 with
    | non => exact SeqAt.RcNeAt.int_none x t'
    | bl b => exact SeqAt.RcNeAt.int_bool x t' b
    | int b t => exact SeqAt.RcNeAt.int_int x t' b t
    | str b t => exact SeqAt.RcNeAt.int_str x t' b t
    | tup ds a xs its q w r p => exact SeqAt.RcNeAt.int_tuple x t' p hu'
    | lst ds a xs its q w r p => exact SeqAt.RcNeAt.int_list x t' p.isList hu'
    | dct ds a ps q w => exact absurd rfl (nd2 ds)
  | str x t' => cases h2 with
    | non => exact SeqAt.RcNeAt.str_none x t'
    | bl b => exact SeqAt.RcNeAt.str_bool x t' b
    | int b t => exact SeqAt.RcNeAt.str_int x t' b t
    | str b t => exact SeqAt.RcNeAt.str_str x t' b t
    | tup ds a xs its q w r p => exact SeqAt.RcNeAt.str_tuple x t' p hu'
    | lst ds a xs its q w r p => exact SeqAt.RcNeAt.str_list x t' p.isList hu'
    | dct ds a ps q w => exact absurd rfl (nd2 ds)
  | tup ds1 a1 xs1 its1 q1 w1 r1 p1 => cases h2 with
    | non => exact SeqAt.RcNeAt.tuple_none p1 hu'
    | bl b => exact SeqAt.RcNeAt.tuple_bool b p1 hu'
    | int b t => exact SeqAt.RcNeAt.tuple_int b t p1 hu'
    | str b t => exact SeqAt.RcNeAt.tuple_str b t p1 hu'
    | lst ds a xs its q w r p => exact SeqAt.RcNeAt.tuple_list p1 p.isList hu'
    | dct ds a ps q w => exact absurd rfl (nd2 ds)
    | tup ds2 a2 xs2 its2 q2 w2 r2 p2 =>
      rw [D.eqb, ← min_len, ← rds_at w1 r1, ← rds_at w2 r2]
      have z := SeqAt.RcNeAt.tuples (A := A) (e := pairEq ds1 ds2) p1 p2 hu' fun j j1 j2 => by
        have := eqAt_Ds I n ds1 ds2 A its1 its2 xs1 xs2 w1 r1 w2 r2 (by rw [D.pl] at f1; exact f1) (by rw [D.pl] at f2; exact f2) hu j (by simpa using j1) (by simpa using j2)
        simpa using this
      simpa using z
  | lst ds1 a1 xs1 its1 q1 w1 r1 p1 => cases h2 with
    | non => exact SeqAt.RcNeAt.list_none p1.isList hu'
    | bl b => exact SeqAt.RcNeAt.list_bool b p1.isList hu'
    | int b t => exact SeqAt.RcNeAt.list_int b t p1.isList hu'
    | str b t => exact SeqAt.RcNeAt.list_str b t p1.isList hu'
    | tup ds a xs its q w r p => exact SeqAt.RcNeAt.list_tuple p1.isList p hu'
    | dct ds a ps q w => exact absurd rfl (nd2 ds)
    | lst ds2 a2 xs2 its2 q2 w2 r2 p2 =>
      have l1 := rds_at w1 r1
      have l2 := rds_at w2 r2
      rw [D.eqb]
      by_cases hl : ds1.length = ds2.length
      · rw [← eqs_all ds1 ds2 hl, ← l1]
        have z := SeqAt.RcNeAt.lists (A := A) (e := pairEq ds1 ds2) p1.isList p2.isList (by simp only [List.size_toArray]; omega) hu' fun j j1 j2 => by
          have := eqAt_Ds I n ds1 ds2 A its1 its2 xs1 xs2 w1 r1 w2 r2 (by rw [D.pl] at f1; exact f1) (by rw [D.pl] at f2; exact f2) hu j (by simpa using j1) (by simpa using j2)
          simpa using this
        simpa using z
      · rw [eqs_len ds1 ds2 hl]
        exact SeqAt.RcNeAt.lists_lengths p1.isList p2.isList (by simp only [List.size_toArray, bne_iff_ne, ne_eq]; omega) hu'
end
section
variable {X : Cx}
theorem big_line : big = sizeLine := by rw [sizeLine_eq]; rfl
theorem op_catS : OpR X (binaryOp .Add) (fun x y H Q => ∃ l b xs zs, x = .ref l ∧ y = .ref b ∧ SqL X.K H l xs ∧ SqL X.K H b zs ∧ xs.length + zs.length ≤ sizeLine ∧ ∀ p, H p = none → Q (.ref p) (upd H p (.lst (xs ++ zs)))) := by
  intro pins s σ H x y v u Q I rx ry h
  obtain ⟨l, b, xs, zs, rfl, rfl, hH, hB, hz, q⟩ := h
  cases rx
  cases ry
  obtain ⟨its, r, pl, z⟩ := I.list hH
  obtain ⟨its2, r2, pl2, z2⟩ := I.list hB
  have hl := r.length
  have hl2 := r2.length
  obtain ⟨⟨cls, dd, data, sl⟩, ho, hc, n, hd⟩ := pl.isList
  obtain ⟨⟨cls2, dd2, data2, sl2⟩, ho2, hc2, n2, hd2⟩ := pl2.isList
  simp only at hc hd hc2 hd2
  subst hc hd hc2 hd2
  have ea : its.toArray ++ its2.toArray = (its ++ its2).toArray := by simp
  refine concat_meets ⟨_, ho, rfl⟩ ⟨_, ho2, rfl⟩ noFill_list_add seq_list_add PySem.F.slot_list_add PySem.F.entry_list_add (PySem.F.args_list_add_2 _ _) (list_addW l b its.toArray its2.toArray n n2 dd dd2 sl sl2 (by simp only [List.size_toArray]; omega)) ⟨ho, ho2, ?_⟩
  rw [ea]
  exact ⟨.ref _, _, I.lnew (t' := s.toks) (r.append r2) (by rw [List.length_append]; omega), rfl, q _ I.fresh⟩
theorem op_catT0 : OpR X (binaryOp .Add) (fun x y H Q => ∃ a b xs ys, x = .ref a ∧ y = .ref b ∧ SqT X.K H a xs ∧ SqT X.K H b ys ∧ xs.length + ys.length ≤ sizeLine ∧
    (xs = [] → Q (.ref b) H) ∧ (ys = [] → Q (.ref a) H) ∧ ∀ p, H p = none → Q (.ref p) (upd H p (.tup (xs ++ ys)))) := by
  intro pins s σ H x y v u Q I rx ry h
  obtain ⟨a, b, xs, ys, rfl, rfl, ha, hb, hz, q0, q1, q2⟩ := h
  by_cases hx : xs = []
  · cases rx
    cases ry
    obtain ⟨its, r1, p1, _⟩ := I.tuple ha
    obtain ⟨its2, r2, p2, _⟩ := I.tuple hb
    obtain ⟨⟨cls, dd, data, sl⟩, ho, hc, n, hd⟩ := id p1
    obtain ⟨⟨cls2, dd2, data2, sl2⟩, ho2, hc2, n2, hd2⟩ := id p2
    simp only at hc hd hc2 hd2
    subst hc hd hc2 hd2
    have hv : its = [] := r1.nil_iff.mpr hx
    exact concat_meets ⟨_, ho, rfl⟩ ⟨_, ho2, rfl⟩ noFill_tuple_add seq_tuple_add PySem.F.slot_tuple_add PySem.F.entry_tuple_add (PySem.F.args_tuple_add_2 _ _)
      (tuple_addW0 a b its.toArray its2.toArray n n2 dd dd2 sl sl2 (by simp [hv])) ⟨ho, ho2, ⟨.ref b, H, I, rfl, q0 hx⟩⟩
  · exact op_catT pins s σ H _ _ v u Q I rx ry ⟨a, b, xs, ys, rfl, rfl, ha, hb, hx, hz, q1, fun _ => q2⟩
end
end Tr
namespace Tr
open PySem PySem.Spec PyProof.Rows L2
section
variable {X : Cx}
def Roomy (X : Cx) : Prop := X.A.units + 64 < cLine
theorem opr_bin (o : Operator) (fr : Bool) (hfr : fr = true → o = .Add) : OpR X (binaryOp o) (rD2 X.K (D.bin o) fr) := by
  intro pins s σ H x y v u Q I rx ry h
  obtain ⟨O, d1, d2, d, r1, r2, ev, tr, k⟩ := h
  have kk : ∀ w, d.still = true → RD X.K H O d w → Q w H := fun w n r => k w H (Same.refl H) r fun _ => NewL.still n
  unfold D.bin at ev
  split at ev
  · cases ev
    cases (show x = _ from r1.rd rfl)
    cases (show y = _ from r2.rd rfl)
    exact op_add pins s σ H _ _ v u Q I rx ry ⟨_, _, rfl, rfl, kk _ rfl rfl⟩
  · obtain ⟨c, ev⟩ := when_ok ev
    cases ev
    cases (show x = _ from r1.rd rfl)
    cases (show y = _ from r2.rd rfl)
    exact op_add_str pins s σ H _ _ v u Q I rx ry ⟨_, _, rfl, rfl, by rw [← big_line]; exact of_decide_eq_true c, kk _ rfl rfl⟩
  · obtain ⟨c, ev⟩ := when_ok ev
    cases ev
    obtain ⟨a1, xs1, rfl, q1, w1⟩ := r1.lst
    obtain ⟨a2, xs2, rfl, q2, w2⟩ := r2.lst
    refine op_catS pins s σ H _ _ v u Q I rx ry ⟨a1, a2, xs1, xs2, rfl, rfl, q1, q2, by rw [← big_line, w1.length, w2.length]; exact of_decide_eq_true c, fun p hp => ?_⟩
    have z := new_lst (w1.append w2) hp tr
    exact k _ _ (same_upd hp _) z.1 fun _ => z.2
  · obtain ⟨c, ev⟩ := when_ok ev
    cases ev
    obtain ⟨a1, xs1, rfl, q1, w1⟩ := r1.tup
    obtain ⟨a2, xs2, rfl, q2, w2⟩ := r2.tup
    refine op_catT0 pins s σ H _ _ v u Q I rx ry ⟨a1, a2, xs1, xs2, rfl, rfl, q1, q2, by rw [← big_line, w1.length, w2.length]; exact of_decide_eq_true c, fun z => ?_, fun z => ?_, fun p hp => ?_⟩
    · subst z
      have e := w1.length
      have e' : _ = [] := List.eq_nil_of_length_eq_zero e.symm
      subst e'
      exact kk _ rfl ⟨a2, xs2, rfl, q2, by simpa using w2⟩
    · subst z
      have e := w2.length
      have e' : _ = [] := List.eq_nil_of_length_eq_zero e.symm
      subst e'
      exact kk _ rfl ⟨a1, xs1, rfl, q1, by simpa using w1⟩
    · have z := new_tup (w1.append w2) hp
      exact k _ _ (same_upd hp _) z fun _ => NewL.still rfl
  · cases ev
    cases (show x = _ from r1.rd rfl)
    cases (show y = _ from r2.rd rfl)
    exact op_sub pins s σ H _ _ v u Q I rx ry ⟨_, _, rfl, rfl, kk _ rfl rfl⟩
  · obtain ⟨c, ev⟩ := when_ok ev
    cases ev
    cases (show x = _ from r1.rd rfl)
    cases (show y = _ from r2.rd rfl)
    refine op_mul pins s σ H _ _ v u Q I rx ry ⟨_, _, rfl, rfl, ?_, kk _ rfl rfl⟩
    simp only [small64, Bool.or_eq_true, Bool.and_eq_true, decide_eq_true_eq] at c
    exact c
  · obtain ⟨c, ev⟩ := when_ok ev
    cases ev
    cases (show x = _ from r1.rd rfl)
    cases (show y = _ from r2.rd rfl)
    refine op_fdiv pins s σ H _ _ v u Q I rx ry ⟨_, _, rfl, rfl, ?_, kk _ rfl rfl⟩
    simp only [Bool.and_eq_true, decide_eq_true_eq] at c
    exact c
  · obtain ⟨c, ev⟩ := when_ok ev
    cases ev
    cases (show x = _ from r1.rd rfl)
    cases (show y = _ from r2.rd rfl)
    exact op_mod pins s σ H _ _ v u Q I rx ry ⟨_, _, rfl, rfl, of_decide_eq_true c, kk _ rfl rfl⟩
  · obtain ⟨c, ev⟩ := when_ok ev
    cases ev
    cases (show x = _ from r1.rd rfl)
    cases (show y = _ from r2.rd rfl)
    refine op_pow pins s σ H _ _ v u Q I rx ry ⟨_, _, rfl, rfl, ?_, kk _ rfl rfl⟩
    simp only [Bool.and_eq_true, decide_eq_true_eq] at c
    exact ⟨c.1.1, c.1.2, c.2⟩
  · cases ev
theorem rdk_val {K : PySem.W.Frag} {H : Hp} {O : Addr → Prop} {k : Key} : ∀ {ds : List (Sum Int Str × D)} {ps : List (Key × V)}, RDk K H O ds ps → (∀ d, valK ds k = some d → ∃ v, valV ps k = some v ∧ RD K H O d v) ∧ (valK ds k).isSome = (valV ps k).isSome
  | [], ps, h => by
    rw [RDk] at h; subst h
    exact ⟨fun d e => (by cases e), rfl⟩
  | (k', d') :: ds, ps, h => by
    obtain ⟨v, r, rfl, h1, h2⟩ := h
    have ih := rdk_val (k := k) h2
    by_cases e : k' = k
    · subst e
      have e1 : valK ((k', d') :: ds) k' = some d' := by simp [valK, List.find?_cons]
      rw [e1, valV_pos (p := (k', v)) rfl]
      exact ⟨fun d z => (by cases z; exact ⟨v, rfl, h1⟩), rfl⟩
    · have e1 : valK ((k', d') :: ds) k = valK ds k := by simp [valK, List.find?_cons, e]
      rw [e1, valV_neg (p := (k', v)) e]
      exact ih
theorem key_val {K : PySem.W.Frag} {H : Hp} {O : Addr → Prop} {d : D} {v : V} {k : Key} (h : keyOf d = some k) (r : RR K H O d v) : v = kV k := by
  cases d with
  | int i => cases h; exact r.rd rfl
  | str i => cases h; exact r.rd rfl
  | non => cases h
  | bl _ => cases h
  | tup _ => cases h
  | lst _ => cases h
  | dct _ => cases h
theorem of_ok {α : Type} {o : Option α} {a : α} (h : Res.of o = .ok a) : o = some a := by
  cases o with
  | none => cases h
  | some b => cases h; rfl
theorem Sees.inj {H : Hp} {s : Shared} {pins : List (Addr × Obj)} {σ : L2.St} (I : Inv X pins σ H s) {d d' : D} {w : Value} (h : Sees X H s d w) (h' : Sees X H s d' w) : d = d' := by
  cases h with
  | non => cases h'; rfl
  | bl b => cases h'; rfl
  | int i t => cases h'; rfl
  | str x t => cases h'; rfl
  | tup ds a xs its q w r p =>
    cases h' with
    | tup ds' _ xs' its' q' w' r' p' => have := I.tuple_inj q q'; subst this; rw [RDs.inj I w w']
    | lst ds' _ xs' its' q' w' r' p' => exact (sq_apart I q' q).elim
    | dct ds' _ ps' q' w' => exact (dk_tup I q' q).elim
  | dct ds a ps q w =>
    cases h' with
    | dct ds' _ ps' q' w' => have := q.symm.trans q'; cases this; rw [RDk.inj I w w']
    | tup ds' _ xs' its' q' w' r' p' => exact (dk_tup I q q').elim
    | lst ds' _ xs' its' q' w' r' p' => exact (dk_lst I q q').elim
  | lst ds a xs its q w r p =>
    cases h' with
    | lst ds' _ xs' its' q' w' r' p' => have := I.list_inj q q'; subst this; rw [RDs.inj I w w']
    | tup ds' _ xs' its' q' w' r' p' => exact (sq_apart I q q').elim
    | dct ds' _ ps' q' w' => exact (dk_lst I q' q).elim
open Classical in
noncomputable def seen (X : Cx) (H : Hp) (s : Shared) (x : D) (w : Value) : Bool := decide (∃ d, Sees X H s d w ∧ D.eqb d x = true)
theorem seen_eq {H : Hp} {s : Shared} {pins : List (Addr × Obj)} {σ : L2.St} (I : Inv X pins σ H s) {d x : D} {w : Value} (sd : Sees X H s d w) : seen X H s x w = D.eqb d x := by
  classical
  unfold seen
  by_cases h : D.eqb d x = true
  · rw [h]; simp only [decide_eq_true_eq]; exact ⟨d, sd, h⟩
  · have h' : D.eqb d x = false := by simpa using h
    rw [h']
    simp only [decide_eq_false_iff_not]
    rintro ⟨d', sd', h''⟩
    rw [Sees.inj I sd' sd] at h''
    exact h h''
theorem in_tab {H : Hp} {s : Shared} {pins : List (Addr × Obj)} {σ : L2.St} (I : Inv X pins σ H s) {x : D} {ux : Value} {n : Nat} {A : Around} (hx : Sees X H s x ux) (fx : D.pl n x = true) (hu : A.units + n < cLine) :
    ∀ {ds : List D} {xs : List V} {us : List Value}, RDs X.K H no ds xs → Vals xs us → D.pls (n + 1) ds = true → (∀ w ∈ us, SeqAt.EqAt A s w ux (seen X H s x w)) ∧ us.any (seen X H s x) = D.mem x ds
  | [], xs, us, w, r, f => by
    rw [RDs] at w; subst w; cases r
    exact ⟨fun w h => absurd h List.not_mem_nil, rfl⟩
  | d :: ds, xs, us, w, r, f => by
    obtain ⟨v, ys, rfl, e1, e2⟩ := w
    rw [D.pls, Bool.and_eq_true] at f
    cases r with
    | cons a1 r1 =>
      have ih := in_tab I hx fx hu e2 r1 f.2
      have sd := sees I e1 a1
      refine ⟨fun w hw => ?_, ?_⟩
      · rcases List.mem_cons.mp hw with rfl | hw
        · rw [seen_eq I sd]
          exact eqAt_D I n d x A w ux sd hx f.1 fx hu
        · exact ih.1 w hw
      · rw [List.any_cons, D.mem, ih.2, seen_eq I sd]
theorem isNon_eq {K : PySem.W.Frag} {H : Hp} {d : D} {x : V} (r : RD K H no d x) : decide (x = .non) = D.isNon d := by
  cases d with
  | non => cases (show x = .non from r); rfl
  | bl b => cases (show x = .bl b from r); rfl
  | int b => cases (show x = .int b from r); rfl
  | str b => cases (show x = .str b from r); rfl
  | tup ds => obtain ⟨a, xs, rfl, _⟩ := r; rfl
  | lst ds => obtain ⟨a, xs, rfl, _⟩ := r; rfl
  | dct ds => obtain ⟨a, xs, rfl, _⟩ := r; rfl
theorem opr_cmp (o : CmpOp) (hroom : Roomy X) : OpR X (compareOp o) (rD2 X.K (D.cmp o) false) := by
  intro pins s σ H x y v u Q I rx ry h
  obtain ⟨O, d1, d2, d, r1, r2, ev, tr, k⟩ := h
  have hroom' : X.A.units + 64 < cLine := hroom
  have kk : ∀ b, d = .bl b → Q (.bl b) H := fun b e => k _ H (Same.refl H) (by subst e; exact rfl) fun z => by cases z
  have s1 := sees I r1.bare rx
  have s2 := sees I r2.bare ry
  unfold D.cmp at ev
  split at ev
  · obtain ⟨c, ev⟩ := when_ok ev
    cases ev
    unfold D.eqOk at c
    rw [Bool.and_eq_true] at c
    exact rcAt_D I s1 s2 c.1 c.2 (by omega) X.prog X.w X.xe _ ⟨.bl _, H, I, rfl, kk _ rfl⟩
  · obtain ⟨c, ev⟩ := when_ok ev
    cases ev
    unfold D.eqOk at c
    rw [Bool.and_eq_true] at c
    exact rcNeAt_D I s1 s2 c.1 c.2 (by omega) X.prog X.w X.xe _ ⟨.bl _, H, I, rfl, kk _ rfl⟩
  · cases ev
    cases (show x = _ from r1.rd rfl)
    cases (show y = _ from r2.rd rfl)
    exact op_lt pins s σ H _ _ v u Q I rx ry ⟨_, _, rfl, rfl, kk _ rfl⟩
  · cases ev
    cases (show x = _ from r1.rd rfl)
    cases (show y = _ from r2.rd rfl)
    exact op_le pins s σ H _ _ v u Q I rx ry ⟨_, _, rfl, rfl, kk _ rfl⟩
  · cases ev
    cases (show x = _ from r1.rd rfl)
    cases (show y = _ from r2.rd rfl)
    exact op_gt pins s σ H _ _ v u Q I rx ry ⟨_, _, rfl, rfl, kk _ rfl⟩
  · cases ev
    cases (show x = _ from r1.rd rfl)
    cases (show y = _ from r2.rd rfl)
    exact op_ge pins s σ H _ _ v u Q I rx ry ⟨_, _, rfl, rfl, kk _ rfl⟩
  · cases ev
    cases (show y = _ from r2.rd rfl)
    have e : decide (x = .non) = D.isNon d1 := isNon_eq r1.bare
    exact op_isN pins s σ H _ _ v u Q I rx ry ⟨rfl, by rw [e]; exact kk _ rfl⟩
  · cases ev
    cases (show y = _ from r2.rd rfl)
    have e : decide (x = .non) = D.isNon d1 := isNon_eq r1.bare
    exact op_notN pins s σ H _ _ v u Q I rx ry ⟨rfl, by rw [e]; exact kk _ rfl⟩
  · obtain ⟨b, e1, ev⟩ := Res.bind_ok ev
    cases ev
    unfold D.inn at e1
    split at e1
    · obtain ⟨c, e1⟩ := when_ok e1
      cases e1
      rw [Bool.and_eq_true] at c
      cases s2 with
      | lst ds a xs its q w r p =>
        have t := in_tab I (n := 29) (A := X.A.in1) s1 c.2 (by show X.A.units + 1 + 29 < cLine; omega) w r c.1
        refine SeqAt.in_listAt (seen X H s d1) p.isList (fun w hw => t.1 w (by simpa using hw)) ⟨.bl _, H, I, rfl, ?_⟩
        rw [show its.toArray.any (seen X H s d1) = its.any (seen X H s d1) by simp, t.2]
        exact kk _ rfl
    · obtain ⟨c, e1⟩ := when_ok e1
      cases e1
      rw [Bool.and_eq_true] at c
      cases s2 with
      | tup ds a xs its q w r p =>
        have t := in_tab I (n := 29) (A := X.A.in1) s1 c.2 (by show X.A.units + 1 + 29 < cLine; omega) w r c.1
        refine SeqAt.in_tupleAt (seen X H s d1) p (fun w hw => t.1 w (by simpa using hw)) ⟨.bl _, H, I, rfl, ?_⟩
        rw [show its.toArray.any (seen X H s d1) = its.any (seen X H s d1) by simp, t.2]
        exact kk _ rfl
    · obtain ⟨key, e2, e1⟩ := Res.bind_ok e1
      cases e1
      obtain ⟨a, ps, rfl, q, w⟩ := r2.dct
      cases ry
      have ex := key_val (of_ok e2) r1
      subst ex
      refine d_in (by omega) I (DGet.k q) rx fun s' I' => ⟨.bl _, H, I', rfl, ?_⟩
      rw [← (rdk_val (k := key) w).2]
      exact kk _ rfl
    · split at e1
      · cases (show x = _ from r1.rd rfl)
        cases (show y = _ from r2.rd rfl)
        exact op_in_str pins s σ H _ _ v u Q I rx ry ⟨_, _, rfl, rfl, by rw [oneIn_ok e1]; exact kk _ rfl⟩
      · cases e1
    · cases e1
  · obtain ⟨b, e1, ev⟩ := Res.bind_ok ev
    cases ev
    unfold D.inn at e1
    split at e1
    · obtain ⟨c, e1⟩ := when_ok e1
      cases e1
      rw [Bool.and_eq_true] at c
      cases s2 with
      | lst ds a xs its q w r p =>
        have t := in_tab I (n := 29) (A := X.A.in1) s1 c.2 (by show X.A.units + 1 + 29 < cLine; omega) w r c.1
        refine SeqAt.notIn_listAt (seen X H s d1) p.isList (fun w hw => t.1 w (by simpa using hw)) ⟨.bl _, H, I, rfl, ?_⟩
        rw [show its.toArray.any (seen X H s d1) = its.any (seen X H s d1) by simp, t.2]
        exact kk _ rfl
    · obtain ⟨c, e1⟩ := when_ok e1
      cases e1
      rw [Bool.and_eq_true] at c
      cases s2 with
      | tup ds a xs its q w r p =>
        have t := in_tab I (n := 29) (A := X.A.in1) s1 c.2 (by show X.A.units + 1 + 29 < cLine; omega) w r c.1
        refine SeqAt.notIn_tupleAt (seen X H s d1) p (fun w hw => t.1 w (by simpa using hw)) ⟨.bl _, H, I, rfl, ?_⟩
        rw [show its.toArray.any (seen X H s d1) = its.any (seen X H s d1) by simp, t.2]
        exact kk _ rfl
    · obtain ⟨key, e2, e1⟩ := Res.bind_ok e1
      cases e1
      obtain ⟨a, ps, rfl, q, w⟩ := r2.dct
      cases ry
      have ex := key_val (of_ok e2) r1
      subst ex
      refine d_notIn (by omega) I (DGet.k q) rx fun s' I' => ⟨.bl _, H, I', rfl, ?_⟩
      rw [← (rdk_val (k := key) w).2]
      exact kk _ rfl
    · split at e1
      · cases (show x = _ from r1.rd rfl)
        cases (show y = _ from r2.rd rfl)
        exact op_notin_str pins s σ H _ _ v u Q I rx ry ⟨_, _, rfl, rfl, by rw [oneIn_ok e1]; exact kk _ rfl⟩
      · cases e1
    · cases e1
  · cases ev
theorem ixN_eq (n : Nat) (i : Int) : Tr.ixN n i = L2.ixN n i := rfl
theorem rds_atI {K : PySem.W.Frag} {H : Hp} {O : Addr → Prop} {ds : List D} {xs : List V} {i : Int} {d : D} (w : RDs K H O ds xs) (h : Tr.atI ds i = some d) : ∃ v, L2.atI xs i = some v ∧ RD K H O d v := by
  unfold Tr.atI at h
  unfold L2.atI
  rw [w.length]
  rw [ixN_eq] at h
  cases e : L2.ixN ds.length i with
  | none => rw [e] at h; cases h
  | some j =>
    rw [e] at h
    exact w.get h
theorem d_ix {value slice : Expr} {pins : List (Addr × Obj)} {s : Shared} {σ : L2.St} {H : Hp} {a : Addr} {y v0 : V} {u : Value} {Q : VK} (I : Inv X pins σ H s) (g : DGet H a y (some v0)) (ry : RelV y u) (hroom : Roomy X) (q : Q v0 H)
    (hs : subscripted slice false (.ref a) u = operate [.ref a, u] (getItem (.ref a) u)) : wpAny (model X.prog X.w) X.A (subscriptTail value slice (.ref a) u) (EP X pins σ Q) X.xe s := by
  have hroom' : X.A.units + 64 < cLine := hroom
  have hT := dict_typeIs I g
  unfold subscriptTail
  refine wpAny_bind ?_
  rw [getitemInPython_of_ne hT.not_modules]
  refine wpAny_bind (wpAny_specialOf hT PySem.F.slot_dict_getitem.lookup ?_)
  have fin : wpAny (model X.prog X.w) X.A (subscripted slice false (.ref a) u) (fun r s₃ => wpAny (model X.prog X.w) X.A (letTemporaryGo value (.ref a) r >>= fun _ => pure r) (EP X pins σ Q) X.xe s₃) X.xe s := by
    rw [hs]
    exact wpAny_operating (d_getItem (by omega) I g ry fun w' s3 I3 rw' => wpAny_bind (wpAny_letTemporaryGo (wpAny_pure ⟨v0, H, I3, rw', q⟩)))
  first
    | exact wpAny_pure (wpAny_bind fin)
    | exact wpAny_bind (wpAny_pure (wpAny_bind fin))
    | exact wpAny_bind fin
theorem ixr (hroom : Roomy X) : IxR X (rD2 X.K D.ix false) := by
  intro value slice pins s σ H x y v u Q I rx ry h hs
  obtain ⟨O, d1, d2, d, r1, r2, ev, tr, k⟩ := h
  have kk : ∀ w, RD X.K H O d w → Q w H := fun w r => k w H (Same.refl H) r fun z => by cases z
  unfold D.ix at ev
  split at ev
  · obtain ⟨a1, xs1, rfl, q1, w1⟩ := r1.lst
    cases (show y = _ from r2.rd rfl)
    rename_i ds i
    cases e : Tr.atI ds i with
    | none => rw [e] at ev; cases ev
    | some d0 =>
      rw [e] at ev; cases ev
      obtain ⟨w, h1, h2⟩ := rds_atI w1 e
      exact ix_list value slice pins s σ H _ _ v u Q I rx ry ⟨a1, xs1, _, w, rfl, rfl, q1, h1, kk w h2⟩ hs
  · obtain ⟨a1, xs1, rfl, q1, w1⟩ := r1.tup
    cases (show y = _ from r2.rd rfl)
    rename_i ds i
    cases e : Tr.atI ds i with
    | none => rw [e] at ev; cases ev
    | some d0 =>
      rw [e] at ev; cases ev
      obtain ⟨w, h1, h2⟩ := rds_atI w1 e
      exact ix_tup value slice pins s σ H _ _ v u Q I rx ry ⟨a1, xs1, _, w, rfl, rfl, q1, h1, kk w h2⟩ hs
  · rename_i z i
    obtain ⟨c, ev⟩ := when_ok ev
    cases (show x = .str z from r1.rd rfl)
    cases (show y = .int i from r2.rd rfl)
    cases e : Tr.atI z.cps.toList i with
    | none => rw [e] at ev; cases ev
    | some c0 =>
      rw [e] at ev; cases ev
      exact ix_str value slice pins s σ H _ _ v u Q I rx ry ⟨z, i, c0, rfl, rfl, by rw [← big_line]; exact of_decide_eq_true c, e, kk _ rfl⟩ hs
  · rename_i kvs y0
    obtain ⟨key, e2, ev⟩ := Res.bind_ok ev
    obtain ⟨a, ps, rfl, q, w⟩ := r1.dct
    cases rx
    have ex := key_val (of_ok e2) r2
    subst ex
    have hroom' : X.A.units + 64 < cLine := hroom
    obtain ⟨v0, h1, h2⟩ := (rdk_val (k := key) w).1 _ (of_ok ev)
    have g : DGet H a (kV key) (some v0) := by rw [← h1]; exact DGet.k q
    exact d_ix I g ry hroom (kk v0 h2) hs
  · cases ev
end
end Tr
namespace Tr
open PySem PySem.Spec PyProof.Rows L2
def plainX : Expr → Bool
  | .Starred _ _ => false
  | .Slice _ _ _ _ => false
  | .Set _ _ _ => false
  | _ => true
theorem plain_ix {e : Expr} (h : plainX e = true) : PlainIx e := by
  intro o i
  cases e <;> first | rfl | (cases h)
theorem plain_star {e : Expr} {es : List Expr} {env : Env} (h : plainX e = true) : starEach (e :: es) env = (false, eval e env) :: starEach es env := by
  cases e <;> first | rfl | (cases h)
theorem plain_any {pos : Pos} {env : Env} : ∀ {es : List Expr}, es.all plainX = true → (backTo pos (starEach es env)).any (·.1) = false
  | [], _ => rfl
  | e :: es, h => by
    rw [List.all_cons, Bool.and_eq_true] at h
    have ih := plain_any (pos := pos) (env := env) h.2
    rw [plain_star h.1]
    show (false || (backTo pos (starEach es env)).any (·.1)) = false
    rw [ih]; rfl
theorem plain_mark {o : CmpOp} {e : Expr} (h : plainX e = true) : behindInMarks o e = false := by
  cases e <;> first | rfl | (cases h)
theorem plain_fold {e : Expr} {env : Env} (h : plainX e = true) : ∀ x, foldedSetIterable e env x = pure x := by
  intro x
  cases e <;> first | rfl | (cases h)
section
variable {T : Tab} {cf : Nat → List D → Res D} {X : Cx} {x y z : E} {p q r : Expr} {pos : Pos} {es : List Expr}
theorem se_bin {o : Operator} (ha : SR T cf X x p) (hb : SR T cf X y q) : SE T cf X (.bin o x y) (.BinOp p o q pos) :=
  se_op2 (f := D.bin o) (fun e => rfl) (fun h1 h2 => pe_op (opr_bin o _ (by cases o <;> first | (intro _; rfl) | (intro z; cases z))) h1 h2) ha hb
theorem se_cmp {o : CmpOp} (hR : Roomy X) (hm : plainX q = true) (ha : SR T cf X x p) (hb : SR T cf X y q) : SE T cf X (.cmp o x y) (.Compare p [o] [q] pos) :=
  se_op2 (f := D.cmp o) (fun e => rfl) (fun h1 h2 => pe_cmpR (opr_cmp o hR) h1 h2 (plain_mark hm)) ha hb
theorem se_ix (hR : Roomy X) (hm : plainX q = true) (ha : SR T cf X x p) (hb : SR T cf X y q) : SE T cf X (.ix x y) (.Subscript p q pos) :=
  se_op2 (f := D.ix) (fun e => rfl) (fun h1 h2 => pe_ix (ixr hR) h1 h2 (plain_ix hm)) ha hb
theorem sl_whole {X : Cx} : SlR X (fun x lo hi H Q => ∃ a xs, x = .ref a ∧ SqT X.K H a xs ∧ (HT.sIx xs.length 0 lo = 0 ∧ HT.sIx xs.length xs.length hi = xs.length) ∧ Q (.ref a) H) := by
  intro pins s σ H x v vl vu lo hi sl Q I rx hs pl pu h
  obtain ⟨a, xs, rfl, hx, hw, q⟩ := h
  cases rx
  obtain ⟨its, r, ht, hz⟩ := I.tuple hx
  have hlen : its.toArray.size = xs.length := by rw [List.size_toArray]; exact r.length.symm
  refine ⟨"tuple", _, PyProof.Rows.slot_tuple_getitem.lookup, ht.typeIs, ?_⟩
  obtain ⟨os, hos, hcs, hds⟩ := id hs
  have hTs : s.TypeIs (.ref sl) "slice" := ⟨os, hos, hcs⟩
  have fin : EP X pins σ Q (.ref a) s := ⟨.ref a, H, I, rfl, q⟩
  unfold getItem
  try with_reducible refine wpAny_holding ?_
  first | refine wpAny_bind (wpAny_pure ?_) | skip
  refine wpAny_bind (wpAny_sequenceKey ht.typeIs (by decide) ?_)
  refine wpAny_bind (wpAny_callSpecial?_slot (name := Str.ofString "__getitem__") ht.typeIs PyProof.Rows.slot_tuple_getitem
    (wpAny_call_entry PyProof.Rows.slot_tuple_getitem ht.typeIs entry_tuple_getitem ?_ (args_tuple_getitem _ _)))
  show wpAny _ _ (Builtin.Tuple.tupleItemsOf (.ref a) >>= _) _ _ s
  refine wpAny_bind (tupleItemsOf_ ht ?_)
  refine wpAny_bind (wpAny_typeOf hTs ?_)
  rw [if_pos (by decide)]
  refine wpAny_bind (HT.sliceApplied_gen hs pl pu ?_)
  have hyes : (((HT.sIx its.toArray.size 0 lo : Nat) : Int) == 0 && (1 : Int) == 1 && (HT.sIx its.toArray.size its.toArray.size hi - HT.sIx its.toArray.size 0 lo) == its.toArray.size) = true := by
    rw [hlen, hw.1, hw.2]; simp
  show wpAny _ _ (if (((HT.sIx its.toArray.size 0 lo : Nat) : Int) == 0 && (1 : Int) == 1 && (HT.sIx its.toArray.size its.toArray.size hi - HT.sIx its.toArray.size 0 lo) == its.toArray.size) = true then _ else _) _ _ s
  rw [if_pos hyes]
  refine wpAny_bind (m := Builtin.Tuple.tupleIsExact (.ref a)) ?_
  unfold Builtin.Tuple.tupleIsExact
  refine wpAny_bind (wpAny_typeOf ht.typeIs (wpAny_pure ?_))
  rw [if_pos (by decide)]
  refine wpAny_bind (wpAny_rule ?_)
  first
    | exact wpAny_pure ⟨_, rfl, wpAny_pure fin⟩
    | exact wpAny_bind (wpAny_pure ⟨_, rfl, wpAny_pure fin⟩)
    | exact wpAny_bind (wpAny_pure (wpAny_pure ⟨_, rfl, wpAny_pure fin⟩))
    | trace_state
end
end Tr
namespace Tr
open PySem PySem.Spec PyProof.Rows L2
section
variable {T : Tab} {cf : Nat → List D → Res D} {X : Cx} {x y z : E} {p q r : Expr} {pos pos' : Pos} {es : List Expr}
theorem sIx_eq (n d : Nat) (o : Option Int) : Tr.sIx n d o = HT.sIx n d o := by cases o <;> rfl
theorem slr : SlR X (fun v lo hi H Q => ∃ O d0 d, RR X.K H O d0 v ∧ D.sl d0 lo hi = .ok d ∧ (∀ a, O a → ∃ o, H a = some o) ∧ ∀ w H', Same H H' → RD X.K H' O d w → NewL X.K H H' O d w → Q w H') := by
  intro pins s σ H x v vl vu lo hi sl Q I rx hs pl pu h
  obtain ⟨O, d0, d, r0, ev, tr, k⟩ := h
  unfold D.sl at ev
  split at ev
  · cases ev
    obtain ⟨a, xs, rfl, q0, w0⟩ := r0.lst
    refine sl_list pins s σ H _ v vl vu _ _ sl Q I rx hs pl pu ⟨a, xs, rfl, q0, fun p hp => ?_⟩
    have z := new_lst (w0.cut lo hi) hp tr
    exact k _ _ (same_upd hp _) z.1 z.2
  · cases ev
    obtain ⟨a, xs, rfl, q0, w0⟩ := r0.tup
    by_cases hw : HT.sIx xs.length 0 lo = 0 ∧ HT.sIx xs.length xs.length hi = xs.length
    · refine sl_whole pins s σ H _ v vl vu _ _ sl Q I rx hs pl pu ⟨a, xs, rfl, q0, hw, ?_⟩
      refine k _ _ (Same.refl H) ⟨a, xs, rfl, q0, ?_⟩ (NewL.still rfl)
      unfold Tr.cut
      rw [← w0.length, sIx_eq, sIx_eq, hw.1, hw.2, List.drop_zero, Nat.sub_zero, List.take_of_length_le (by rw [w0.length]; exact Nat.le_refl _)]
      exact w0
    · refine sl_tup pins s σ H _ v vl vu _ _ sl Q I rx hs pl pu ⟨a, xs, rfl, q0, hw, fun p hp => ?_⟩
      exact k _ _ (same_upd hp _) (new_tup (w0.cut lo hi) hp) (NewL.still rfl)
  · obtain ⟨c, ev⟩ := when_ok ev
    cases ev
    cases (show x = _ from r0.rd rfl)
    exact sl_str pins s σ H _ v vl vu _ _ sl Q I rx hs pl pu ⟨_, rfl, by rw [← big_line]; exact of_decide_eq_true c, k _ H (Same.refl H) rfl (NewL.still rfl)⟩
  · cases ev
def SO (T : Tab) (cf : Nat → List D → Res D) (X : Cx) (x : E) (p : Option Expr) : Prop := ∀ H₀ O₀, PO X p (fun σ H Q => ∃ O own e d o, Fm X.K H₀ O₀ H O own e σ ∧ evE T cf x e = .ok d ∧ d.part = .ok o ∧ ∀ H', Same H H' → Q o H')
theorem so_omit : SO T cf X .omit none := fun H₀ O₀ pins s σ H Q I ⟨O, own, e, d, o, F, ev, ep, k⟩ => by
  (first | rw [xE_var] at ev | rw [xE_rd] at ev | rw [xE_con] at ev | rw [xE_glob] at ev | rw [xE_bin] at ev | rw [xE_cmp] at ev | rw [xE_chain] at ev | rw [xE_and] at ev | rw [xE_or] at ev | rw [xE_not] at ev | rw [xE_neg] at ev | rw [xE_ife] at ev | rw [xE_ix] at ev | rw [xE_sl] at ev | rw [xE_omit] at ev | rw [xE_tup] at ev | rw [xE_lst] at ev | rw [xE_call] at ev | rw [xE_callB] at ev | rw [xE_bt] at ev | rw [xE_isi] at ev | rw [xE_dnew] at ev | rw [xE_mth] at ev | rw [xE_callT] at ev | rw [xE_gidx] at ev | rw [xE_lset] at ev | rw [xE_maxd] at ev | rw [xE_lrng] at ev | rw [xE_comp] at ev); cases ev; cases ep
  exact po_none pins s σ H Q I (k H (Same.refl H))
theorem so_some (h : SE T cf X x p) : SO T cf X x (some p) := fun H₀ O₀ pins s σ H Q I ⟨O, own, e, d, o, F, ev, ep, k⟩ => by
  rw [evalPart_some]
  refine thn (h H₀ O₀ pins s σ H (fun v H' => Same H H' ∧ RD X.K H' O d v) I ⟨O, own, e, d, F, ev, fun v H' s' r _ => ⟨s', r⟩⟩) fun u s1 ⟨v, H1, I1, r1, s', r⟩ => ?_
  unfold D.part at ep
  split at ep
  · cases ep
    cases (show v = _ from r)
    cases r1
    exact ⟨none, H1, I1, .none, k H1 s'⟩
  · cases ep
    cases (show v = _ from r)
    obtain ⟨t, rfl⟩ := r1
    exact ⟨_, H1, I1, .int _ t, k H1 s'⟩
  · cases ep
theorem se_sl {lo hi : Option Expr} (ha : SR T cf X x p) (hl : SO T cf X y lo) (hh : SO T cf X z hi) : SE T cf X (.sl x y z) (.Subscript p (.Slice lo hi none pos') pos) := fun H₀ O₀ => by
  refine PE.imp (fun σ H Q hq => ?_) (pe_slice slr (ha H₀ O₀) (hl H₀ O₀) (hh H₀ O₀))
  obtain ⟨O, own, e, d, F, ev, k⟩ := hq
  (first | rw [xE_var] at ev | rw [xE_rd] at ev | rw [xE_con] at ev | rw [xE_glob] at ev | rw [xE_bin] at ev | rw [xE_cmp] at ev | rw [xE_chain] at ev | rw [xE_and] at ev | rw [xE_or] at ev | rw [xE_not] at ev | rw [xE_neg] at ev | rw [xE_ife] at ev | rw [xE_ix] at ev | rw [xE_sl] at ev | rw [xE_omit] at ev | rw [xE_tup] at ev | rw [xE_lst] at ev | rw [xE_call] at ev | rw [xE_callB] at ev | rw [xE_bt] at ev | rw [xE_isi] at ev | rw [xE_dnew] at ev | rw [xE_mth] at ev | rw [xE_callT] at ev | rw [xE_gidx] at ev | rw [xE_lset] at ev | rw [xE_maxd] at ev | rw [xE_lrng] at ev | rw [xE_comp] at ev)
  obtain ⟨d1, e1, ev⟩ := Res.bind_ok ev
  obtain ⟨d2, e2, ev⟩ := Res.bind_ok ev
  obtain ⟨o2, e2', ev⟩ := Res.bind_ok ev
  obtain ⟨d3, e3, ev⟩ := Res.bind_ok ev
  obtain ⟨o3, e3', ev⟩ := Res.bind_ok ev
  refine ⟨O, own, e, d1, F, e1, fun v1 H1 s1 r1 => ⟨O, own, e, d2, o2, F.grow s1, e2, e2', fun H2 s2 => ⟨O, own, e, d3, o3, (F.grow s1).grow s2, e3, e3', fun H3 s3 => ?_⟩⟩⟩
  refine ⟨O, d1, d, (r1.same s2).same s3, ev, ((F.grow s1).grow (s2.trans s3)).trk, fun w H' s4 r4 n4 => ?_⟩
  exact k w H' ((s1.trans (s2.trans s3)).trans s4) r4 fun _ => n4.back (s1.trans (s2.trans s3))
theorem evA_len {a : E} {e : Nv} {ds : List D} (h : evA T cf a e = .ok ds) : ds.length ≤ 1000 := by
  cases a with
  | anil => (first | rw [xA_anil] at h | rw [xA_acons] at h); cases h; exact Nat.zero_le _
  | acons a r =>
    (first | rw [xA_anil] at h | rw [xA_acons] at h)
    obtain ⟨d1, e1, h⟩ := Res.bind_ok h
    obtain ⟨d2, e2, h⟩ := Res.bind_ok h
    obtain ⟨c, h⟩ := when_ok h
    cases h
    have := of_decide_eq_true c
    rw [List.length_cons]; omega
  | _ => exact absurd (show (Res.no : Res (List D)) = Res.ok ds from h) (fun z => by cases z)
theorem sav_nil : SAv T cf X .anil [] := fun H₀ O₀ pos pins s σ H Q I ⟨O, own, e, ds, F, ev, k⟩ => by
  (first | rw [xA_anil] at ev | rw [xA_acons] at ev); cases ev
  exact pa_nil pos pins s σ H Q I (k [] H (Same.refl H) rfl)
theorem sav_cons (hp : plainX p = true) (ha : SE T cf X x p) (hr : SAv T cf X y es) : SAv T cf X (.acons x y) (p :: es) := fun H₀ O₀ pos pins s σ H Q I ⟨O, own, e, ds, F, ev, k⟩ => by
  (first | rw [xA_anil] at ev | rw [xA_acons] at ev)
  obtain ⟨d1, e1, ev⟩ := Res.bind_ok ev
  obtain ⟨d2, e2, ev⟩ := Res.bind_ok ev
  obtain ⟨c, ev⟩ := when_ok ev
  cases ev
  refine pa_cons (ha H₀ O₀) (hr H₀ O₀) (plain_star hp) pos pins s σ H Q I ⟨O, own, e, d1, F, e1, fun v1 H1 s1 r1 _ => ⟨O, own, e, d2, F.grow s1, e2, fun vs H2 s2 r2 => ?_⟩⟩
  exact k (v1 :: vs) H2 (s1.trans s2) ⟨v1, vs, rfl, r1.same s2, r2⟩
theorem sar_nil : SAr T cf X .anil [] := sav_nil.sr
theorem sar_cons (hp : plainX p = true) (ha : SR T cf X x p) (hr : SAr T cf X y es) : SAr T cf X (.acons x y) (p :: es) := fun H₀ O₀ pos pins s σ H Q I ⟨O, own, e, ds, F, ev, k⟩ => by
  (first | rw [xA_anil] at ev | rw [xA_acons] at ev)
  obtain ⟨d1, e1, ev⟩ := Res.bind_ok ev
  obtain ⟨d2, e2, ev⟩ := Res.bind_ok ev
  obtain ⟨c, ev⟩ := when_ok ev
  cases ev
  refine pa_cons (ha H₀ O₀) (hr H₀ O₀) (plain_star hp) pos pins s σ H Q I ⟨O, own, e, d1, F, e1, fun v1 H1 s1 r1 => ⟨O, own, e, d2, F.grow s1, e2, fun vs H2 s2 r2 => ?_⟩⟩
  exact k (v1 :: vs) H2 (s1.trans s2) ⟨v1, vs, rfl, r1.same s2, r2⟩
theorem len_line {n : Nat} (h : n ≤ 1000) : n ≤ sizeLine := Nat.le_of_lt (small1000 h)
theorem se_tup {k : Nat} (ha : SAv T cf X x es) : SE T cf X (.tup x) (.Tuple es k pos) := fun H₀ O₀ => by
  refine PE.imp (fun σ H Q hq => ?_) (pe_tup (ha H₀ O₀))
  obtain ⟨O, own, e, d, F, ev, k⟩ := hq
  (first | rw [xE_var] at ev | rw [xE_rd] at ev | rw [xE_con] at ev | rw [xE_glob] at ev | rw [xE_bin] at ev | rw [xE_cmp] at ev | rw [xE_chain] at ev | rw [xE_and] at ev | rw [xE_or] at ev | rw [xE_not] at ev | rw [xE_neg] at ev | rw [xE_ife] at ev | rw [xE_ix] at ev | rw [xE_sl] at ev | rw [xE_omit] at ev | rw [xE_tup] at ev | rw [xE_lst] at ev | rw [xE_call] at ev | rw [xE_callB] at ev | rw [xE_bt] at ev | rw [xE_isi] at ev | rw [xE_dnew] at ev | rw [xE_mth] at ev | rw [xE_callT] at ev | rw [xE_gidx] at ev | rw [xE_lset] at ev | rw [xE_maxd] at ev | rw [xE_lrng] at ev | rw [xE_comp] at ev)
  obtain ⟨ds, e1, ev⟩ := Res.bind_ok ev
  cases ev
  refine ⟨O, own, e, ds, F, e1, fun vs H1 s1 r1 => ⟨by rw [r1.length]; exact len_line (evA_len e1), fun p hp => ?_⟩⟩
  exact k _ _ (s1.trans (same_upd hp _)) (new_tup r1 hp) (fun z => by cases z)
theorem se_lst (ha : SAv T cf X x es) : SE T cf X (.lst x) (.List es pos) := fun H₀ O₀ => by
  refine PE.imp (fun σ H Q hq => ?_) (pe_lst (ha H₀ O₀))
  obtain ⟨O, own, e, d, F, ev, k⟩ := hq
  (first | rw [xE_var] at ev | rw [xE_rd] at ev | rw [xE_con] at ev | rw [xE_glob] at ev | rw [xE_bin] at ev | rw [xE_cmp] at ev | rw [xE_chain] at ev | rw [xE_and] at ev | rw [xE_or] at ev | rw [xE_not] at ev | rw [xE_neg] at ev | rw [xE_ife] at ev | rw [xE_ix] at ev | rw [xE_sl] at ev | rw [xE_omit] at ev | rw [xE_tup] at ev | rw [xE_lst] at ev | rw [xE_call] at ev | rw [xE_callB] at ev | rw [xE_bt] at ev | rw [xE_isi] at ev | rw [xE_dnew] at ev | rw [xE_mth] at ev | rw [xE_callT] at ev | rw [xE_gidx] at ev | rw [xE_lset] at ev | rw [xE_maxd] at ev | rw [xE_lrng] at ev | rw [xE_comp] at ev)
  obtain ⟨ds, e1, ev⟩ := Res.bind_ok ev
  cases ev
  refine ⟨O, own, e, ds, F, e1, fun vs H1 s1 r1 => ⟨by rw [r1.length]; exact len_line (evA_len e1), fun p hp => ?_⟩⟩
  have z := new_lst r1 hp (F.grow s1).trk
  exact k _ _ (s1.trans (same_upd hp _)) z.1 fun _ => z.2.back s1
theorem empty_len {α β : Type} {xs : List α} {ds : List β} (h : xs.length = ds.length) : (!ds.isEmpty) = !xs.isEmpty := by
  cases xs <;> cases ds <;> first | rfl | (simp at h)
theorem tru_D {K : PySem.W.Frag} {H : Hp} {O : Addr → Prop} {d : D} {v : V} {k : Bool} (r : RR K H O d v) (h : d.truth = .ok k) : TruV K v H k := by
  unfold D.truth at h
  split at h
  · cases h; cases (show v = _ from r.rd rfl); exact (rfl : false = false)
  · cases h; cases (show v = _ from r.rd rfl); exact (rfl : k = k)
  · cases h; cases (show v = _ from r.rd rfl); exact rfl
  · obtain ⟨c, h⟩ := when_ok h
    cases h; cases (show v = _ from r.rd rfl); exact ⟨by rw [← big_line]; exact of_decide_eq_true c, rfl⟩
  · cases h
    obtain ⟨a, xs, rfl, q, w⟩ := r.tup
    refine .inr (.inl ⟨xs, q, ?_⟩)
    exact empty_len w.length
  · cases h
    obtain ⟨a, xs, rfl, q, w⟩ := r.lst
    refine .inl ⟨xs, q, ?_⟩
    exact empty_len w.length
  · cases h
    obtain ⟨a, ps, rfl, q, w⟩ := r.dct
    exact .inr (.inr ⟨ps, q, empty_len w.length⟩)
theorem st_gen (ha : SR T cf X x p) (he : ∀ whole, isTrue p X.env whole = (do let v ← whole; standAt p.pos; holding [v] (truthy v))) : ST T cf X x p := fun H₀ O₀ =>
  PT.imp (fun σ H Q ⟨O, own, e, d, k, F, ev, et, q⟩ => ⟨O, own, e, d, F, ev, fun v H' s r => ⟨k, tru_D r et, q H' s⟩⟩) (pt_truth (ha H₀ O₀) he)
theorem cmp_bl {o : CmpOp} {a b d : D} (h : D.cmp o a b = .ok d) : ∃ k, d = .bl k := by
  unfold D.cmp at h
  split at h <;> first
    | (obtain ⟨_, h⟩ := when_ok h; cases h; exact ⟨_, rfl⟩)
    | (cases h; exact ⟨_, rfl⟩)
    | (obtain ⟨_, _, h⟩ := Res.bind_ok h; cases h; exact ⟨_, rfl⟩)
    | cases h
theorem st_cmp {o : CmpOp} (hR : Roomy X) (hm : plainX q = true) (ha : SR T cf X x p) (hb : SR T cf X y q) : ST T cf X (.cmp o x y) (.Compare p [o] [q] pos) := fun H₀ O₀ => by
  refine PT.imp (fun σ H Q hq => ?_) (pt_cmpR (opr_cmp o hR) (ha H₀ O₀) (hb H₀ O₀) (plain_mark hm))
  obtain ⟨O, own, e, d, k, F, ev, et, qk⟩ := hq
  (first | rw [xE_var] at ev | rw [xE_rd] at ev | rw [xE_con] at ev | rw [xE_glob] at ev | rw [xE_bin] at ev | rw [xE_cmp] at ev | rw [xE_chain] at ev | rw [xE_and] at ev | rw [xE_or] at ev | rw [xE_not] at ev | rw [xE_neg] at ev | rw [xE_ife] at ev | rw [xE_ix] at ev | rw [xE_sl] at ev | rw [xE_omit] at ev | rw [xE_tup] at ev | rw [xE_lst] at ev | rw [xE_call] at ev | rw [xE_callB] at ev | rw [xE_bt] at ev | rw [xE_isi] at ev | rw [xE_dnew] at ev | rw [xE_mth] at ev | rw [xE_callT] at ev | rw [xE_gidx] at ev | rw [xE_lset] at ev | rw [xE_maxd] at ev | rw [xE_lrng] at ev | rw [xE_comp] at ev)
  obtain ⟨d1, e1, ev⟩ := Res.bind_ok ev
  obtain ⟨d2, e2, ev⟩ := Res.bind_ok ev
  obtain ⟨k', rfl⟩ := cmp_bl ev
  cases et
  refine ⟨O, own, e, d1, F, e1, fun v1 H1 s1 r1 => ⟨O, own, e, d2, F.grow s1, e2, fun v2 H2 s2 r2 => ?_⟩⟩
  refine ⟨O, d1, d2, _, r1.same s2, r2, ev, (F.grow (s1.trans s2)).trk, fun v H' s3 r3 _ => ?_⟩
  exact ⟨k, r3, qk H' ((s1.trans s2).trans s3)⟩
def SW (T : Tab) (cf : Nat → List D → Res D) (X : Cx) (x : E) (p : Expr) : Prop := ∀ H₀ O₀, PW X p (tT T cf X.K H₀ O₀ x)
theorem SW.st (h : SW T cf X x p) : ST T cf X x p := fun H₀ O₀ => (h H₀ O₀).pt
theorem PW.imp {t t' : TT} (h : ∀ σ H Q, t' σ H Q → t σ H Q) (hp : PW X p t) : PW X p t' := fun w pins s σ H Q I q => hp w pins s σ H Q I (h σ H Q q)
theorem se_neg (ha : SR T cf X x p) : SE T cf X (.neg x) (.UnaryOp .USub p pos) := fun H₀ O₀ => by
  refine PE.imp (fun σ H Q hq => ?_) (pe_un un_neg (ha H₀ O₀))
  obtain ⟨O, own, e, d, F, ev, k⟩ := hq
  (first | rw [xE_var] at ev | rw [xE_rd] at ev | rw [xE_con] at ev | rw [xE_glob] at ev | rw [xE_bin] at ev | rw [xE_cmp] at ev | rw [xE_chain] at ev | rw [xE_and] at ev | rw [xE_or] at ev | rw [xE_not] at ev | rw [xE_neg] at ev | rw [xE_ife] at ev | rw [xE_ix] at ev | rw [xE_sl] at ev | rw [xE_omit] at ev | rw [xE_tup] at ev | rw [xE_lst] at ev | rw [xE_call] at ev | rw [xE_callB] at ev | rw [xE_bt] at ev | rw [xE_isi] at ev | rw [xE_dnew] at ev | rw [xE_mth] at ev | rw [xE_callT] at ev | rw [xE_gidx] at ev | rw [xE_lset] at ev | rw [xE_maxd] at ev | rw [xE_lrng] at ev | rw [xE_comp] at ev)
  obtain ⟨d1, e1, ev⟩ := Res.bind_ok ev
  split at ev
  · cases ev
    refine ⟨O, own, e, _, F, e1, fun v1 H1 s1 r1 => ⟨_, r1.rd rfl, k _ H1 s1 rfl fun z => by cases z⟩⟩
  · cases ev
end
end Tr
namespace Tr
open PySem PySem.Spec PyProof.Rows L2
section
variable {T : Tab} {cf : Nat → List D → Res D} {X : Cx} {x y z : E} {p q r : Expr} {pos pos' : Pos} {es : List Expr}
def spD (K : PySem.W.Frag) (F : List D → Res D) (fr : Bool) : Sp := fun vs H Q _ => ∃ O ds d, (∀ a, O a → ∃ o, H a = some o) ∧ RDs K H O ds vs ∧ F ds = .ok d ∧ ∀ v H', Same H H' → RD K H' O d v → (fr = true → NewL K H H' O d v) → Q v H'
def DefIs (T : Tab) (cf : Nat → List D → Res D) (X : Cx) (f : Nat) (n : Str) : Prop :=
  ∃ k a fd ps, FnOk X.prog X.w X.K X.mg X.base CX0 k a fd ps (spD X.K (cf f) (T.fresh f)) ∧ Room k X.A ∧ X.mg n = some (.ref a) ∧ PySem.W.keepIn X.K (.ref a) = true ∧ Binds X.K fd ps []
theorem tcall_of {f : Nat} {H₀ : Hp} {O₀ : Addr → Prop} {σ : L2.St} {H : Hp} {Q : VK} (h : tE T cf X.K H₀ O₀ (.call f x) σ H Q) : tCall (spD X.K (cf f) (T.fresh f)) [] E0 (tAv T cf X.K H₀ O₀ x) σ H Q := by
  obtain ⟨O, own, e, d, F, ev, k⟩ := h
  (first | rw [xE_var] at ev | rw [xE_rd] at ev | rw [xE_con] at ev | rw [xE_glob] at ev | rw [xE_bin] at ev | rw [xE_cmp] at ev | rw [xE_chain] at ev | rw [xE_and] at ev | rw [xE_or] at ev | rw [xE_not] at ev | rw [xE_neg] at ev | rw [xE_ife] at ev | rw [xE_ix] at ev | rw [xE_sl] at ev | rw [xE_omit] at ev | rw [xE_tup] at ev | rw [xE_lst] at ev | rw [xE_call] at ev | rw [xE_callB] at ev | rw [xE_bt] at ev | rw [xE_isi] at ev | rw [xE_dnew] at ev | rw [xE_mth] at ev | rw [xE_callT] at ev | rw [xE_gidx] at ev | rw [xE_lset] at ev | rw [xE_maxd] at ev | rw [xE_lrng] at ev | rw [xE_comp] at ev)
  obtain ⟨ds, e1, ev⟩ := Res.bind_ok ev
  refine ⟨O, own, e, ds, F, e1, fun vs H1 s1 r1 => ?_⟩
  dsimp only
  rw [List.append_nil]
  refine ⟨O, ds, d, (F.grow s1).trk, r1, ev, fun v H' s2 r2 n2 => k v H' (s1.trans s2) r2 fun fr => (n2 fr).back s1⟩
theorem se_call {f : Nat} {n : Str} {pn : Pos} (hd : DefIs T cf X f n) (hg : Gl X n) (hdb : (n == ("__debug__" : Str)) = false) (hp : (p :: es).all plainX = true) (ha : SAv T cf X x (p :: es)) : SE T cf X (.call f x) (.Call (.Name n pn) (p :: es) [] pos) := fun H₀ O₀ => by
  obtain ⟨k, a, fd, ps, Fk, hr, hm, hk, hb⟩ := hd
  rw [List.all_cons, Bool.and_eq_true] at hp
  exact PE.imp (fun σ H Q h => tcall_of h) (pe_call Fk hr hg hm hk hb .nil pass0 (ha H₀ O₀) hdb (plain_star hp.1) (plain_any hp.2))
theorem se_call0 {f : Nat} {n : Str} {pn : Pos} (hd : DefIs T cf X f n) (hg : Gl X n) (hdb : (n == ("__debug__" : Str)) = false) : SE T cf X (.call f .anil) (.Call (.Name n pn) [] [] pos) := fun H₀ O₀ => by
  obtain ⟨k, a, fd, ps, Fk, hr, hm, hk, hb⟩ := hd
  refine PE.imp (fun σ H Q h => ?_) (pe_call0 Fk hr hg hm hk hb .nil pass0 hdb)
  obtain ⟨O, own, e, d, F, ev, k⟩ := h
  (first | rw [xE_var] at ev | rw [xE_rd] at ev | rw [xE_con] at ev | rw [xE_glob] at ev | rw [xE_bin] at ev | rw [xE_cmp] at ev | rw [xE_chain] at ev | rw [xE_and] at ev | rw [xE_or] at ev | rw [xE_not] at ev | rw [xE_neg] at ev | rw [xE_ife] at ev | rw [xE_ix] at ev | rw [xE_sl] at ev | rw [xE_omit] at ev | rw [xE_tup] at ev | rw [xE_lst] at ev | rw [xE_call] at ev | rw [xE_callB] at ev | rw [xE_bt] at ev | rw [xE_isi] at ev | rw [xE_dnew] at ev | rw [xE_mth] at ev | rw [xE_callT] at ev | rw [xE_gidx] at ev | rw [xE_lset] at ev | rw [xE_maxd] at ev | rw [xE_lrng] at ev | rw [xE_comp] at ev)
  obtain ⟨ds, e1, ev⟩ := Res.bind_ok ev
  (first | rw [xA_anil] at e1 | rw [xA_acons] at e1); cases e1
  exact ⟨O, [], d, F.trk, rfl, ev, fun v H' s2 r2 n2 => k v H' s2 r2 n2⟩
def TabF (T : Tab) (cf : Nat → List D → Res D) (X : Cx) (n : Str) (fs : List Nat) : Prop :=
  ∃ (a : Addr) (xs : List V), X.mg n = some (.ref a) ∧ (∀ H, SqT X.K H a xs) ∧ xs.length = fs.length ∧ ∀ (j f : Nat), fs[j]? = some f → ∃ (ad : Addr) (m : Str), xs[j]? = some (V.ref ad) ∧ X.mg m = some (.ref ad) ∧ DefIs T cf X f m
def TabS (X : Cx) (n : Str) (ss : List Str) : Prop := ∃ a, X.mg n = some (.ref a) ∧ ModS X.K a ss
def rB (K : PySem.W.Frag) (f : List D → Res D) (fr : Bool) : List V → Hp → VK → Prop := fun vs H Q => ∃ O ds d, RRs K H O ds vs ∧ f ds = .ok d ∧ (∀ a, O a → ∃ o, H a = some o) ∧ ∀ v H', Same H H' → RD K H' O d v → (fr = true → NewL K H H' O d v) → Q v H'
theorem rr1 {K : PySem.W.Frag} {H : Hp} {O : Addr → Prop} {d : D} {vs : List V} (h : RRs K H O [d] vs) : ∃ v, vs = [v] ∧ RR K H O d v := by
  obtain ⟨v, r, rfl, h1, h2⟩ := h
  rw [RRs] at h2; subst h2
  exact ⟨v, rfl, h1⟩
theorem ints_vals {K : PySem.W.Frag} {H : Hp} {O : Addr → Prop} : ∀ {ds : List D} {ns : List Int} {xs : List V}, intsOf ds = .ok ns → RDs K H O ds xs → xs = ns.map V.int
  | [], ns, xs, h, w => by
    rw [intsOf] at h; cases h
    rw [RDs] at w; subst w; rfl
  | .int i :: r, ns, xs, h, w => by
    rw [intsOf] at h
    obtain ⟨q, h1, h⟩ := Res.bind_ok h
    cases h
    obtain ⟨v, ys, rfl, e1, e2⟩ := w
    cases (show v = _ from e1)
    rw [ints_vals h1 e2]; rfl
  | .non :: _, _, _, h, _ | .bl _ :: _, _, _, h, _ | .str _ :: _, _, _, h, _ | .tup _ :: _, _, _, h, _ | .lst _ :: _, _, _, h, _ | .dct _ :: _, _, _, h, _ => by
    rw [intsOf] at h <;> first | cases h | (intros; rename_i z; cases z)
def Bt.val : Bt → Value
  | .len => .builtin "len"
  | .sum => .builtin "sum"
  | .tuple => .type "tuple"
  | .list => .type "list"
  | .int => .type "int"
  | .str => .type "str"
  | .bool => .type "bool"
  | .abs => .builtin "abs"
  | .min => .builtin "min"
  | .max => .builtin "max"
  | .all => .builtin "all"
  | .any => .builtin "any"
def Bt.nm : Bt → Str
  | .len => "len"
  | .sum => "sum"
  | .tuple => "tuple"
  | .list => "list"
  | .int => "int"
  | .str => "str"
  | .bool => "bool"
  | .abs => "abs"
  | .min => "min"
  | .max => "max"
  | .all => "all"
  | .any => "any"
theorem run_one {b : Bt} {ds : List D} {d : D} (h : b.run ds = .ok d) (hb : ∀ d1 d2, b.two d1 d2 = .no) : ∃ d0, ds = [d0] ∧ b.one d0 = .ok d := by
  unfold Bt.run at h
  split at h
  · exact ⟨_, rfl, h⟩
  · rw [hb] at h; cases h
  · cases h
theorem run_oneOrTwo {b : Bt} {ds : List D} {d : D} (h : b.run ds = .ok d) : (∃ d0, ds = [d0] ∧ b.one d0 = .ok d) ∨ ∃ d1 d2, ds = [d1, d2] ∧ b.two d1 d2 = .ok d := by
  unfold Bt.run at h
  split at h
  · exact .inl ⟨_, rfl, h⟩
  · exact .inr ⟨_, _, rfl, h⟩
  · cases h
theorem rr2 {K : PySem.W.Frag} {H : Hp} {O : Addr → Prop} {d d' : D} {vs : List V} (h : RRs K H O [d, d'] vs) : ∃ v v', vs = [v, v'] ∧ RR K H O d v ∧ RR K H O d' v' := by
  obtain ⟨v, r, rfl, h1, h2⟩ := h
  obtain ⟨v', rfl, h3⟩ := rr1 h2
  exact ⟨v, v', rfl, h1, h3⟩
theorem bt_len : CallR X (.builtin "len") (rB X.K (Bt.run .len) false) := by
  intro pins s σ H xs us Q I rv h
  obtain ⟨O, ds, d, rr, ev, tr, k⟩ := h
  obtain ⟨d0, rfl, ev⟩ := run_one ev (fun _ _ => rfl)
  obtain ⟨v, rfl, r1⟩ := rr1 rr
  have ev : D.len d0 = .ok d := ev
  unfold D.len at ev
  split at ev
  · cases ev
    obtain ⟨a, ys, rfl, q1, w1⟩ := r1.lst
    exact call_len_seq pins s σ H _ us Q I rv ⟨a, ys, rfl, .inl q1, k _ H (Same.refl H) (by rw [w1.length]; exact rfl) (fun z => by cases z)⟩
  · cases ev
    obtain ⟨a, ys, rfl, q1, w1⟩ := r1.tup
    exact call_len_seq pins s σ H _ us Q I rv ⟨a, ys, rfl, .inr q1, k _ H (Same.refl H) (by rw [w1.length]; exact rfl) (fun z => by cases z)⟩
  · obtain ⟨c, ev⟩ := when_ok ev
    cases ev
    cases (show v = _ from r1.rd rfl)
    exact call_len_str pins s σ H _ us Q I rv ⟨_, rfl, by rw [← big_line]; exact of_decide_eq_true c, k _ H (Same.refl H) rfl (fun z => by cases z)⟩
  · cases ev
    obtain ⟨a, ps, rfl, q1, w1⟩ := r1.dct
    obtain ⟨u, rfl, ru⟩ := vals1 rv
    cases ru
    exact d_len I (.inl q1) fun t s' I' => ⟨.int _, H, I', ⟨t, rfl⟩, k _ H (Same.refl H) (by rw [w1.length]; exact rfl) (fun z => by cases z)⟩
  · cases ev
theorem bt_int : CallR X (.type "int") (rB X.K (Bt.run .int) false) := by
  intro pins s σ H xs us Q I rv h
  obtain ⟨O, ds, d, rr, ev, tr, k⟩ := h
  obtain ⟨d0, rfl, ev⟩ := run_one ev (fun _ _ => rfl)
  obtain ⟨v, rfl, r1⟩ := rr1 rr
  have ev : D.toInt d0 = .ok d := ev
  unfold D.toInt at ev
  split at ev
  · cases ev
    cases (show v = _ from r1.rd rfl)
    exact call_int1 pins s σ H _ us Q I rv (.inl ⟨_, rfl, k _ H (Same.refl H) rfl (fun z => by cases z)⟩)
  · cases ev
    cases (show v = _ from r1.rd rfl)
    exact call_int1 pins s σ H _ us Q I rv (.inr ⟨_, rfl, k _ H (Same.refl H) rfl (fun z => by cases z)⟩)
  · obtain ⟨c, ev⟩ := when_ok ev
    cases ev
    rw [Bool.and_eq_true, decide_eq_true_eq] at c
    cases (show v = _ from r1.rd rfl)
    exact call_int_text pins s σ H _ us Q I rv ⟨_, rfl, c.1, c.2, k _ H (Same.refl H) rfl (fun z => by cases z)⟩
  · cases ev
theorem bt_min (hc : X.calm = true) : CallR X (.builtin "min") (rB X.K (Bt.run .min) false) := by
  intro pins s σ H xs us Q I rv h
  obtain ⟨O, ds, d, rr, ev, tr, k⟩ := h
  rcases run_oneOrTwo ev with ⟨d0, rfl, ev⟩ | ⟨d1, d2, rfl, ev⟩
  · obtain ⟨v, rfl, r1⟩ := rr1 rr
    cases d0 with
    | lst a =>
      obtain ⟨ns, e1, ev⟩ := Res.bind_ok (show (intsOf a >>= _) = Res.ok d from ev)
      cases ns with
      | nil => cases ev
      | cons n ns =>
        cases ev
        obtain ⟨a0, ys, rfl, q1, w1⟩ := r1.lst
        have e2 := ints_vals e1 w1
        subst e2
        exact call_minL hc pins s σ H _ us Q I rv ⟨a0, n, ns, rfl, q1, k _ H (Same.refl H) rfl (fun z => by cases z)⟩
    | _ => cases ev
  obtain ⟨v, v', rfl, r1, r2⟩ := rr2 rr
  have ev : D.min2 d1 d2 = .ok d := ev
  unfold D.min2 at ev
  split at ev
  · cases ev
    cases (show v = _ from r1.rd rfl)
    cases (show v' = _ from r2.rd rfl)
    exact call_min2 hc pins s σ H _ us Q I rv ⟨_, _, rfl, k _ H (Same.refl H) rfl (fun z => by cases z)⟩
  · cases ev
theorem bt_max (hc : X.calm = true) : CallR X (.builtin "max") (rB X.K (Bt.run .max) false) := by
  intro pins s σ H xs us Q I rv h
  obtain ⟨O, ds, d, rr, ev, tr, k⟩ := h
  rcases run_oneOrTwo ev with ⟨d0, rfl, ev⟩ | ⟨d1, d2, rfl, ev⟩
  · obtain ⟨v, rfl, r1⟩ := rr1 rr
    cases d0 with
    | lst a =>
      obtain ⟨ns, e1, ev⟩ := Res.bind_ok (show (intsOf a >>= _) = Res.ok d from ev)
      cases ns with
      | nil => cases ev
      | cons n ns =>
        cases ev
        obtain ⟨a0, ys, rfl, q1, w1⟩ := r1.lst
        have e2 := ints_vals e1 w1
        subst e2
        exact call_maxL hc pins s σ H _ us Q I rv ⟨a0, n, ns, rfl, q1, k _ H (Same.refl H) rfl (fun z => by cases z)⟩
    | _ => cases ev
  obtain ⟨v, v', rfl, r1, r2⟩ := rr2 rr
  have ev : D.max2 d1 d2 = .ok d := ev
  unfold D.max2 at ev
  split at ev
  · cases ev
    cases (show v = _ from r1.rd rfl)
    cases (show v' = _ from r2.rd rfl)
    exact call_max2 hc pins s σ H _ us Q I rv ⟨_, _, rfl, k _ H (Same.refl H) rfl (fun z => by cases z)⟩
  · cases ev
theorem bls_vals {K : PySem.W.Frag} {H : Hp} {O : Addr → Prop} : ∀ {ds : List D} {ns : List Bool} {xs : List V}, blsOf ds = .ok ns → RDs K H O ds xs → xs = ns.map V.bl
  | [], ns, xs, h, w => by
    rw [blsOf] at h; cases h
    rw [RDs] at w; subst w; rfl
  | .bl i :: r, ns, xs, h, w => by
    rw [blsOf] at h
    obtain ⟨q, h1, h⟩ := Res.bind_ok h
    cases h
    obtain ⟨v, ys, rfl, e1, e2⟩ := w
    cases (show v = _ from e1)
    rw [bls_vals h1 e2]; rfl
  | .non :: _, _, _, h, _ | .int _ :: _, _, _, h, _ | .str _ :: _, _, _, h, _ | .tup _ :: _, _, _, h, _ | .lst _ :: _, _, _, h, _ | .dct _ :: _, _, _, h, _ => by
    rw [blsOf] at h <;> first | cases h | (intros; rename_i z; cases z)
theorem bt_all (hc : X.calm = true) : CallR X (.builtin "all") (rB X.K (Bt.run .all) false) := by
  intro pins s σ H xs us Q I rv h
  obtain ⟨O, ds, d, rr, ev, tr, k⟩ := h
  obtain ⟨d0, rfl, ev⟩ := run_one ev (fun _ _ => rfl)
  obtain ⟨v, rfl, r1⟩ := rr1 rr
  have ev : D.all d0 = .ok d := ev
  unfold D.all at ev
  split at ev
  · obtain ⟨ns, e1, ev⟩ := Res.bind_ok ev
    cases ev
    obtain ⟨a, ys, rfl, q1, w1⟩ := r1.lst
    have e := bls_vals e1 w1
    subst e
    exact Tr.call_all pins s σ H _ us Q I rv ⟨a, ns, rfl, q1, hc, k _ H (Same.refl H) rfl (fun z => by cases z)⟩
  · cases ev
theorem tcb_of {b : Bt} {H₀ : Hp} {O₀ : Addr → Prop} {σ : L2.St} {H : Hp} {Q : VK} (h : tE T cf X.K H₀ O₀ (.bt b x) σ H Q) : tCB (rB X.K (Bt.run b) (freshE T (.bt b x))) (tAr T cf X.K H₀ O₀ x) σ H Q := by
  obtain ⟨O, own, e, d, F, ev, k⟩ := h
  (first | rw [xE_var] at ev | rw [xE_rd] at ev | rw [xE_con] at ev | rw [xE_glob] at ev | rw [xE_bin] at ev | rw [xE_cmp] at ev | rw [xE_chain] at ev | rw [xE_and] at ev | rw [xE_or] at ev | rw [xE_not] at ev | rw [xE_neg] at ev | rw [xE_ife] at ev | rw [xE_ix] at ev | rw [xE_sl] at ev | rw [xE_omit] at ev | rw [xE_tup] at ev | rw [xE_lst] at ev | rw [xE_call] at ev | rw [xE_callB] at ev | rw [xE_bt] at ev | rw [xE_isi] at ev | rw [xE_dnew] at ev | rw [xE_mth] at ev | rw [xE_callT] at ev | rw [xE_gidx] at ev | rw [xE_lset] at ev | rw [xE_maxd] at ev | rw [xE_lrng] at ev | rw [xE_comp] at ev)
  obtain ⟨ds, e1, ev⟩ := Res.bind_ok ev
  refine ⟨O, own, e, ds, F, e1, fun vs H1 s1 r1 => ?_⟩
  refine ⟨O, ds, d, r1, ev, (F.grow s1).trk, fun v H' s2 r2 n2 => k v H' (s1.trans s2) r2 fun fr => (n2 fr).back s1⟩
theorem se_maxd {pn kp : Pos} (hh : X.calm = true) (hm : X.mg "max" = none) (hg : Gl X "max") (hp : plainX p = true) (ha : SR T cf X x p) (hb : SE T cf X y q) :
    SE T cf X (.maxd x y) (.Call (.Name "max" pn) [p] [⟨some "default", q, kp⟩] pos) := fun H₀ O₀ pins s σ H Q I hq0 => by
  obtain ⟨O, own, e, d, F, ev, k⟩ := hq0
  (first | rw [xE_var] at ev | rw [xE_rd] at ev | rw [xE_con] at ev | rw [xE_glob] at ev | rw [xE_bin] at ev | rw [xE_cmp] at ev | rw [xE_chain] at ev | rw [xE_and] at ev | rw [xE_or] at ev | rw [xE_not] at ev | rw [xE_neg] at ev | rw [xE_ife] at ev | rw [xE_ix] at ev | rw [xE_sl] at ev | rw [xE_omit] at ev | rw [xE_tup] at ev | rw [xE_lst] at ev | rw [xE_call] at ev | rw [xE_callB] at ev | rw [xE_bt] at ev | rw [xE_isi] at ev | rw [xE_dnew] at ev | rw [xE_mth] at ev | rw [xE_callT] at ev | rw [xE_gidx] at ev | rw [xE_lset] at ev | rw [xE_maxd] at ev | rw [xE_lrng] at ev | rw [xE_comp] at ev)
  obtain ⟨d1, e1, ev⟩ := Res.bind_ok ev
  obtain ⟨d2, e2, ev⟩ := Res.bind_ok ev
  refine wpAny_Call_Name_kw (ld_blt I hg hm (show bootBuiltins "max" = some (.builtin "max") by decide +kernel) (PyProof.Rows.callWith_kw (thn (pa_cons (ha H₀ O₀) pa_nil (plain_star hp) pos pins s σ H (fun vs H1 => ∃ v, vs = [v] ∧ Same H H1 ∧ RR X.K H1 O d1 v) I ⟨O, own, e, d1, F, e1, fun v H' s' r => ⟨v, rfl, s', r⟩⟩) fun us s1 ⟨vs, H1, I1, r1, v, ev1, s1', rr⟩ => ?_) (by rw [plain_star hp]; rfl) (by rw [plain_star hp]; rfl) rfl rfl))
  subst ev1
  obtain ⟨u, rfl, ru⟩ := vals1 r1
  refine PyProof.Rows.kws_cons (thn (hb H₀ O₀ pins s1 σ H1 (fun v2 H2 => Same H1 H2 ∧ RD X.K H2 O d2 v2) I1 ⟨O, own, e, d2, F.grow s1', e2, fun v2 H2 s2 r2 _ => ⟨s2, r2⟩⟩) fun u2 s2 ⟨v2, H2, I2, r2, s12, rd2⟩ => PyProof.Rows.kws_nil ?_)
  cases d1 with
  | lst a =>
    cases d2 with
    | int dd =>
      obtain ⟨ns, e3, ev⟩ := Res.bind_ok (show (intsOf a >>= _) = Res.ok d from ev)
      obtain ⟨a0, ys, rfl, q1, w1⟩ := (rr.same s12).lst
      have e4 := ints_vals e3 w1
      subst e4
      cases (show v2 = .int dd from rd2)
      obtain ⟨t, rfl⟩ := r2
      cases ru
      refine maxd_val hh I2 q1 ?_
      cases ns with
      | nil => cases ev; exact k _ H2 (s1'.trans s12) rfl (fun z => by cases z)
      | cons n ns => cases ev; exact k _ H2 (s1'.trans s12) rfl (fun z => by cases z)
    | _ => cases ev
  | _ => cases ev
def Bt.use : Bt → Bool
  | .sum => false
  | .tuple => false
  | .list => false
  | .str => false
  | .bool => false
  | .abs => false
  | .any => false
  | _ => true
theorem se_bt {b : Bt} {n : Str} {pn : Pos} (hu : b.use = true) (hh : X.calm = true) (hn : n = b.nm) (hm : X.mg b.nm = none) (hg : Gl X n) (hp : (p :: es).all plainX = true) (ha : SAr T cf X x (p :: es)) : SE T cf X (.bt b x) (.Call (.Name n pn) (p :: es) [] pos) := fun H₀ O₀ => by
  subst hn
  rw [List.all_cons, Bool.and_eq_true] at hp
  refine PE.imp (fun σ H Q h => tcb_of h) ?_
  cases b with
  | len => exact pe_callB bt_len hg hm PySem.boot_len (ha H₀ O₀) (by decide) (by decide) (plain_star hp.1) (plain_any hp.2)
  | sum => cases hu
  | tuple => cases hu
  | list => cases hu
  | int => exact pe_callTy bt_int hg hm PyProof.Rows.boot_int (ha H₀ O₀) (by decide) (by decide) (plain_star hp.1) (plain_any hp.2)
  | str => cases hu
  | bool => cases hu
  | abs => cases hu
  | min => exact pe_callB (bt_min hh) hg hm (by decide +kernel) (ha H₀ O₀) (by decide) (by decide) (plain_star hp.1) (plain_any hp.2)
  | max => exact pe_callB (bt_max hh) hg hm (by decide +kernel) (ha H₀ O₀) (by decide) (by decide) (plain_star hp.1) (plain_any hp.2)
  | all => exact pe_callB (bt_all hh) hg hm (by decide +kernel) (ha H₀ O₀) (by decide) (by decide) (plain_star hp.1) (plain_any hp.2)
  | any => cases hu
def Ty.nm : Ty → String
  | .int => "int"
  | .bool => "bool"
  | .str => "str"
  | .tuple => "tuple"
  | .list => "list"
def Mt.nm : Mt → Str
  | .split => "split"
  | .join => "join"
def baseX : Expr → Bool
  | .Name _ _ => true
  | .Constant _ _ _ => true
  | .Subscript _ _ _ => true
  | .BinOp _ _ _ _ => true
  | _ => false
theorem base_of {e : Expr} {nm : Str} {env : Env} (h : baseX e = true) (hn : (nm == ("__class__" : Str)) = false) : attributeBase e nm env (eval e env) = eval e env := by
  cases e <;> first | (cases h; done) | rfl
end
end Tr
namespace Tr
open PySem PySem.Spec PyProof.Rows L2
def Wk1 (K : PySem.W.Frag) (J : It) (d0 : D) (v0 : V) (ds : List D) : Prop := ∀ i H O, RR K H O d0 v0 →
  (i < ds.length → J.go i H) ∧ (ds.length ≤ i → J.stop i H) ∧ ∀ x H' d, ds[i]? = some d → J.yld i H x H' → Same H H' ∧ RD K H' O d x
def Wk (K : PySem.W.Frag) (J : It) (srs : List (D × V)) (ds : List D) : Prop := ∀ i H O, (∀ t ∈ srs, RR K H O t.1 t.2) →
  (i < ds.length → J.go i H) ∧ (ds.length ≤ i → J.stop i H) ∧ ∀ x H' d, ds[i]? = some d → J.yld i H x H' → Same H H' ∧ RD K H' O d x
theorem Wk1.wk {K : PySem.W.Frag} {J : It} {d0 : D} {v0 : V} {ds : List D} (h : Wk1 K J d0 v0 ds) : Wk K J [(d0, v0)] ds := fun i H O r => h i H O (r (d0, v0) (List.mem_singleton.mpr rfl))
theorem k1_of {K : PySem.W.Frag} {H : Hp} {O : Addr → Prop} {rd : Bool} {ds : List D} {R : It → Hp → Prop} (k : ∀ J H' srs, Same H H' → (∀ t ∈ srs, RR K H' O t.1 t.2) → (rd = false → ∀ t ∈ srs, RD K H' O t.1 t.2) → Wk K J srs ds → R J H') :
    ∀ J H' d0 v0, Same H H' → RR K H' O d0 v0 → (rd = false → RD K H' O d0 v0) → Wk1 K J d0 v0 ds → R J H' := fun J H' d0 v0 s r rv w =>
  k J H' [(d0, v0)] s (fun t ht => by rw [List.mem_singleton.mp ht]; exact r) (fun z t ht => by rw [List.mem_singleton.mp ht]; exact rv z) w.wk
def tI (T : Tab) (cf : Nat → List D → Res D) (K : PySem.W.Frag) (H₀ : Hp) (O₀ : Addr → Prop) (x : E) (rd : Bool) : TI := fun σ H R => ∃ O own e ds, Fm K H₀ O₀ H O own e σ ∧ evI T cf x e = .ok ds ∧
  ∀ J H' srs, Same H H' → (∀ t ∈ srs, RR K H' O t.1 t.2) → (rd = false → ∀ t ∈ srs, RD K H' O t.1 t.2) → Wk K J srs ds → R J H'
def SI (T : Tab) (cf : Nat → List D → Res D) (X : Cx) (tg : Expr) (x : E) (rd : Bool) (p : Expr) : Prop := ∀ H₀ O₀, PI X tg p (tI T cf X.K H₀ O₀ x rd)
section
variable {T : Tab} {cf : Nat → List D → Res D} {X : Cx} {x y z : E} {p q r tg : Expr} {pos pos' : Pos} {es : List Expr}
theorem wk_list {K : PySem.W.Frag} {a : Addr} {ds : List D} : Wk1 K (Itl K a) (.lst ds) (.ref a) ds := by
  intro i H O r
  obtain ⟨a', xs, e, q, w⟩ := r.lst
  cases e
  have hl := w.length
  refine ⟨fun h => ?_, fun h => ⟨xs, q, by omega⟩, fun x H' d hd y => ?_⟩
  · obtain ⟨v, h1, h2⟩ := w.get (List.getElem?_eq_getElem h)
    exact ⟨xs, v, q, h1⟩
  · obtain ⟨rfl, y⟩ := y
    refine ⟨Same.refl _, ?_⟩
    obtain ⟨v, h1, h2⟩ := w.get hd
    have := (y xs q).symm.trans h1
    cases this
    exact h2
theorem wk_tup {K : PySem.W.Frag} {a : Addr} {ds : List D} : Wk1 K (Itt K a) (.tup ds) (.ref a) ds := by
  intro i H O r
  obtain ⟨a', xs, e, q, w⟩ := r.tup
  cases e
  have hl := w.length
  refine ⟨fun h => ?_, fun h => ⟨xs, q, by omega⟩, fun x H' d hd y => ?_⟩
  · obtain ⟨v, h1, h2⟩ := w.get (List.getElem?_eq_getElem h)
    exact ⟨xs, v, q, h1⟩
  · obtain ⟨rfl, y⟩ := y
    refine ⟨Same.refl _, ?_⟩
    obtain ⟨v, h1, h2⟩ := w.get hd
    have := (y xs q).symm.trans h1
    cases this
    exact h2
theorem rangeD_len (lo : Int) : ∀ n, (rangeD lo n).length = n
  | 0 => rfl
  | n + 1 => by rw [rangeD, List.length_cons, rangeD_len (lo + 1) n]
theorem rangeD_get : ∀ (lo : Int) (n i : Nat), i < n → (rangeD lo n)[i]? = some (.int (lo + i))
  | lo, 0, i, h => absurd h (Nat.not_lt_zero _)
  | lo, n + 1, 0, _ => by rw [rangeD]; simp
  | lo, n + 1, i + 1, h => by
    rw [rangeD, List.getElem?_cons_succ, rangeD_get (lo + 1) n i (by omega)]
    congr 2
    push_cast
    omega
theorem wk_rng {K : PySem.W.Frag} {lo : Int} {n : Nat} : Wk1 K (Itr lo n) .non .non (rangeD lo n) := by
  intro i H O r
  rw [rangeD_len]
  refine ⟨fun h => h, fun h => h, fun x H' d hd y => ?_⟩
  obtain ⟨rfl, rfl⟩ := y
  refine ⟨Same.refl _, ?_⟩
  by_cases hi : i < n
  · rw [rangeD_get lo n i hi] at hd
    cases hd
    exact rfl
  · rw [List.getElem?_eq_none (by rw [rangeD_len]; omega)] at hd
    cases hd
theorem wk_str {K : PySem.W.Frag} {z : Str} : Wk1 K (Its z) (.str z) (.str z) (z.cps.toList.map fun c => D.str (chr1 c)) := by
  intro i H O r
  rw [List.length_map]
  refine ⟨fun h => by simpa [Its] using h, fun h => by simpa [Its] using h, fun x H' d hd y => ?_⟩
  obtain ⟨rfl, c, hc, rfl⟩ := y
  refine ⟨Same.refl _, ?_⟩
  rw [List.getElem?_map] at hd
  have hc' : z.cps.toList[i]? = some c := by simpa using hc
  rw [hc'] at hd
  cases hd
  exact rfl
theorem si_seq {rd : Bool} (ha : SR T cf X x p) (hv : rd = false → SE T cf X x p) : SI T cf X tg (.seq x) rd p := by
  intro H₀ O₀ pins s σ H R I h
  obtain ⟨O, own, e, ds, F, ev, k⟩ := h
  replace k := k1_of k
  (first | rw [xI_seq] at ev | rw [xI_rng] at ev | rw [xI_rng2] at ev | rw [xI_enum] at ev | rw [xI_zip] at ev)
  obtain ⟨d1, e1, ev⟩ := Res.bind_ok ev
  have main : ∀ {u : Value} {s1 : Shared} {v : V} {H1 : Hp}, Inv X pins σ H1 s1 → RelV v u → Same H H1 → RR X.K H1 O d1 v → (rd = false → RD X.K H1 O d1 v) → wpAny (model X.prog X.w) X.A (pyIter u) (PIE X pins σ tg R) X.xe s1 := by
    intro u s1 v H1 I1 r1 s1' rr rv
    unfold D.items at ev
    split at ev
    · cases ev
      obtain ⟨a, xs, e, q1, w1⟩ := rr.lst
      subst e
      cases r1
      obtain ⟨its, r', pl, hz⟩ := I1.list q1
      refine wpAny_pyIter_list pl.isList ?_
      refine ⟨s1.heap.objs.size, [s1.heap.objs.size], _, Itl X.K a, H1, rfl, I1.kept (t' := s1.toks) fun b u e => Heap.get?_push_of_some _ e, turn_list a _, ⟨_, Heap.get?_push_size _ rfl, rfl, rfl⟩, fun b hb => ?_, k _ H1 _ _ s1' rr rv wk_list⟩
      rcases List.mem_cons.mp hb with rfl | hb
      · exact I1.fpOk (Nat.le_refl _) (I1.hok.fresh (Nat.le_refl _))
      · cases hb
    · cases ev
      obtain ⟨a, xs, e, q1, w1⟩ := rr.tup
      subst e
      cases r1
      obtain ⟨its, r', pl, hz⟩ := I1.tuple q1
      refine wpAny_pyIter_tuple pl ?_
      refine ⟨s1.heap.objs.size, [s1.heap.objs.size], _, Itt X.K a, H1, rfl, I1.kept (t' := s1.toks) fun b u e => Heap.get?_push_of_some _ e, turn_tuple a _, ⟨_, Heap.get?_push_size _ rfl, rfl, rfl⟩, fun b hb => ?_, k _ H1 _ _ s1' rr rv wk_tup⟩
      rcases List.mem_cons.mp hb with rfl | hb
      · exact I1.fpOk (Nat.le_refl _) (I1.hok.fresh (Nat.le_refl _))
      · cases hb
    · cases ev
      rename_i z
      cases (show v = .str z from rr.rd rfl)
      obtain ⟨t, rfl⟩ := r1
      exact pi_str I1 (k _ H1 (.str z) (.str z) s1' rr rv wk_str)
    · cases ev
  cases rd with
  | true => exact thn (ha H₀ O₀ pins s σ H (fun v H1 => Same H H1 ∧ RR X.K H1 O d1 v) I ⟨O, own, e, d1, F, e1, fun v H' s' r => ⟨s', r⟩⟩) fun u s1 ⟨v, H1, I1, r1, s1', rr⟩ => main I1 r1 s1' rr (fun z => by cases z)
  | false => exact thn (hv rfl H₀ O₀ pins s σ H (fun v H1 => Same H H1 ∧ RD X.K H1 O d1 v) I ⟨O, own, e, d1, F, e1, fun v H' s' r _ => ⟨s', r⟩⟩) fun u s1 ⟨v, H1, I1, r1, s1', rr⟩ => main I1 r1 s1' rr.rr (fun _ => rr)
theorem si_rng {rd : Bool} {n : Str} {pn : Pos} (hn : n = "range") (hg : Gl X n) (hm : X.mg "range" = none) (hp : plainX p = true) (ha : SE T cf X x p) : SI T cf X tg (.rng x) rd (.Call (.Name n pn) [p] [] pos) := by
  intro H₀ O₀ pins s σ H R I h
  subst hn
  obtain ⟨O, own, e, ds, F, ev, k⟩ := h
  replace k := k1_of k
  (first | rw [xI_seq] at ev | rw [xI_rng] at ev | rw [xI_rng2] at ev | rw [xI_enum] at ev | rw [xI_zip] at ev)
  obtain ⟨d1, e1, ev⟩ := Res.bind_ok ev
  refine pi_range1 hg hm (pa_cons (ha H₀ O₀) pa_nil (plain_star hp)) (plain_star hp) pins s σ H R I ⟨O, own, e, d1, F, e1, fun v H' s' r _ => ?_⟩
  split at ev
  · obtain ⟨c, ev⟩ := when_ok ev
    cases ev
    cases (show v = _ from r)
    simp only [small62, Bool.and_eq_true, decide_eq_true_eq] at c
    exact ⟨_, rfl, c.1, c.2, k _ H' .non .non s' (.inl rfl) (fun _ => rfl) wk_rng⟩
  · cases ev
theorem si_rng2 {rd : Bool} {n : Str} {pn : Pos} (hn : n = "range") (hg : Gl X n) (hm : X.mg "range" = none) (hp : plainX p = true) (hq : plainX q = true) (ha : SE T cf X x p) (hb : SE T cf X y q) : SI T cf X tg (.rng2 x y) rd (.Call (.Name n pn) [p, q] [] pos) := by
  intro H₀ O₀ pins s σ H R I h
  subst hn
  obtain ⟨O, own, e, ds, F, ev, k⟩ := h
  replace k := k1_of k
  (first | rw [xI_seq] at ev | rw [xI_rng] at ev | rw [xI_rng2] at ev | rw [xI_enum] at ev | rw [xI_zip] at ev)
  obtain ⟨d1, e1, ev⟩ := Res.bind_ok ev
  split at ev
  · obtain ⟨d2, e2, ev⟩ := Res.bind_ok ev
    split at ev
    · obtain ⟨c, ev⟩ := when_ok ev
      cases ev
      simp only [small62, Bool.and_eq_true, decide_eq_true_eq] at c
      refine pi_range2 hg hm (pa_cons (ha H₀ O₀) (pa_cons (hb H₀ O₀) pa_nil (plain_star hq)) (plain_star hp)) (by rw [plain_star hp, plain_star hq]; rfl) (plain_star hq) pins s σ H R I ⟨O, own, e, _, F, e1, fun v H1 s1 r1 _ => ⟨O, own, e, _, F.grow s1, e2, fun v2 H2 s2 r2 _ => ?_⟩⟩
      cases (show v = _ from r1)
      cases (show v2 = _ from r2)
      exact ⟨_, _, rfl, ⟨c.1.1, c.1.2, c.2.1, c.2.2⟩, k _ H2 .non .non (s1.trans s2) (.inl rfl) (fun _ => rfl) wk_rng⟩
    · cases ev
  · cases ev
def Ft (K : PySem.W.Frag) (H₀ : Hp) (O₀ : Addr → Prop) (ts : List (D × V)) (e : Nv) (σ : L2.St) (H : Hp) : Prop := ∃ O own, Fm K H₀ O₀ H O own e σ ∧ ∀ t ∈ ts, RD K H O t.1 t.2
def tG (K : PySem.W.Frag) (H₀ : Hp) (O₀ : Addr → Prop) (g : G) : TG := fun v σ H Q => ∃ O own e d e', Fm K H₀ O₀ H O own e σ ∧ RD K H O d v ∧ g.put d e = .ok e' ∧ ∀ σ' own', (∀ j a, own' j = some a → own j = some a) → Fm K H₀ O₀ H O own' e' σ' → Q σ' H
def SG (X : Cx) (g : G) (tg : Expr) : Prop := ∀ H₀ O₀, PG X tg (tG X.K H₀ O₀ g)
theorem PG.imp {t t' : TG} (h : ∀ v σ H Q, t' v σ H Q → t v σ H Q) (hp : PG X tg t) : PG X tg t' := fun pins s σ H v u Q I r q => hp pins s σ H v u Q I r (h v σ H Q q)
theorem own_less {own : Nat → Option Addr} {i : Nat} : ∀ j a, (fun j => if j = i then none else own j) j = some a → own j = some a := fun j a h => by
  dsimp only at h
  by_cases hj : j = i
  · rw [if_pos hj] at h; cases h
  · rw [if_neg hj] at h; exact h
theorem sg_one {i : Nat} {n : Str} (hN : X.N.Nodup) (hi : X.N[i]? = some n) (hx : Loc X.env.scope n) (hf : X.fn n = true ∨ X.env.scope.names.lookup n = some .local) : SG X (.one i) (.Name n pos) := fun H₀ O₀ =>
  PG.imp (fun v σ H Q ⟨O, own, e, d, e', F, r, ev, k⟩ => by
    cases ev
    exact k _ _ own_less (F.setV i r)) (pg_name hN hi hx hf)
def tGs (K : PySem.W.Frag) (H₀ : Hp) (O₀ : Addr → Prop) (is : List Nat) : TGs := fun vs σ H Q => ∃ O own e ds e', Fm K H₀ O₀ H O own e σ ∧ RDs K H O ds vs ∧ puts is ds e = .ok e' ∧ ∀ σ' own', (∀ j a, own' j = some a → own j = some a) → Fm K H₀ O₀ H O own' e' σ' → Q σ' H
def SGs (X : Cx) (is : List Nat) (tgs : List Expr) : Prop := ∀ H₀ O₀, PGs X tgs (tGs X.K H₀ O₀ is)
theorem PGs.imp {tgs : List Expr} {t t' : TGs} (h : ∀ v σ H Q, t' v σ H Q → t v σ H Q) (hp : PGs X tgs t) : PGs X tgs t' := fun pins s σ H v u Q I r q => hp pins s σ H v u Q I r (h v σ H Q q)
theorem sgs_nil : SGs X [] [] := fun H₀ O₀ => PGs.imp (fun vs σ H Q ⟨O, own, e, ds, e', F, r, ev, k⟩ => by
  cases ds with
  | nil =>
    simp only [puts] at ev
    cases ev
    rw [RDs] at r
    exact ⟨r, k _ _ (fun _ _ h => h) F⟩
  | cons d ds => simp only [puts] at ev; cases ev) pgs_nil
theorem each_name {n : Str} {pos : Pos} {es : List Expr} {env : Env} : (assignEach (.Name n pos :: es) env).map (·.2) = assign (.Name n pos) env :: (assignEach es env).map (·.2) := rfl
theorem sgs_cons {i : Nat} {is : List Nat} {n : Str} (hN : X.N.Nodup) (hi : X.N[i]? = some n) (hx : Loc X.env.scope n) (hf : X.fn n = true ∨ X.env.scope.names.lookup n = some .local) (h : SGs X is es) : SGs X (i :: is) (.Name n pos :: es) := fun H₀ O₀ =>
  PGs.imp (fun vs σ H Q ⟨O, own, e, ds, e', F, r, ev, k⟩ => by
    cases ds with
    | nil => simp only [puts] at ev; cases ev
    | cons d ds =>
      rw [puts] at ev
      obtain ⟨v, vr, rfl, r1, r2⟩ := r
      exact ⟨v, vr, rfl, O, _, _, ds, e', F.setV i r1, r2, ev, fun σ' own' h => k σ' own' fun j a q => own_less j a (h j a q)⟩) (pgs_cons (pg_name hN hi hx hf) (h H₀ O₀) each_name)
def names1 : List Expr → Bool
  | [] => true
  | .Name _ _ :: r => names1 r
  | _ => false
theorem each_len {env : Env} : ∀ {es : List Expr}, names1 es = true → (assignEach es env).length = es.length := by
  intro es
  induction es with
  | nil => intro _; rfl
  | cons e es ih =>
    intro h
    cases e with
    | Name n pos =>
      show ((false, assign (.Name n pos) env) :: assignEach es env).length = _
      rw [List.length_cons, ih h, List.length_cons]
    | _ => exact absurd h Bool.false_ne_true
theorem each_star {env : Env} : ∀ {es : List Expr}, names1 es = true → (assignEach es env).findIdx? (·.1) = none := by
  intro es
  induction es with
  | nil => intro _; rfl
  | cons e es ih =>
    intro h
    cases e with
    | Name n pos =>
      show ((false, assign (.Name n pos) env) :: assignEach es env).findIdx? (·.1) = none
      rw [List.findIdx?_cons, ih h]; rfl
    | _ => exact absurd h Bool.false_ne_true
theorem puts_len : ∀ {is : List Nat} {ds : List D} {e e' : Nv}, puts is ds e = .ok e' → ds.length = is.length
  | [], [], _, _, _ => rfl
  | [], _ :: _, _, _, h => by simp only [puts] at h; cases h
  | _ :: _, [], _, _, h => by simp only [puts] at h; cases h
  | i :: is, d :: ds, e, e', h => by
    rw [puts] at h
    rw [List.length_cons, List.length_cons, puts_len h]
theorem sg_many {is : List Nat} {k : Nat} (hc : X.calm = true) (hn : names1 es = true) (hl : es.length = is.length) (h : SGs X is es) : SG X (.many is) (.Tuple es k pos) := fun H₀ O₀ =>
  PG.imp (fun v σ H Q ⟨O, own, e, d, e', F, r, ev, k⟩ => by
    cases d with
    | tup ds =>
      have ev : puts is ds e = .ok e' := ev
      obtain ⟨a, xs, rfl, q, w⟩ := r
      exact ⟨a, xs, rfl, q, by rw [w.length, puts_len ev, ← hl], O, own, e, ds, e', F, w, ev, k⟩
    | non => cases ev
    | bl _ => cases ev
    | int _ => cases ev
    | str _ => cases ev
    | lst _ => cases ev
    | dct _ => cases ev) (pg_tup (n := es.length) hc (h H₀ O₀) (each_len hn) (each_star hn))
def Ends.to (K : PySem.W.Frag) (H₀ : Hp) (O₀ : Addr → Prop) (ts : List (D × V)) (D' : Ends) : Out → Prop
  | .nx e' => ∀ σ' H', Ft K H₀ O₀ ts e' σ' H' → D'.nx σ' H'
  | .bk e' => ∀ σ' H', Ft K H₀ O₀ ts e' σ' H' → D'.bk σ' H'
  | .ct e' => ∀ σ' H', Ft K H₀ O₀ ts e' σ' H' → D'.ct σ' H'
  | .rt d fr => ∀ v H', Same H₀ H' → RD K H' O₀ d v → (fr = true → NewL K H₀ H' O₀ d v) → D'.rt v H'
def tS (T : Tab) (cf : Nat → List D → Res D) (K : PySem.W.Frag) (H₀ : Hp) (O₀ : Addr → Prop) (x : S) : TS := fun D' σ H => ∃ ts e out, Ft K H₀ O₀ ts e σ H ∧ exS T cf x e = .ok out ∧ Ends.to K H₀ O₀ ts D' out
def SS (T : Tab) (cf : Nat → List D → Res D) (X : Cx) (x : S) (p : Stmt) : Prop := ∀ H₀ O₀, PS X p (tS T cf X.K H₀ O₀ x)
def SB (T : Tab) (cf : Nat → List D → Res D) (X : Cx) (x : S) (p : List Stmt) : Prop := ∀ H₀ O₀, PSs X p (tS T cf X.K H₀ O₀ x)
theorem PS.imp {st : Stmt} {t t' : TS} (h : ∀ D' σ H, t' D' σ H → t D' σ H) (hp : PS X st t) : PS X st t' := fun pins s σ H D' I q => hp pins s σ H D' I (h D' σ H q)
theorem PSs.imp {st : List Stmt} {t t' : TS} (h : ∀ D' σ H, t' D' σ H → t D' σ H) (hp : PSs X st t) : PSs X st t' := fun pins s σ H D' I q => hp pins s σ H D' I (h D' σ H q)
variable {a b c : S} {st : Stmt} {sts : List Stmt}
theorem sb_nil : SB T cf X .nil [] := fun H₀ O₀ => PSs.imp (fun D' σ H ⟨ts, e, out, F, ev, k⟩ => by
  (first | rw [xS_nil] at ev | rw [xS_cons] at ev | rw [xS_pass] at ev | rw [xS_ret] at ev | rw [xS_retO] at ev | rw [xS_retN] at ev | rw [xS_asg] at ev | rw [xS_asgO] at ev | rw [xS_sealed] at ev | rw [xS_ite] at ev | rw [xS_forS] at ev | rw [xS_whl] at ev | rw [xS_app] at ev | rw [xS_rev] at ev | rw [xS_dput] at ev | rw [xS_ext] at ev | rw [xS_never] at ev | rw [xS_asgP] at ev | rw [xS_appP] at ev | rw [xS_aug] at ev | rw [xS_lput] at ev | rw [xS_brk] at ev | rw [xS_cnt] at ev); cases ev
  exact k σ H F) pss_nil
theorem sb_cons (h1 : SS T cf X a st) (h2 : SB T cf X b sts) : SB T cf X (.cons a b) (st :: sts) := fun H₀ O₀ => by
  refine PSs.imp (fun D' σ H hq => ?_) (pss_cons (h1 H₀ O₀) (h2 H₀ O₀))
  obtain ⟨ts, e, out, F, ev, k⟩ := hq
  (first | rw [xS_nil] at ev | rw [xS_cons] at ev | rw [xS_pass] at ev | rw [xS_ret] at ev | rw [xS_retO] at ev | rw [xS_retN] at ev | rw [xS_asg] at ev | rw [xS_asgO] at ev | rw [xS_sealed] at ev | rw [xS_ite] at ev | rw [xS_forS] at ev | rw [xS_whl] at ev | rw [xS_app] at ev | rw [xS_rev] at ev | rw [xS_dput] at ev | rw [xS_ext] at ev | rw [xS_never] at ev | rw [xS_asgP] at ev | rw [xS_appP] at ev | rw [xS_aug] at ev | rw [xS_lput] at ev | rw [xS_brk] at ev | rw [xS_cnt] at ev)
  obtain ⟨o1, e1, ev⟩ := Res.bind_ok ev
  refine ⟨ts, e, o1, F, e1, ?_⟩
  cases o1 with
  | nx e' => exact fun σ' H' F' => ⟨ts, e', out, F', ev, k⟩
  | rt d fr => cases ev; exact k
  | bk e' => cases ev; exact k
  | ct e' => cases ev; exact k
theorem sb_seal {i : Nat} (h2 : SB T cf X b sts) : SB T cf X (.cons (.sealed i) b) sts := fun H₀ O₀ => by
  refine PSs.imp (fun D' σ H hq => ?_) (h2 H₀ O₀)
  obtain ⟨ts, e, out, ⟨O, own, F, tt⟩, ev, k⟩ := hq
  (first | rw [xS_nil] at ev | rw [xS_cons] at ev | rw [xS_pass] at ev | rw [xS_ret] at ev | rw [xS_retO] at ev | rw [xS_retN] at ev | rw [xS_asg] at ev | rw [xS_asgO] at ev | rw [xS_sealed] at ev | rw [xS_ite] at ev | rw [xS_forS] at ev | rw [xS_whl] at ev | rw [xS_app] at ev | rw [xS_rev] at ev | rw [xS_dput] at ev | rw [xS_ext] at ev | rw [xS_never] at ev | rw [xS_asgP] at ev | rw [xS_appP] at ev | rw [xS_aug] at ev | rw [xS_lput] at ev | rw [xS_brk] at ev | rw [xS_cnt] at ev)
  obtain ⟨o1, e1, ev⟩ := Res.bind_ok ev
  (first | rw [xS_nil] at e1 | rw [xS_cons] at e1 | rw [xS_pass] at e1 | rw [xS_ret] at e1 | rw [xS_retO] at e1 | rw [xS_retN] at e1 | rw [xS_asg] at e1 | rw [xS_asgO] at e1 | rw [xS_sealed] at e1 | rw [xS_ite] at e1 | rw [xS_forS] at e1 | rw [xS_whl] at e1 | rw [xS_app] at e1 | rw [xS_rev] at e1 | rw [xS_dput] at e1 | rw [xS_ext] at e1 | rw [xS_never] at e1 | rw [xS_asgP] at e1 | rw [xS_appP] at e1 | rw [xS_aug] at e1 | rw [xS_lput] at e1 | rw [xS_brk] at e1 | rw [xS_cnt] at e1)
  obtain ⟨l, e2, e1⟩ := Res.bind_ok e1
  cases e1
  obtain ⟨O', own', F', sub⟩ := F.seal i (Sl.ownA_ok e2)
  exact ⟨ts, _, out, ⟨O', own', F', fun t ht => (tt t ht).weak sub⟩, ev, k⟩
theorem ss_ret (h : SE T cf X x p) : SS T cf X (.ret x) (.Return (some p) pos) := fun H₀ O₀ => by
  refine PS.imp (fun D' σ H hq => ?_) (ps_ret (h H₀ O₀))
  obtain ⟨ts, e, out, ⟨O, own, F, tt⟩, ev, k⟩ := hq
  (first | rw [xS_nil] at ev | rw [xS_cons] at ev | rw [xS_pass] at ev | rw [xS_ret] at ev | rw [xS_retO] at ev | rw [xS_retN] at ev | rw [xS_asg] at ev | rw [xS_asgO] at ev | rw [xS_sealed] at ev | rw [xS_ite] at ev | rw [xS_forS] at ev | rw [xS_whl] at ev | rw [xS_app] at ev | rw [xS_rev] at ev | rw [xS_dput] at ev | rw [xS_ext] at ev | rw [xS_never] at ev | rw [xS_asgP] at ev | rw [xS_appP] at ev | rw [xS_aug] at ev | rw [xS_lput] at ev | rw [xS_brk] at ev | rw [xS_cnt] at ev)
  obtain ⟨d, e1, ev⟩ := Res.bind_ok ev
  cases ev
  exact ⟨O, own, e, d, F, e1, fun v H' s' r n => k v H' (F.same.trans s') (r.weak F.sub) fun fr => ((n fr).back F.same).weak F.sub⟩
theorem ss_retO {i : Nat} {n : Str} (hN : X.N[i]? = some n) (hv : Vis X.env.scope n) (hd : (n == ("__debug__" : Str)) = false) (hc : (n == ("__classdict__" : Str)) = false) : SS T cf X (.retO i) (.Return (some (.Name n pos')) pos) := fun H₀ O₀ => by
  refine PS.imp (fun D' σ H hq => ?_) (ps_ret (pe_var hN hv hd hc))
  obtain ⟨ts, e, out, ⟨O, own, F, tt⟩, ev, k⟩ := hq
  (first | rw [xS_nil] at ev | rw [xS_cons] at ev | rw [xS_pass] at ev | rw [xS_ret] at ev | rw [xS_retO] at ev | rw [xS_retN] at ev | rw [xS_asg] at ev | rw [xS_asgO] at ev | rw [xS_sealed] at ev | rw [xS_ite] at ev | rw [xS_forS] at ev | rw [xS_whl] at ev | rw [xS_app] at ev | rw [xS_rev] at ev | rw [xS_dput] at ev | rw [xS_ext] at ev | rw [xS_never] at ev | rw [xS_asgP] at ev | rw [xS_appP] at ev | rw [xS_aug] at ev | rw [xS_lput] at ev | rw [xS_brk] at ev | rw [xS_cnt] at ev)
  obtain ⟨l, e1, ev⟩ := Res.bind_ok ev
  cases ev
  have q := F.sl i
  rw [Sl.ownA_ok e1] at q
  obtain ⟨p, e2, e3, h1⟩ := q
  have hn := F.new i p e2
  have nO : ¬ O₀ p := fun z => by
    obtain ⟨o, w⟩ := F.trk0 p z
    rw [hn.2] at w; cases w
  exact ⟨.ref p, st_get e3, k _ H F.same (OwnAt.rd nO (h1.weak F.sub)) fun _ _ => ⟨p, rfl, hn.2, h1.weak fun b hb => hb.elim (F.sub b) fun z => z ▸ hn.1⟩⟩
def notComp : Expr → Bool
  | .ListComp _ _ _ _ => false
  | .SetComp _ _ _ _ => false
  | .DictComp _ _ _ _ _ => false
  | _ => true
def notTup : Expr → Bool
  | .Tuple _ _ _ => false
  | _ => true
theorem swaps_no {e : Expr} {t : Option Expr} {l : Nat} {env : Env} (h : notComp e = true) : swapsWith e t l env = pure false := by
  cases e <;> first | rfl | (cases h)
theorem stores_no {e tg : Expr} {env : Env} (h : notTup e = true) : swappedStores [tg] e env = pure none := by
  cases e <;> first | (cases h; done) | (cases tg <;> rfl)
theorem each_one {tg : Expr} {env : Env} (h : plainX tg = true) : (assignEach [tg] env).map (·.2) = [assign tg env] := by
  cases tg <;> first | rfl | (cases h)
theorem ss_asg {g : G} (hx : notComp p = true) (ht : notTup p = true) (hq : plainX tg = true) (h : SE T cf X x p) (hg : SG X g tg) : SS T cf X (.asg g x) (.Assign [tg] p pos) := fun H₀ O₀ => by
  refine PS.imp (fun D' σ H hq => ?_) (ps_asg (h H₀ O₀) (hg H₀ O₀) (swaps_no hx) (stores_no ht) (each_one hq))
  obtain ⟨ts, e, out, ⟨O, own, F, tt⟩, ev, k⟩ := hq
  (first | rw [xS_nil] at ev | rw [xS_cons] at ev | rw [xS_pass] at ev | rw [xS_ret] at ev | rw [xS_retO] at ev | rw [xS_retN] at ev | rw [xS_asg] at ev | rw [xS_asgO] at ev | rw [xS_sealed] at ev | rw [xS_ite] at ev | rw [xS_forS] at ev | rw [xS_whl] at ev | rw [xS_app] at ev | rw [xS_rev] at ev | rw [xS_dput] at ev | rw [xS_ext] at ev | rw [xS_never] at ev | rw [xS_asgP] at ev | rw [xS_appP] at ev | rw [xS_aug] at ev | rw [xS_lput] at ev | rw [xS_brk] at ev | rw [xS_cnt] at ev)
  obtain ⟨d, e1, ev⟩ := Res.bind_ok ev
  obtain ⟨e2, e3, ev⟩ := Res.bind_ok ev
  cases ev
  refine ⟨O, own, e, d, F, e1, fun v H' s' r n => ⟨O, own, e, d, e2, F.grow s', r, e3, fun σ' own' _ F' => ?_⟩⟩
  exact k σ' H' ⟨O, own', F', fun t ht => (tt t ht).same s'⟩
theorem ss_asgO {i : Nat} {n : Str} (hx : notComp p = true) (hN : X.N.Nodup) (hi : X.N[i]? = some n) (hl : Loc X.env.scope n) (hf : X.fn n = true ∨ X.env.scope.names.lookup n = some .local) (h : SE T cf X x p) : SS T cf X (.asgO i x) (.Assign [.Name n pos'] p pos) := fun H₀ O₀ => by
  refine PS.imp (fun D' σ H hq => ?_) (ps_set hN hi hl (h H₀ O₀) (swaps_no hx) hf)
  obtain ⟨ts, e, out, ⟨O, own, F, tt⟩, ev, k⟩ := hq
  (first | rw [xS_nil] at ev | rw [xS_cons] at ev | rw [xS_pass] at ev | rw [xS_ret] at ev | rw [xS_retO] at ev | rw [xS_retN] at ev | rw [xS_asg] at ev | rw [xS_asgO] at ev | rw [xS_sealed] at ev | rw [xS_ite] at ev | rw [xS_forS] at ev | rw [xS_whl] at ev | rw [xS_app] at ev | rw [xS_rev] at ev | rw [xS_dput] at ev | rw [xS_ext] at ev | rw [xS_never] at ev | rw [xS_asgP] at ev | rw [xS_appP] at ev | rw [xS_aug] at ev | rw [xS_lput] at ev | rw [xS_brk] at ev | rw [xS_cnt] at ev)
  obtain ⟨d, e1, ev⟩ := Res.bind_ok ev
  split at ev
  · obtain ⟨c, ev⟩ := when_ok ev
    cases ev
    refine ⟨O, own, e, _, F, e1, fun v H' s' r n => ?_⟩
    obtain ⟨p, rfl, h2, h3⟩ := n c rfl
    exact k _ H' ⟨_, _, F.setO s' i h2 h3, fun t ht => ((tt t ht).new h2).same s'⟩
  · obtain ⟨c, ev⟩ := when_ok ev
    cases ev
    refine ⟨O, own, e, _, F, e1, fun v H' s' r n => ?_⟩
    obtain ⟨p, rfl, h2, h3⟩ := n c rfl
    exact k _ H' ⟨_, _, F.setO s' i h2 h3, fun t ht => ((tt t ht).new h2).same s'⟩
  · cases ev
theorem ss_ite {ps qs : List Stmt} (hc : ST T cf X x p) (ha : SB T cf X a ps) (hb : SB T cf X b qs) : SS T cf X (.ite x a b) (.If p ps qs pos) := fun H₀ O₀ => by
  refine PS.imp (fun D' σ H hq => ?_) (ps_if (hc H₀ O₀) (ha H₀ O₀) (hb H₀ O₀))
  obtain ⟨ts, e, out, ⟨O, own, F, tt⟩, ev, k⟩ := hq
  (first | rw [xS_nil] at ev | rw [xS_cons] at ev | rw [xS_pass] at ev | rw [xS_ret] at ev | rw [xS_retO] at ev | rw [xS_retN] at ev | rw [xS_asg] at ev | rw [xS_asgO] at ev | rw [xS_sealed] at ev | rw [xS_ite] at ev | rw [xS_forS] at ev | rw [xS_whl] at ev | rw [xS_app] at ev | rw [xS_rev] at ev | rw [xS_dput] at ev | rw [xS_ext] at ev | rw [xS_never] at ev | rw [xS_asgP] at ev | rw [xS_appP] at ev | rw [xS_aug] at ev | rw [xS_lput] at ev | rw [xS_brk] at ev | rw [xS_cnt] at ev)
  obtain ⟨d, e1, ev⟩ := Res.bind_ok ev
  obtain ⟨c, e2, ev⟩ := Res.bind_ok ev
  refine ⟨O, own, e, d, c, F, e1, e2, fun H1 s1 => ?_⟩
  cases c with
  | true => rw [if_pos rfl] at ev ⊢; exact ⟨ts, e, out, ⟨O, own, F.grow s1, fun t ht => (tt t ht).same s1⟩, ev, k⟩
  | false => rw [if_neg Bool.false_ne_true] at ev ⊢; exact ⟨ts, e, out, ⟨O, own, F.grow s1, fun t ht => (tt t ht).same s1⟩, ev, k⟩
theorem ss_for {g : G} {ps : List Stmt} (hp : PassesOwn (model X.prog X.w) X.A X.env X.xe) (hc : X.calm = true) (hq : plainX p = true) (hi : SI T cf X tg x false p) (hg : SG X g tg) (hb : SB T cf X b ps) : SS T cf X (.forS g x b) (.For tg p ps [] pos) := fun H₀ O₀ => by
  refine PS.imp (fun D' σ H hq => ?_) (ps_for hp hc (hi H₀ O₀) (hg H₀ O₀) (hb H₀ O₀) (plain_fold hq))
  obtain ⟨ts, e, out, ⟨O, own, F, tt⟩, ev, k⟩ := hq
  (first | rw [xS_nil] at ev | rw [xS_cons] at ev | rw [xS_pass] at ev | rw [xS_ret] at ev | rw [xS_retO] at ev | rw [xS_retN] at ev | rw [xS_asg] at ev | rw [xS_asgO] at ev | rw [xS_sealed] at ev | rw [xS_ite] at ev | rw [xS_forS] at ev | rw [xS_whl] at ev | rw [xS_app] at ev | rw [xS_rev] at ev | rw [xS_dput] at ev | rw [xS_ext] at ev | rw [xS_never] at ev | rw [xS_asgP] at ev | rw [xS_appP] at ev | rw [xS_aug] at ev | rw [xS_lput] at ev | rw [xS_brk] at ev | rw [xS_cnt] at ev)
  obtain ⟨ds, e1, ev⟩ := Res.bind_ok ev
  refine ⟨O, own, e, ds, F, e1, fun J H1 srs s1 rr rv wk => ?_⟩
  refine ⟨fun i m σ H => m = ds.length - i ∧ i ≤ ds.length ∧ ∃ e', Ft X.K H₀ O₀ (srs ++ ts) e' σ H ∧ forL (fun d e0 => do let e1 ← g.put d e0; exS T cf b e1) (ds.drop i) e' = .ok out, ⟨ds.length, by simp, Nat.zero_le _, e, ⟨O, own, F.grow s1, fun t ht => ?_⟩, by simpa using ev⟩, ?_⟩
  · rcases List.mem_append.mp ht with ht | ht
    · exact rv rfl t ht
    · exact (tt t ht).same s1
  rintro i m σ2 H2 ⟨rfl, hi', e', ⟨O2, own2, F2, t2⟩, ev2⟩
  obtain ⟨w1, w2, w3⟩ := wk i H2 O2 fun t ht => (t2 t (List.mem_append_left _ ht)).rr
  by_cases hlt : i < ds.length
  · refine .inr ⟨w1 hlt, fun σ' H' => ∃ e', Ft X.K H₀ O₀ (srs ++ ts) e' σ' H' ∧ forL (fun d e0 => do let e1 ← g.put d e0; exS T cf b e1) (ds.drop (i + 1)) e' = .ok out, fun σ' H' n => ⟨ds.length - (i + 1), by omega, rfl, hlt, n⟩, fun v H' y => ?_⟩
    obtain ⟨s3, r3⟩ := w3 v H' _ (List.getElem?_eq_getElem hlt) y
    rw [List.drop_eq_getElem_cons hlt, forL] at ev2
    obtain ⟨o1, ev3, ev4⟩ := Res.bind_ok ev2
    obtain ⟨e3, ev5, ev6⟩ := Res.bind_ok ev3
    refine ⟨O2, own2, e', _, e3, F2.grow s3, r3, ev5, fun σ' own' _ F' => ?_⟩
    refine ⟨srs ++ ts, e3, o1, ⟨O2, own', F', fun t ht => (t2 t ht).same s3⟩, ev6, ?_⟩
    have down : ∀ {e'' : Nv} {σ'' : L2.St} {H'' : Hp}, Ft X.K H₀ O₀ (srs ++ ts) e'' σ'' H'' → Ft X.K H₀ O₀ ts e'' σ'' H'' := fun ⟨O', own', F', t'⟩ => ⟨O', own', F', fun t ht => t' t (List.mem_append_right _ ht)⟩
    cases o1 with
    | nx e4 => exact fun σ'' H'' F'' => ⟨e4, F'', ev4⟩
    | ct e4 => exact fun σ'' H'' F'' => ⟨e4, F'', ev4⟩
    | bk e4 => cases ev4; exact fun σ'' H'' F'' => k σ'' H'' (down F'')
    | rt d fr => cases ev4; exact k
  · have e4 : i = ds.length := by omega
    subst e4
    refine .inl ⟨w2 (Nat.le_refl _), ?_⟩
    rw [List.drop_length, forL] at ev2
    cases ev2
    exact k σ2 H2 ⟨O2, own2, F2, fun t ht => t2 t (List.mem_append_right _ ht)⟩
theorem ss_whl {n : Nat} {ps : List Stmt} (hp : PassesOwn (model X.prog X.w) X.A X.env X.xe) (hc : ST T cf X x p) (hb : SB T cf X b ps) : SS T cf X (.whl n x b) (.While p ps [] pos) := fun H₀ O₀ => by
  refine PS.imp (fun D' σ H hq => ?_) (ps_while hp (hc H₀ O₀) (hb H₀ O₀))
  obtain ⟨ts, e, out, F, ev, k⟩ := hq
  (first | rw [xS_nil] at ev | rw [xS_cons] at ev | rw [xS_pass] at ev | rw [xS_ret] at ev | rw [xS_retO] at ev | rw [xS_retN] at ev | rw [xS_asg] at ev | rw [xS_asgO] at ev | rw [xS_sealed] at ev | rw [xS_ite] at ev | rw [xS_forS] at ev | rw [xS_whl] at ev | rw [xS_app] at ev | rw [xS_rev] at ev | rw [xS_dput] at ev | rw [xS_ext] at ev | rw [xS_never] at ev | rw [xS_asgP] at ev | rw [xS_appP] at ev | rw [xS_aug] at ev | rw [xS_lput] at ev | rw [xS_brk] at ev | rw [xS_cnt] at ev)
  refine ⟨fun m σ H => ∃ e', Ft X.K H₀ O₀ ts e' σ H ∧ whileL (fun e0 => do let x ← evE T cf x e0; x.truth) (fun e0 => exS T cf b e0) m e' = .ok out, ⟨n, e, F, ev⟩, ?_⟩
  rintro m σ2 H2 ⟨e', ⟨O2, own2, F2, t2⟩, ev2⟩
  cases m with
  | zero => rw [whileL] at ev2; cases ev2
  | succ m =>
    rw [whileL] at ev2
    obtain ⟨c, ev3, ev4⟩ := Res.bind_ok ev2
    obtain ⟨d, ev5, ev6⟩ := Res.bind_ok ev3
    refine ⟨O2, own2, e', d, c, F2, ev5, ev6, fun H3 s3 => ?_⟩
    have F3 : Ft X.K H₀ O₀ ts e' σ2 H3 := ⟨O2, own2, F2.grow s3, fun t ht => (t2 t ht).same s3⟩
    cases c with
    | true =>
      dsimp only
      rw [if_pos rfl] at ev4 ⊢
      obtain ⟨o1, ev7, ev8⟩ := Res.bind_ok ev4
      refine ⟨fun σ' H' => ∃ e', Ft X.K H₀ O₀ ts e' σ' H' ∧ whileL (fun e0 => do let x ← evE T cf x e0; x.truth) (fun e0 => exS T cf b e0) m e' = .ok out, fun σ' H' n => ⟨m, Nat.lt_succ_self m, n⟩, ?_⟩
      refine ⟨ts, e', o1, F3, ev7, ?_⟩
      cases o1 with
      | nx e4 => exact fun σ'' H'' F'' => ⟨e4, F'', ev8⟩
      | ct e4 => exact fun σ'' H'' F'' => ⟨e4, F'', ev8⟩
      | bk e4 => cases ev8; exact k
      | rt d fr => cases ev8; exact k
    | false =>
      dsimp only
      rw [if_neg Bool.false_ne_true] at ev4 ⊢
      cases ev4
      exact k σ2 H3 F3
theorem ss_app {i : Nat} {n nm : Str} {px apos cpos : Pos} (hN : X.N[i]? = some n) (hv : Vis X.env.scope n) (hd : (n == ("__debug__" : Str)) = false) (hc : (n == ("__classdict__" : Str)) = false) (hnm : nm = "append") (hline : (apos.endLine == cpos.line) = true) (hp : plainX p = true) (h : SE T cf X x p) :
    SS T cf X (.app i x) (.Expr (.Call (.Attribute (.Name n px) nm apos) [p] [] cpos) pos) := fun H₀ O₀ => by
  subst hnm
  refine PS.imp (fun D' σ H hq => ?_) (ps_expr (pe_bm PySem.F.plainAttrs_list PySem.F.slot_list_append PySem.F.type_list_append mt_append (pe_var hN hv hd hc) (pa_cons (h H₀ O₀) pa_nil (plain_star hp)) rfl (by rw [plain_star hp]; rfl) hline (plain_star hp) rfl) rfl)
  obtain ⟨ts, e, out, ⟨O, own, F, tt⟩, ev, k⟩ := hq
  (first | rw [xS_nil] at ev | rw [xS_cons] at ev | rw [xS_pass] at ev | rw [xS_ret] at ev | rw [xS_retO] at ev | rw [xS_retN] at ev | rw [xS_asg] at ev | rw [xS_asgO] at ev | rw [xS_sealed] at ev | rw [xS_ite] at ev | rw [xS_forS] at ev | rw [xS_whl] at ev | rw [xS_app] at ev | rw [xS_rev] at ev | rw [xS_dput] at ev | rw [xS_ext] at ev | rw [xS_never] at ev | rw [xS_asgP] at ev | rw [xS_appP] at ev | rw [xS_aug] at ev | rw [xS_lput] at ev | rw [xS_brk] at ev | rw [xS_cnt] at ev)
  obtain ⟨d, e1, ev⟩ := Res.bind_ok ev
  obtain ⟨l, e2, ev⟩ := Res.bind_ok ev
  obtain ⟨c, ev⟩ := when_ok ev
  cases ev
  obtain ⟨q0, xs0, f1, f2, f3, f4, f5⟩ := F.mut i (Sl.own_ok e2)
  refine ⟨.ref q0, st_get f1, .inl ⟨rfl, xs0, .of f2⟩, O, own, e, d, F, e1, fun v H' s' r _ => ?_⟩
  obtain ⟨q1, xs1, g1, g2, g3, g4, g5⟩ := (F.grow s').mut i (Sl.own_ok e2)
  have eq : q1 = q0 := by rw [f1] at g1; cases g1; rfl
  subst eq
  refine ⟨q1, xs1, v, rfl, rfl, g2, by rw [g3.length, ← big_line]; exact of_decide_eq_true c, ?_⟩
  exact k _ _ ⟨O, own, g5 _ _ (g3.append ⟨v, [], rfl, r, rfl⟩), fun t ht => ((tt t ht).same s').upd g4 g2⟩
theorem ss_rev {i : Nat} {n nm : Str} {px apos cpos : Pos} (hN : X.N[i]? = some n) (hv : Vis X.env.scope n) (hd : (n == ("__debug__" : Str)) = false) (hc : (n == ("__classdict__" : Str)) = false) (hnm : nm = "reverse") (hline : (apos.endLine == cpos.line) = true) :
    SS T cf X (.rev i) (.Expr (.Call (.Attribute (.Name n px) nm apos) [] [] cpos) pos) := fun H₀ O₀ => by
  subst hnm
  refine PS.imp (fun D' σ H hq => ?_) (ps_expr (pe_bm0 PySem.F.plainAttrs_list PySem.F.slot_list_reverse PySem.F.type_list_reverse mt_reverse (pe_var hN hv hd hc) rfl hline) rfl)
  obtain ⟨ts, e, out, ⟨O, own, F, tt⟩, ev, k⟩ := hq
  (first | rw [xS_nil] at ev | rw [xS_cons] at ev | rw [xS_pass] at ev | rw [xS_ret] at ev | rw [xS_retO] at ev | rw [xS_retN] at ev | rw [xS_asg] at ev | rw [xS_asgO] at ev | rw [xS_sealed] at ev | rw [xS_ite] at ev | rw [xS_forS] at ev | rw [xS_whl] at ev | rw [xS_app] at ev | rw [xS_rev] at ev | rw [xS_dput] at ev | rw [xS_ext] at ev | rw [xS_never] at ev | rw [xS_asgP] at ev | rw [xS_appP] at ev | rw [xS_aug] at ev | rw [xS_lput] at ev | rw [xS_brk] at ev | rw [xS_cnt] at ev)
  obtain ⟨l, e2, ev⟩ := Res.bind_ok ev
  cases ev
  obtain ⟨q0, xs0, f1, f2, f3, f4, f5⟩ := F.mut i (Sl.own_ok e2)
  refine ⟨.ref q0, st_get f1, .inl ⟨rfl, xs0, .of f2⟩, q0, xs0, rfl, rfl, f2, ?_⟩
  exact k _ _ ⟨O, own, f5 _ _ f3.reverse, fun t ht => (tt t ht).upd f4 f2⟩
theorem ss_never : SS T cf X .never st := fun H₀ O₀ => PS.imp (fun D' σ H ⟨ts, e, out, F, ev, k⟩ => by
  (first | rw [xS_nil] at ev | rw [xS_cons] at ev | rw [xS_pass] at ev | rw [xS_ret] at ev | rw [xS_retO] at ev | rw [xS_retN] at ev | rw [xS_asg] at ev | rw [xS_asgO] at ev | rw [xS_sealed] at ev | rw [xS_ite] at ev | rw [xS_forS] at ev | rw [xS_whl] at ev | rw [xS_app] at ev | rw [xS_rev] at ev | rw [xS_dput] at ev | rw [xS_ext] at ev | rw [xS_never] at ev | rw [xS_asgP] at ev | rw [xS_appP] at ev | rw [xS_aug] at ev | rw [xS_lput] at ev | rw [xS_brk] at ev | rw [xS_cnt] at ev); cases ev) ps_never
theorem RDs.eraseIdx {K : PySem.W.Frag} {H : Hp} {O : Addr → Prop} : ∀ {ds : List D} {vs : List V} (n : Nat), RDs K H O ds vs → RDs K H O (ds.eraseIdx n) (vs.eraseIdx n)
  | [], _, n, h => by rw [RDs] at h; subst h; exact rfl
  | d :: ds, vs, 0, h => by
    obtain ⟨v, r, rfl, h1, h2⟩ := h
    exact h2
  | d :: ds, vs, n + 1, h => by
    obtain ⟨v, r, rfl, h1, h2⟩ := h
    exact ⟨v, r.eraseIdx n, rfl, h1, RDs.eraseIdx n h2⟩
theorem ss_aug {i : Nat} {n : Str} {o : Operator} (hN : X.N.Nodup) (hi : X.N[i]? = some n) (hl : Loc X.env.scope n) (hf : X.fn n = true ∨ X.env.scope.names.lookup n = some .local) (h : SE T cf X x p) (ho : o = .Add ∨ o = .Sub) :
    SS T cf X (.aug i o x) (.AugAssign (.Name n pos') o p pos) := fun H₀ O₀ => by
  have main : ∀ (g : Int → Int → Int), PIp X o (rI0 fun a b => .int (g a b)) → (∀ a b, D.aug o (.int a) (.int b) = .ok (.int (g a b))) → PS X (.AugAssign (.Name n pos') o p pos) (tS T cf X.K H₀ O₀ (.aug i o x)) := by
    intro g hg hx
    refine PS.imp (fun D' σ H hq => ?_) (ps_aug hN hi hl (h H₀ O₀) hg hf)
    obtain ⟨ts, e, out, ⟨O, own, F, tt⟩, ev, k⟩ := hq
    (first | rw [xS_nil] at ev | rw [xS_cons] at ev | rw [xS_pass] at ev | rw [xS_ret] at ev | rw [xS_retO] at ev | rw [xS_retN] at ev | rw [xS_asg] at ev | rw [xS_asgO] at ev | rw [xS_sealed] at ev | rw [xS_ite] at ev | rw [xS_forS] at ev | rw [xS_whl] at ev | rw [xS_app] at ev | rw [xS_rev] at ev | rw [xS_dput] at ev | rw [xS_ext] at ev | rw [xS_never] at ev | rw [xS_asgP] at ev | rw [xS_appP] at ev | rw [xS_aug] at ev | rw [xS_lput] at ev | rw [xS_brk] at ev | rw [xS_cnt] at ev)
    obtain ⟨d, e1, ev⟩ := Res.bind_ok ev
    obtain ⟨dy, e2, ev⟩ := Res.bind_ok ev
    obtain ⟨dz, e3, ev⟩ := Res.bind_ok ev
    cases ev
    have q := F.sl i
    cases hs : e.at i with
    | no => rw [hs] at e1; cases e1
    | o _ => rw [hs] at e1; cases e1
    | v d0 =>
      rw [hs] at e1 q
      cases e1
      obtain ⟨v, f1, f2⟩ := q
      cases d with
      | int a =>
        cases dy with
        | int b =>
          rw [hx] at e3
          cases e3
          cases (show v = .int a from f2)
          refine ⟨.int a, st_get f1, O, own, e, _, F, e2, fun v2 H1 s1 r1 _ => ?_⟩
          cases (show v2 = .int b from r1)
          exact ⟨a, b, rfl, rfl, k _ H1 ⟨O, _, (F.grow s1).setV i (d := .int (g a b)) rfl, fun t ht => (tt t ht).same s1⟩⟩
        | _ => rcases ho with rfl | rfl <;> cases e3
      | _ => rcases ho with rfl | rfl <;> cases e3
  rcases ho with rfl | rfl
  · exact main (· + ·) (fun pins s σ H x y v u Q I rx ry q => iop_add pins s σ H x y v u Q I rx ry q) (fun _ _ => rfl)
  · exact main (· - ·) (fun pins s σ H x y v u Q I rx ry q => iop_sub pins s σ H x y v u Q I rx ry q) (fun _ _ => rfl)
theorem RDs.set {K : PySem.W.Frag} {H : Hp} {O : Addr → Prop} {d : D} {v : V} (r : RD K H O d v) : ∀ {ds : List D} {vs : List V} (n : Nat), RDs K H O ds vs → RDs K H O (ds.set n d) (vs.set n v)
  | [], _, n, h => by rw [RDs] at h; subst h; exact rfl
  | d0 :: ds, vs, 0, h => by
    obtain ⟨v0, q, rfl, h1, h2⟩ := h
    exact ⟨v, q, rfl, r, h2⟩
  | d0 :: ds, vs, n + 1, h => by
    obtain ⟨v0, q, rfl, h1, h2⟩ := h
    exact ⟨v0, q.set n v, rfl, h1, RDs.set r n h2⟩
end
end Tr
namespace Tr
open PySem PySem.Spec PyProof.Rows L2
def freeCells (cells : List (Str × Addr)) : List (Str × NameKind) → List (Str × Addr) → List (Str × Addr)
  | [], cs => cs
  | (n, k) :: r, cs => freeCells cells r (if (k == .free) = true then (match cells.lookup n with | some c => (n, c) :: cs | none => cs) else cs)
theorem closure_go {env : Env} : ∀ (names : List (Str × NameKind)) (cs : List (Str × Addr)), (∀ x ∈ names, x.2 = .free → ∃ c, env.cells.lookup x.1 = some c) →
    (forIn names cs (fun (x : Str × NameKind) (r : List (Str × Addr)) => (if (x.2 == .free) = true then (do let c ← cellOf env x.1; pure (ForInStep.yield ((x.1, c) :: r))) else pure (ForInStep.yield r) : Sem _))) = pure (freeCells env.cells names cs)
  | [], cs, _ => rfl
  | (n, k) :: r, cs, h => by
    rw [List.forIn_cons]
    have ih := closure_go (env := env) r
    by_cases hk : (k == NameKind.free) = true
    · have hk' : k = .free := by simpa using hk
      obtain ⟨c, hc⟩ := h (n, k) (List.mem_cons_self ..) hk'
      simp only at hc
      simp only [hk, if_true]
      unfold cellOf
      rw [hc]
      show (do let r ← (pure (ForInStep.yield ((n, c) :: cs)) : Sem _); _) = _
      rw [freeCells, if_pos hk, hc]
      exact ih _ fun x hx => h x (List.mem_cons_of_mem _ hx)
    · simp only [hk, if_false, Bool.false_eq_true]
      rw [freeCells, if_neg hk]
      exact ih _ fun x hx => h x (List.mem_cons_of_mem _ hx)
theorem closure_eq {scope : Scope} {env : Env} (h : ∀ x ∈ scope.names, x.2 = .free → ∃ c, env.cells.lookup x.1 = some c) : closureFor scope env = pure (freeCells env.cells scope.names []) := by
  have := closure_go (env := env) scope.names [] h
  unfold closureFor
  rw [← this]
  first | rfl | simp
theorem freeCells_mem {cells : List (Str × Addr)} : ∀ {names : List (Str × NameKind)} {cs : List (Str × Addr)} {n : Str} {c : Addr}, (n, c) ∈ freeCells cells names cs → (n, c) ∈ cs ∨ ((n, NameKind.free) ∈ names ∧ cells.lookup n = some c)
  | [], _, _, _, h => .inl h
  | (m, k) :: r, cs, n, c, h => by
    rw [freeCells] at h
    rcases freeCells_mem h with g | ⟨h1, h2⟩
    · clear h
      split at g
      · rename_i hk
        have hk' : k = .free := by simpa using hk
        subst hk'
        split at g
        · rename_i c' hc
          rcases List.mem_cons.mp g with e | g
          · cases e
            exact .inr ⟨List.mem_cons_self .., hc⟩
          · exact .inl g
        · exact .inl g
      · exact .inl g
    · exact .inr ⟨List.mem_cons_of_mem _ h1, h2⟩
theorem freeCells_keep {cells : List (Str × Addr)} : ∀ {names : List (Str × NameKind)} {cs : List (Str × Addr)} {x : Str × Addr}, x ∈ cs → x ∈ freeCells cells names cs
  | [], _, _, h => h
  | (m, k) :: r, cs, x, h => by
    rw [freeCells]
    refine freeCells_keep ?_
    split
    · split
      · exact List.mem_cons_of_mem _ h
      · exact h
    · exact h
theorem freeCells_has {cells : List (Str × Addr)} : ∀ {names : List (Str × NameKind)} {cs : List (Str × Addr)} {n : Str} {c : Addr}, (n, NameKind.free) ∈ names → cells.lookup n = some c → (n, c) ∈ freeCells cells names cs
  | [], _, _, _, h, _ => by cases h
  | (m, k) :: r, cs, n, c, h, hc => by
    rw [freeCells]
    rcases List.mem_cons.mp h with e | h
    · cases e
      refine freeCells_keep ?_
      rw [if_pos (by simp), hc]
      exact List.mem_cons_self ..
    · exact freeCells_has h hc
theorem lookup_of_mem {l : List (Str × Addr)} {n : Str} {c : Addr} (h : (n, c) ∈ l) : ∃ c', l.lookup n = some c' := by
  induction l with
  | nil => cases h
  | cons x l ih =>
    obtain ⟨m, d⟩ := x
    rw [List.lookup_cons]
    by_cases e : (n == m) = true
    · rw [e]; exact ⟨d, rfl⟩
    · have e' : (n == m) = false := by simpa using e
      rw [e']
      rcases List.mem_cons.mp h with z | z
      · cases z; simp at e
      · exact ih z
theorem relabel_free {env : Env} : ∀ {names : List (Str × NameKind)} {x : Str}, (∀ y ∈ names, y.2 ≠ .cell) →
    ((names.map fun (n, k) => if (k == NameKind.free && env.scope.kind == .function && env.kindOf n == some .cell) then (n, NameKind.cell) else (n, k)).lookup x = some .cell ∨
     (names.map fun (n, k) => if (k == NameKind.free && env.scope.kind == .function && env.kindOf n == some .cell) then (n, NameKind.cell) else (n, k)).lookup x = some .free) → (x, NameKind.free) ∈ names
  | [], _, _, h => by rcases h with h | h <;> cases h
  | (n, k) :: r, x, hc, h => by
    have hk := hc (n, k) (List.mem_cons_self ..)
    have ih := @relabel_free env r x fun y hy => hc y (List.mem_cons_of_mem _ hy)
    rw [List.map_cons] at h
    dsimp only at h
    by_cases hx : (x == n) = true
    · have hx' : x = n := by simpa using hx
      subst hx'
      refine List.mem_cons.mpr (.inl ?_)
      by_cases z : (k == NameKind.free && env.scope.kind == .function && env.kindOf x == some .cell) = true
      · have : k = .free := by
          cases k <;> first | rfl | (exact absurd z (by simp))
        rw [this]
      · rw [if_neg z] at h
        simp only [List.lookup_cons, beq_self_eq_true] at h
        rcases h with h | h
        · cases h; exact absurd rfl hk
        · cases h; rfl
    · have hx' : (x == n) = false := by simpa using hx
      refine List.mem_cons_of_mem _ (ih ?_)
      by_cases z : (k == NameKind.free && env.scope.kind == .function && env.kindOf n == some .cell) = true
      · rw [if_pos z] at h
        simpa only [List.lookup_cons, hx'] using h
      · rw [if_neg z] at h
        simpa only [List.lookup_cons, hx'] using h
end Tr
namespace Tr
open PySem PySem.Spec PyProof.Rows L2
theorem relabel_local {env : Env} : ∀ {names : List (Str × NameKind)} {x : Str},
    (names.map fun (n, k) => if (k == NameKind.free && env.scope.kind == .function && env.kindOf n == some .cell) then (n, NameKind.cell) else (n, k)).lookup x = some .local → names.lookup x = some .local
  | [], _, h => by cases h
  | (n, k) :: r, x, h => by
    have ih := @relabel_local env r x
    rw [List.map_cons] at h
    dsimp only at h
    by_cases z : (k == NameKind.free && env.scope.kind == .function && env.kindOf n == some .cell) = true
    · rw [if_pos z] at h
      by_cases hx : (x == n) = true
      · simp only [List.lookup_cons, hx] at h; cases h
      · have hx' : (x == n) = false := by simpa using hx
        simp only [List.lookup_cons, hx'] at h ⊢
        exact ih h
    · rw [if_neg z] at h
      by_cases hx : (x == n) = true
      · simp only [List.lookup_cons, hx] at h ⊢; exact h
      · have hx' : (x == n) = false := by simpa using hx
        simp only [List.lookup_cons, hx'] at h ⊢
        exact ih h
def cxC (X : Cx) (scope : Scope) (C : Addr) (Nc : List Str) (s2 : Shared) (H2 : Hp) (fp : List Addr) : Cx where
  prog := X.prog
  w := X.w
  K := X.K
  mg := X.mg
  base := X.base
  A := X.A
  N := Nc
  s₀ := s2
  H₀ := H2
  env := compEnvC scope (freeCells X.env.cells scope.names []) C X.env
  outer := X.stack
  stack := X.stack
  ex := fp
  fn := fun n => scope.names.lookup n == some .local
  calm := X.calm
  pn := []
  xe := fun _ _ => False
structure ScopeC (X : Cx) (scope : Scope) : Prop where
  kind : scope.kind = .function
  cell : ∀ y ∈ scope.names, y.2 ≠ .cell
  names : ∀ x ∈ scope.names, x.2 = .local → scope.names.lookup x.1 = some .local
  nd : ∀ x ∈ scope.names, x.2 = .free → scope.names.lookup x.1 ≠ some .local
  free : ∀ x ∈ scope.names, x.2 = .free → X.env.kindOf x.1 = some .cell ∨ X.env.kindOf x.1 = some .free
section
variable {X : Cx} {scope : Scope} {C : Addr} {Nc : List Str} {s2 : Shared} {H2 : Hp} {fp : List Addr} {pins : List (Addr × Obj)} {σ : L2.St}
theorem cl_get {x : Str} {c : Addr} (h : (freeCells X.env.cells scope.names []).lookup x = some c) : (x, NameKind.free) ∈ scope.names ∧ X.env.cells.lookup x = some c := by
  rcases freeCells_mem (PySem.mem_of_lookup h) with z | z
  · cases z
  · exact z
theorem ScopeC.cells (S : ScopeC X scope) (ok : X.Ok) : ∀ x ∈ scope.names, x.2 = .free → ∃ c, X.env.cells.lookup x.1 = some c := fun x hx hf => ok.has x.1 (S.free x hx hf)
theorem cxC_ok (I : Inv X pins σ H2 s2) (S : ScopeC X scope) (hfp : ∀ b ∈ fp, FpOk X pins H2 b) (hfo : ∀ b ∈ fp, b < s2.heap.objs.size) (hC : s2.heap.objs.size ≤ C) : (cxC X scope C Nc s2 H2 fp).Ok where
  mod := I.ok.mod
  kind := S.kind
  glob := I.ok.glob
  blt := I.ok.blt
  above := hC
  inj := fun x y c h1 h2 => I.ok.inj x y c (cl_get h1).2 (cl_get h2).2
  has := fun x h => by
    have hf := relabel_free (env := X.env) S.cell h
    obtain ⟨c, hc⟩ := S.cells I.ok (x, .free) hf rfl
    exact lookup_of_mem (freeCells_has hf hc)
  cab := fun x c h1 h2 => by
    have h1' : scope.names.lookup x = some .local := by simpa [cxC] using h1
    exact absurd h1' (S.nd (x, .free) (cl_get h2).1 rfl)
  hd := I.ok.hd
  frames := I.ok.frames
  stk := .inl rfl
  exf := fun b hb => ⟨Nat.ne_of_lt (Nat.lt_of_lt_of_le (hfo b hb) hC), fun x c h => (hfp b hb).2.2.2.2.1 x c (cl_get h).2⟩
  bs := I.bs
  bsz := Nat.le_trans I.ok.bsz I.sz
  noex := fun b o e hb => by
    rcases (hfp b hb).2.2.2.1 with z | z
    · exact I.ok.noex b o e z
    · exact absurd (Nat.lt_of_lt_of_le (Heap.lt_size e) (Nat.le_trans I.ok.bsz z)) (Nat.lt_irrefl _)
  exfs := fun b hb z => by
    rcases List.mem_cons.mp (I.stkSub b z) with z | z
    · exact (hfp b hb).2.1 z
    · exact (hfp b hb).2.2.1 z
  funs := I.stack
  frf := I.stkFree
def stC (own : Nat) (caps : List Nat) (σ : L2.St) : L2.St := List.replicate own none ++ caps.map fun i => stAt σ i
structure CapsOk (X : Cx) (scope : Scope) (own : Nat) (caps : List Nat) (Nc : List Str) : Prop where
  len : Nc.length = own + caps.length
  nd : caps.Nodup
  cap : ∀ j i, caps[j]? = some i → ∃ n, X.N[i]? = some n ∧ Nc[own + j]? = some n ∧ (n, NameKind.free) ∈ scope.names
theorem stC_get {own : Nat} {caps : List Nat} {j : Nat} {v : V} (h : (stC own caps σ)[j]? = some (some v)) : ∃ k i, j = own + k ∧ caps[k]? = some i ∧ stAt σ i = some v := by
  unfold stC at h
  by_cases hj : j < own
  · rw [List.getElem?_append_left (by rw [List.length_replicate]; exact hj), List.getElem?_replicate, if_pos hj] at h
    cases h
  · rw [List.getElem?_append_right (by rw [List.length_replicate]; omega), List.length_replicate, List.getElem?_map] at h
    cases e : caps[j - own]? with
    | none => rw [e] at h; cases h
    | some i =>
      rw [e] at h
      exact ⟨j - own, i, by omega, e, Option.some.inj h⟩
theorem vis_of (I : Inv X pins σ H2 s2) (S : ScopeC X scope) {n : Str} (h : (n, NameKind.free) ∈ scope.names) : Vis X.env.scope n := by
  rcases S.free _ h rfl with z | z
  · exact .inr (.inl z)
  · exact .inr (.inr z)
theorem invC {own : Nat} {caps : List Nat} {h1 : Heap} {t1 : Nat} (I : Inv X pins σ H2 s2) (S : ScopeC X scope) (P : CapsOk X scope own caps Nc) (ok : (cxC X scope C Nc s2 H2 fp).Ok)
    (keep : ∀ b o, s2.heap.get? b = some o → h1.get? b = some o) (hC : s2.heap.objs.size < C) (ns : h1.Ns C fun _ => none) (acc : h1.get? s2.heap.objs.size = some { cls := .type "list", data := .seq #[] }) :
    Inv (cxC X scope C Nc s2 H2 fp) [] (stC own caps σ) (upd H2 s2.heap.objs.size (.lst [])) { s2 with heap := h1, toks := t1 } := by
  have fr : H2 s2.heap.objs.size = none := I.hok.fresh (Nat.le_refl _)
  have cellK : ∀ x c v, X.env.cells.lookup x = some c → s2.heap.IsCell c v → h1.IsCell c v := fun x c v _ ⟨o, ho, hd⟩ => ⟨o, keep c o ho, hd⟩
  refine ⟨ok, rfl, I.bare, Un.laid keep (Nat.le_refl _) fr, ⟨_, ns, fun i x v e1 e2 e3 => ?_⟩, fun x c h => ?_, ?_, fun x c h => ?_, fun p hp => absurd hp (by simp [cxC]), I.hok.laid keep (Nat.le_refl _) ?_, ?_⟩
  · obtain ⟨k, i', rfl, hk, hv⟩ := stC_get e2
    obtain ⟨n, hn1, hn2, hn3⟩ := P.cap k i' hk
    have e1' : Nc[own + k]? = some x := e1
    rw [hn2] at e1'; cases e1'
    obtain ⟨m, hm, hl⟩ := I.loc
    obtain ⟨u, ru, lk⟩ := hl i' _ v hn1 (st_get hv) (vis_of I S hn3)
    refine ⟨u, ru, ?_⟩
    rcases lk with ⟨kl, _⟩ | ⟨_, c, hc, hcell⟩
    · rcases S.free _ hn3 rfl with z | z
      · rw [kl] at z; cases z
      · rw [kl] at z; cases z
    · refine .inr ⟨?_, ?_⟩
      · rcases e3 with z | z
        · exact absurd (relabel_local (env := X.env) z) (S.nd _ hn3 rfl)
        · exact z
      · obtain ⟨c', hc'⟩ := lookup_of_mem (freeCells_has (cs := []) hn3 hc)
        have := (cl_get hc').2
        rw [hc] at this; cases this
        exact ⟨c, hc', cellK _ c _ hc hcell⟩
  · obtain ⟨v, z⟩ := I.cell x c (cl_get h).2
    exact ⟨v, cellK x c v (cl_get h).2 z⟩
  · show upd H2 s2.heap.objs.size (.lst []) C = none
    rw [upd_ne (Nat.ne_of_gt hC)]
    exact I.hok.fresh (Nat.le_of_lt hC)
  · obtain ⟨v, z⟩ := I.cell x c (cl_get h).2
    rw [upd_ne (Nat.ne_of_lt z.lt)]
    exact I.freeC x c (cl_get h).2
  · exact ⟨Nat.zero_le _, [], 0, .nil, acc⟩
  · show (stC own caps σ).length = Nc.length
    unfold stC
    rw [List.length_append, List.length_replicate, List.length_map, P.len]
theorem Un.but {fs ex : List Addr} {H H' : Hp} {h h1 h2 : Heap} {C : Addr} (u : Un fs ex H H' h h1) (hC : h.objs.size ≤ C) (s : Heap.SameBut C h1 h2) : Un fs ex H H' h h2 where
  keep := fun b o e n hb hx => (s.2 b (Nat.ne_of_lt (Nat.lt_of_lt_of_le (Heap.lt_size e) hC))).trans (u.keep b o e n hb hx)
  slot := fun b o e n hb hx => let ⟨sl, q⟩ := u.slot b o e n hb hx; ⟨sl, (s.2 b (Nat.ne_of_lt (Nat.lt_of_lt_of_le (Heap.lt_size e) hC))).trans q⟩
  free := u.free
  there := fun b o e hx => let ⟨o', q⟩ := u.there b o e hx; ⟨o', (s.2 b (Nat.ne_of_lt (Nat.lt_of_lt_of_le (Heap.lt_size e) hC))).trans q⟩
  tups := u.tups
  frzs := u.frzs
  tbls := u.tbls
theorem HOk.but {P : Program} {w : World} {H : Hp} {h1 h2 : Heap} {C : Addr} (x : HOk P w H h1) (hC : H C = none) (s : Heap.SameBut C h1 h2) : HOk P w H h2 := fun b ob e => by
  refine (x b ob e).stay (fun c w' hc q => (s.2 c ?_).trans q) (fun _ q => q) fun _ _ q => q
  rintro rfl
  rcases hc with rfl | hc
  · rw [hC] at e; cases e
  · rw [hC] at hc; cases hc
theorem outC {σi : L2.St} {Hi : Hp} {s' : Shared} {h' : Heap} (I : Inv X pins σ H2 s2) (Ic : Inv (cxC X scope C Nc s2 H2 fp) [] σi Hi s') (hfp : ∀ b ∈ fp, FpOk X pins H2 b) (hC : s2.heap.objs.size ≤ C) (sb : Heap.SameBut C s'.heap h') : Inv X pins σ Hi { s' with heap := h' } := by
  refine I.call' (s' := { s' with heap := h' }) (ch := fp) Ic.os ?_ ?_ Ic.bare fun b hb => ?_
  · exact Un.but (show Un (frs X.stack) fp H2 Hi s2.heap s'.heap from Ic.base) hC sb
  · exact HOk.but (show HOk X.prog X.w Hi s'.heap from Ic.hok) (show Hi C = none from Ic.free) sb
  · obtain ⟨_, a1, _, a3, a4, a5⟩ := hfp b hb
    exact ⟨a3, a1, a4, a5⟩
end
end Tr
namespace Tr
open PySem PySem.Spec PyProof.Rows L2
section
variable {prog : Program} {w : World} {A : Around} {R : Result → Shared → Prop} {s : Shared}
theorem compLoop_gen {elt target iter : Expr} {ifs : List Expr} {scope : Scope} {pos : Pos} {it acc : Value} {env : Env} (I : Nat → Shared → Prop)
    (turn : ∀ n s, I n s → wpAny (model prog w) A (pyNext it) (fun r s₁ => match r with
      | none => R (.ok .next) s₁
      | some v => wpAny (model prog w) A (letOwnedTupleGo target it v) (fun _ s₀ => wpAny (model prog w) A (assign target env v) (fun _ s₂ =>
          wpAny (model prog w) A (forIn ifs true fun c r => if r = true then do let ok ← isTrue c env (eval c env); pure (ForInStep.yield ok) else pure (ForInStep.yield r)) (fun ok s₃ =>
            if ok = true then wpAny (model prog w) A (eval elt env) (fun x s₄ =>
              wpAny (model prog w) A (call (.builtin "list.append") [acc, x]) (fun _ s₅ => ∃ m, m < n ∧ I m s₅) (fun _ _ => False) s₄) (fun _ _ => False) s₃
            else ∃ m, m < n ∧ I m s₃) (fun _ _ => False) s₂) (fun _ _ => False) s₀) (fun _ _ => False) s₁) (fun _ _ => False) s)
    (n : Nat) (h : I n s) :
    codeAny (model prog w) A (.compLoop (.ListComp elt [⟨target, iter, ifs, 0⟩] scope pos) 0 it acc env) R s := by
  refine codeAny_loop rfl I (fun n s hI => ?_) n h
  show wpAny _ A ((compTurn (.ListComp elt [⟨target, iter, ifs, 0⟩] scope pos) 0 it acc env).onRaise (fun x => do noteFrame x env; theTreesLotGoes x)) _ _ s
  refine wpAny_noted ?_
  rw [compTurn_list]
  refine wpAny_bind (wpAny_standAt (wpAny_bind (wpAny_mono (turn n s hI) (fun r s₁ h₁ => ?_) fun _ _ h' => h'.elim)))
  cases r with
  | none => exact wpAny_pure h₁
  | some v =>
    refine wpAny_bind (wpAny_mono h₁ (fun _ s₀ h₀ => ?_) fun _ _ h' => h'.elim)
    refine wpAny_bind (wpAny_mono h₀ (fun _ s₂ h₂ => wpAny_bind (wpAny_mono h₂ (fun ok s₃ h₃ => ?_) fun _ _ h' => h'.elim)) fun _ _ h' => h'.elim)
    cases ok with
    | false => exact wpAny_pure ⟨rfl, h₃⟩
    | true =>
      exact wpAny_bind (wpAny_bind (wpAny_mono h₃ (fun x s₄ h₄ => wpAny_bind (wpAny_mono h₄ (fun _ s₅ h₅ => wpAny_pure (wpAny_pure ⟨rfl, h₅⟩)) fun _ _ h' => h'.elim)) fun _ _ h' => h'.elim))
end
section
variable {K : PySem.W.Frag} {H₀ H H' : Hp} {O₀ O O' : Addr → Prop} {own : Nat → Option Addr} {e e' : Nv} {σ : L2.St}
theorem Fm.updO (F : Fm K H₀ O₀ H O own e σ) {p : Addr} {ys zs : List V} (hO : O p) (hp : H p = some (.lst ys)) (h0 : H₀ p = none) (hn : ∀ j, own j ≠ some p) : Fm K H₀ O₀ (upd H p (.lst zs)) O own e σ where
  len := F.len
  sl := fun j => RS.map (fun q => q.upd hO hp) (fun q => q.upd hO hp) (fun q => q.updM hO hp trivial) (fun a ys ea _ q => by
    have : a ≠ p := fun z => hn j (z ▸ ea)
    rw [upd_ne this]; exact q) (F.sl j)
  inj := F.inj
  same := fun b o hb => by rw [upd_ne (fun z => by rw [z, h0] at hb; cases hb)]; exact F.same b o hb
  sub := F.sub
  trk0 := F.trk0
  trk := fun a ha => by
    by_cases h : a = p
    · subst h; exact ⟨_, upd_same⟩
    · obtain ⟨ys, q⟩ := F.trk a ha
      exact ⟨ys, by rw [upd_ne h]; exact q⟩
  new := F.new
theorem Fm.back (F : Fm K H₀ O₀ H O own e σ) (hl : e'.length = e.length) (h : ∀ j, e'.at j = .no ∨ e'.at j = e.at j) : Fm K H₀ O₀ H O own e' σ where
  len := hl.trans F.len
  sl := fun j => by
    rcases h j with z | z
    · rw [z]; trivial
    · rw [z]; exact F.sl j
  inj := F.inj
  same := F.same
  sub := F.sub
  trk0 := F.trk0
  trk := F.trk
  new := F.new
theorem compEnv_at {n : Nat} {caps : List Nat} {e : Nv} (j : Nat) : (compEnv n caps e).at j = .no ∨ ∃ k i, j = n + k ∧ caps[k]? = some i ∧ (compEnv n caps e).at j = e.at i := by
  unfold compEnv
  by_cases hj : j < n
  · left
    unfold Nv.at
    rw [List.getElem?_append_left (by rw [List.length_replicate]; exact hj), List.getElem?_replicate, if_pos hj]; rfl
  · cases q : caps[j - n]? with
    | none =>
      left
      unfold Nv.at
      rw [List.getElem?_append_right (by rw [List.length_replicate]; omega), List.length_replicate, List.getElem?_map, q]; rfl
    | some i =>
      right
      refine ⟨j - n, i, by omega, q, ?_⟩
      show (((List.replicate n Sl.no ++ caps.map fun i => e.at i))[j]?).getD .no = _
      rw [List.getElem?_append_right (by rw [List.length_replicate]; omega), List.length_replicate, List.getElem?_map, q]; rfl
theorem nodup_get {l : List Nat} (h : l.Nodup) {j k i : Nat} (h1 : l[j]? = some i) (h2 : l[k]? = some i) : j = k := by
  obtain ⟨a, e1⟩ := List.getElem?_eq_some_iff.mp h1
  obtain ⟨b, e2⟩ := List.getElem?_eq_some_iff.mp h2
  exact (List.getElem_inj h).mp (e1.trans e2.symm)
theorem Fm.comp (F : Fm K H₀ O₀ H O own e σ) (n : Nat) {caps : List Nat} (hc : caps.Nodup) {p : Addr} (hp : H p = none) {xs : List V} :
    ∃ own', Fm K H₀ O₀ (upd H p (.lst xs)) (plus O p) own' (compEnv n caps e) (stC n caps σ) ∧ ∀ j, own' j ≠ some p := by
  have np : ∀ j, own j ≠ some p := fun j q => by
    obtain ⟨ys, w⟩ := F.trk p (F.new j p q).1
    rw [hp] at w; cases w
  have sm := same_upd hp (.lst xs)
  refine ⟨fun j => if j < n then none else (caps[j - n]?).bind own, ⟨?_, fun j => ?_, fun j k a h1 h2 => ?_, F.same.trans sm, fun a h => .inl (F.sub a h), F.trk0, fun a h => ?_, fun j a h1 => ?_⟩, fun j h1 => ?_⟩
  · unfold compEnv stC
    simp
  · rcases compEnv_at (n := n) (caps := caps) (e := e) j with z | ⟨k, i, rfl, hk, z⟩
    · rw [z]; trivial
    · rw [z, if_neg (by omega), show n + k - n = k by omega, hk]
      have e1 : stAt (stC n caps σ) (n + k) = stAt σ i := by
        unfold stC
        unfold stAt
        rw [List.getElem?_append_right (by rw [List.length_replicate]; omega), List.length_replicate, List.getElem?_map, show n + k - n = k by omega, hk]
        rfl
      rw [e1]
      exact RS.map (fun q => (q.new hp).same sm) (fun q => (q.new hp).same sm) (fun q => (q.new hp).same sm) (fun a ys _ _ q => sm _ _ q) (F.sl i)
  · by_cases hj : j < n
    · rw [if_pos hj] at h1; cases h1
    · by_cases hk : k < n
      · rw [if_pos hk] at h2; cases h2
      · rw [if_neg hj] at h1
        rw [if_neg hk] at h2
        cases q1 : caps[j - n]? with
        | none => rw [q1] at h1; cases h1
        | some i1 =>
          cases q2 : caps[k - n]? with
          | none => rw [q2] at h2; cases h2
          | some i2 =>
            rw [q1] at h1
            rw [q2] at h2
            have := F.inj i1 i2 a h1 h2
            subst this
            have := nodup_get hc q1 q2
            omega
  · rcases h with h | h
    · obtain ⟨ys, q⟩ := F.trk a h
      exact ⟨ys, sm _ _ q⟩
    · subst h; exact ⟨_, upd_same⟩
  · by_cases hj : j < n
    · rw [if_pos hj] at h1; cases h1
    · rw [if_neg hj] at h1
      cases q1 : caps[j - n]? with
      | none => rw [q1] at h1; cases h1
      | some i1 =>
        rw [q1] at h1
        exact ⟨.inl (F.new i1 a h1).1, (F.new i1 a h1).2⟩
  · dsimp only at h1
    by_cases hj : j < n
    · rw [if_pos hj] at h1; cases h1
    · rw [if_neg hj] at h1
      cases q1 : caps[j - n]? with
      | none => rw [q1] at h1; cases h1
      | some i1 =>
        rw [q1] at h1
        exact np i1 h1
def G.below (n : Nat) : G → Bool
  | .one i => decide (i < n)
  | .many is => is.all fun i => decide (i < n)
theorem puts_back {n : Nat} : ∀ {is : List Nat} {ds : List D} {e e' : Nv}, (is.all fun i => decide (i < n)) = true → puts is ds e = .ok e' → e'.length = e.length ∧ ∀ j, n ≤ j → e'.at j = e.at j
  | [], [], e, e', _, h => by rw [puts] at h; cases h; exact ⟨rfl, fun _ _ => rfl⟩
  | [], _ :: _, _, _, _, h => by simp only [puts] at h; cases h
  | _ :: _, [], _, _, _, h => by simp only [puts] at h; cases h
  | i :: is, d :: ds, e, e', hb, h => by
    rw [puts] at h
    rw [List.all_cons, Bool.and_eq_true] at hb
    obtain ⟨h1, h2⟩ := puts_back hb.2 h
    have hi := of_decide_eq_true hb.1
    exact ⟨by rw [h1, List.length_set], fun j hj => by rw [h2 j hj, at_set_ne (by omega)]⟩
theorem put_back {n : Nat} {g : G} {d : D} {e e' : Nv} (hb : g.below n = true) (h : g.put d e = .ok e') : e'.length = e.length ∧ ∀ j, n ≤ j → e'.at j = e.at j := by
  cases g with
  | one i =>
    have h : Res.ok (e.set i (.v d)) = .ok e' := h
    cases h
    have hi : i < n := of_decide_eq_true hb
    exact ⟨List.length_set, fun j hj => at_set_ne (by omega)⟩
  | many is =>
    cases d with
    | tup ds => exact puts_back hb h
    | non => cases h
    | bl _ => cases h
    | int _ => cases h
    | str _ => cases h
    | lst _ => cases h
    | dct _ => cases h
end
end Tr
namespace Tr
open PySem PySem.Spec PyProof.Rows L2
section
variable {T : Tab} {cf : Nat → List D → Res D} {X : Cx} {x y z : E} {p q r tg iter : Expr} {pos : Pos}
def Src (K : PySem.W.Frag) (H : Hp) (O : Addr → Prop) (p : Addr) (d : D) (v : V) : Prop := RD K H O d v ∨ ∃ a, v = .ref a ∧ a ≠ p ∧ OwnAt K H O a d
theorem Src.rr {K : PySem.W.Frag} {H : Hp} {O : Addr → Prop} {p : Addr} {d : D} {v : V} (h : Src K H O p d v) : RR K H O d v := by
  rcases h with z | ⟨al, z1, z2, z3⟩
  · exact .inl z
  · exact .inr ⟨al, z1, z3⟩
theorem Src.same {K : PySem.W.Frag} {H H' : Hp} {O : Addr → Prop} {p : Addr} {d : D} {v : V} (h : Src K H O p d v) (s : Same H H') : Src K H' O p d v := by
  rcases h with z | ⟨al, z1, z2, z3⟩
  · exact .inl (z.same s)
  · exact .inr ⟨al, z1, z2, z3.same s⟩
theorem Src.upd {K : PySem.W.Frag} {H : Hp} {O : Addr → Prop} {p : Addr} {d : D} {v : V} {ys zs : List V} (h : Src K H O p d v) (hO : O p) (hp : H p = some (.lst ys)) : Src K (L2.upd H p (.lst zs)) O p d v := by
  rcases h with z | ⟨al, z1, z2, z3⟩
  · exact .inl (z.upd hO hp)
  · exact .inr ⟨al, z1, z2, z3.updM hO hp trivial z2⟩
def testsIs (ifs : List Expr) (cond : E) (P : Expr → Prop) : Prop := (ifs = [] ∧ cond = .con (.bl true)) ∨ ∃ c, ifs = [c] ∧ P c
theorem comp_run {n : Nat} {caps : List Nat} {g : G} {elt src cond : E} {pe : Expr} {ifs : List Expr} {scope : Scope} {Nc : List Str} (hc : X.calm = true) (S : ScopeC X scope) (P : CapsOk X scope n caps Nc) (hb : g.below n = true)
    (hplain : plainX iter = true) (hsrc : SI T cf X tg src true iter)
    (body : ∀ C s2 H2 fp, (cxC X scope C Nc s2 H2 fp).Ok → SG (cxC X scope C Nc s2 H2 fp) g tg ∧ SE T cf (cxC X scope C Nc s2 H2 fp) elt pe ∧ testsIs ifs cond (ST T cf (cxC X scope C Nc s2 H2 fp) cond))
    {use : Option (Value → Sem Unit)} {H₀ : Hp} {O₀ : Addr → Prop} {pins : List (Addr × Obj)} {s : Shared} {σ : L2.St} {H : Hp} {O : Addr → Prop} {own : Nat → Option Addr} {e : Nv} {d : D} {Q : Value → Shared → Prop} (I : Inv X pins σ H s) (F : Fm X.K H₀ O₀ H O own e σ)
    (ev : evE T cf (.comp n caps g elt src cond) e = .ok d)
    (fin : ∀ C s2 H2 Hi s' a, Inv X pins σ H2 s2 → Same H H2 → s2.heap.objs.size < C → (∀ h', Heap.SameBut C s'.heap h' → Inv X pins σ Hi { s' with heap := h' }) → (∃ m, s'.heap.Ns C m) → Hi C = none → Same H Hi → Fm X.K H₀ O₀ Hi O own e σ → RD X.K Hi O d (.ref a) → NewL X.K H Hi O d (.ref a) → a ≠ C →
      compPost (model X.prog X.w) X.A X.xe use Q (.ref a) C (.ok .next) s') :
    wpAny (model X.prog X.w) X.A (comprehension (.ListComp pe [⟨tg, iter, ifs, 0⟩] scope pos) scope X.env (firstIterPos [⟨tg, iter, ifs, 0⟩] pos) (newList []) false (eval iter X.env) use) Q X.xe s := by
  (first | rw [xE_var] at ev | rw [xE_rd] at ev | rw [xE_con] at ev | rw [xE_glob] at ev | rw [xE_bin] at ev | rw [xE_cmp] at ev | rw [xE_chain] at ev | rw [xE_and] at ev | rw [xE_or] at ev | rw [xE_not] at ev | rw [xE_neg] at ev | rw [xE_ife] at ev | rw [xE_ix] at ev | rw [xE_sl] at ev | rw [xE_omit] at ev | rw [xE_tup] at ev | rw [xE_lst] at ev | rw [xE_call] at ev | rw [xE_callB] at ev | rw [xE_bt] at ev | rw [xE_isi] at ev | rw [xE_dnew] at ev | rw [xE_mth] at ev | rw [xE_callT] at ev | rw [xE_gidx] at ev | rw [xE_lset] at ev | rw [xE_maxd] at ev | rw [xE_lrng] at ev | rw [xE_comp] at ev)
  obtain ⟨ds, e1, ev⟩ := Res.bind_ok ev
  obtain ⟨ys, e2, ev⟩ := Res.bind_ok ev
  obtain ⟨cz, ev⟩ := when_ok ev
  cases ev
  have hz := of_decide_eq_true cz
  refine wpAny_comprehension_free rfl (plain_fold hplain) (closure_eq (S.cells I.ok)) S.kind S.names ?_
  refine thn (hsrc H₀ O₀ pins s σ H (fun J H2 => ∃ srs, Same H H2 ∧ (∀ t ∈ srs, RR X.K H2 O t.1 t.2) ∧ Wk X.K J srs ds) I ⟨O, own, e, ds, F, e1, fun J H' srs s' rr _ wk => ⟨srs, s', rr, wk⟩⟩) fun v s1 h1 => thn h1 fun itv s2 h2 => ?_
  obtain ⟨it, fp, tn, J, H2, rfl, I2, Tn, tn0, hfp, srs, s12, rr0, wk⟩ := h2
  refine wpAny_newObj_type (wpAny_newFunctionEnv S.cell (by intro y hy; simp at hy) (fun h₁ hns₁ hsb₁ => ?_) S.kind)
  dsimp only at hns₁ hsb₁ ⊢
  generalize hH2 : s2.heap.push { cls := .type "list", dict := none, data := .seq ([] : List Value).toArray } = HP at hns₁ hsb₁ ⊢
  have hC : HP.objs.size = s2.heap.objs.size + 1 := by rw [← hH2, Heap.size_push]
  have hCl : s2.heap.objs.size < HP.objs.size := by rw [hC]; exact Nat.lt_succ_self _
  have below : ∀ b, b < s2.heap.objs.size → b ≠ HP.objs.size := fun b hb => by rw [hC]; exact Nat.ne_of_lt (Nat.lt_succ_of_lt hb)
  have old : ∀ b o, s2.heap.get? b = some o → h₁.get? b = some o := fun b o e => hsb₁.extBut b o (below b (Heap.lt_size e)) (Heap.get?_push_of_some _ (hH2 ▸ Heap.get?_push_of_some _ e))
  have hacc : h₁.get? s2.heap.objs.size = some { cls := .type "list", data := .seq #[] } := hsb₁.extBut _ _ (Nat.ne_of_lt hCl) (Heap.get?_push_of_some _ (hH2 ▸ Heap.get?_push_size _ rfl))
  have hfo : ∀ b ∈ fp, b < s2.heap.objs.size := fun b hb => let ⟨o, q, _⟩ := Tn.obj 0 _ tn0 b hb; Heap.lt_size q
  have ok := cxC_ok (Nc := Nc) I2 S hfp hfo (Nat.le_of_lt hCl)
  have fr : H2 s2.heap.objs.size = none := I2.hok.fresh (Nat.le_refl _)
  have F2 := F.grow s12
  obtain ⟨ownc, Fc, nown⟩ := F2.comp n (caps := caps) P.nd fr (xs := [])
  obtain ⟨bg, be, bt⟩ := body HP.objs.size s2 H2 fp ok
  have I0 := invC (t1 := s2.toks + ([] : List (Str × Value)).length) (fp := fp) I2 S P ok old hCl (by simpa using hns₁) hacc
  have fpn : ∀ {Hi : Hp} {pins' : List (Addr × Obj)}, (∀ b ∈ fp, Hi b = none) → (∀ b ∈ fp, ∀ p ∈ pins', p.1 ≠ b) → ∀ b ∈ fp, FpOk (cxC X scope HP.objs.size Nc s2 H2 fp) pins' Hi b := fun hn hpp b hb => by
    refine ⟨hn b hb, (ok.exf b hb).1, ok.exfs b hb, .inl hb, (ok.exf b hb).2, fun p hp => hpp b hb p (by simpa [cxC] using hp)⟩
  let f : D → Res (Option D) := fun d => do
      let e1 ← g.put d (compEnv n caps e)
      let c ← evE T cf cond e1
      let k ← c.truth
      if k then do let y ← evE T cf elt e1; .ok (some y) else .ok none
  have loop : ∀ s₃ : Shared, s₃ = { s2 with heap := h₁, toks := s2.toks + ([] : List (Str × Value)).length } →
      codeAny (model X.prog X.w) X.A (.compLoop (.ListComp pe [⟨tg, iter, ifs, 0⟩] scope pos) 0 (.ref it) (.ref s2.heap.objs.size) (compEnvC scope (freeCells X.env.cells scope.names []) HP.objs.size X.env))
        (compPost (model X.prog X.w) X.A X.xe use Q (.ref s2.heap.objs.size) HP.objs.size) s₃ := by
    rintro s₃ rfl
    refine compLoop_gen (fun k s' => ∃ i σi Hi own' as bs, k = ds.length + 1 - i ∧ i ≤ ds.length ∧ Inv (cxC X scope HP.objs.size Nc s2 H2 fp) [] σi Hi s' ∧ tn i s'.heap ∧ (∀ b ∈ fp, Hi b = none) ∧ Same H2 Hi ∧
      Fm X.K H₀ O₀ Hi (plus O s2.heap.objs.size) own' (compEnv n caps e) σi ∧ (∀ j, own' j ≠ some s2.heap.objs.size) ∧ compL f (ds.drop i) = .ok bs ∧ ys = as ++ bs ∧ as.length ≤ i ∧
      (∃ xs, Hi s2.heap.objs.size = some (.lst xs) ∧ RDs X.K Hi (plus O s2.heap.objs.size) as xs) ∧ ∀ t ∈ srs, Src X.K Hi (plus O s2.heap.objs.size) s2.heap.objs.size t.1 t.2) ?_ (ds.length + 1) ?_
    · rintro k s' ⟨i, σi, Hi, own', as, bs, rfl, hi, Ii, tni, fri, smi, Fi, noi, evd, rfl, hal, ⟨xs, hx, wx⟩, rri⟩
      have stat : ∀ b ∈ fp, FpOk (cxC X scope HP.objs.size Nc s2 H2 fp) [] Hi b := fpn fri (fun b _ p hp => by cases hp)
      obtain ⟨w1, w2, w3⟩ := wk i Hi (plus O s2.heap.objs.size) fun t ht => (rri t ht).rr
      by_cases hlt : i < ds.length
      · refine thn (Tn.item (cxC X scope HP.objs.size Nc s2 H2 fp) rfl rfl rfl hc i [] s' σi Hi (fun _ _ => False) Ii stat tni (w1 hlt)) fun r s4 ⟨u, hr, h4⟩ => ?_
        subst hr
        refine thn h4 fun _ s5 ⟨v, H5, I5, r5, y5, tn5, fr5⟩ => ?_
        obtain ⟨s35, rv⟩ := w3 v H5 _ (List.getElem?_eq_getElem hlt) y5
        have I5' := I5.pinned (fpn fr5 (fun b _ p hp => by cases hp)) (Tn.obj _ _ tn5)
        rw [List.drop_eq_getElem_cons hlt, compL] at evd
        obtain ⟨o, ef, evd⟩ := Res.bind_ok evd
        obtain ⟨b', eb, evd⟩ := Res.bind_ok evd
        obtain ⟨e3, ep, ef⟩ := Res.bind_ok ef
        obtain ⟨dc, ec, ef⟩ := Res.bind_ok ef
        obtain ⟨kc, et, ef⟩ := Res.bind_ok ef
        have F5 := Fi.grow s35
        refine thn (bg H₀ O₀ _ s5 σi H5 v u (fun σ' H' => H' = H5 ∧ ∃ own'', Fm X.K H₀ O₀ H5 (plus O s2.heap.objs.size) own'' e3 σ' ∧ ∀ j, own'' j ≠ some s2.heap.objs.size) I5' r5 ⟨_, own', _, _, e3, F5, rv, ep, fun σ' own'' hle F' => ⟨rfl, own'', F', fun j q => noi j (hle j _ q)⟩⟩) fun _ s6 ⟨σ6, H6, I6, q6⟩ => ?_
        obtain ⟨rfl, own6, F6, no6⟩ := q6
        have tests : wpAny (model X.prog X.w) X.A (forIn ifs true fun c r => if r = true then do let ok ← isTrue c (compEnvC scope (freeCells X.env.cells scope.names []) HP.objs.size X.env) (eval c (compEnvC scope (freeCells X.env.cells scope.names []) HP.objs.size X.env)); pure (ForInStep.yield ok) else pure (ForInStep.yield r))
            (fun ok s7 => ok = kc ∧ ∃ H7, Inv (cxC X scope HP.objs.size Nc s2 H2 fp) ([] ++ pinsAt fp s5.heap) σ6 H7 s7 ∧ Same H6 H7) (fun _ _ => False) s6 := by
          rcases bt with ⟨hi0, hc0⟩ | ⟨c0, hi0, st0⟩
          · subst hi0 hc0
            (first | rw [xE_var] at ec | rw [xE_rd] at ec | rw [xE_con] at ec | rw [xE_glob] at ec | rw [xE_bin] at ec | rw [xE_cmp] at ec | rw [xE_chain] at ec | rw [xE_and] at ec | rw [xE_or] at ec | rw [xE_not] at ec | rw [xE_neg] at ec | rw [xE_ife] at ec | rw [xE_ix] at ec | rw [xE_sl] at ec | rw [xE_omit] at ec | rw [xE_tup] at ec | rw [xE_lst] at ec | rw [xE_call] at ec | rw [xE_callB] at ec | rw [xE_bt] at ec | rw [xE_isi] at ec | rw [xE_dnew] at ec | rw [xE_mth] at ec | rw [xE_callT] at ec | rw [xE_gidx] at ec | rw [xE_lset] at ec | rw [xE_maxd] at ec | rw [xE_lrng] at ec | rw [xE_comp] at ec); cases ec; cases et
            exact wpAny_tests_nil ⟨rfl, H6, I6, Same.refl _⟩
          · subst hi0
            refine wpAny_tests_one (thn (st0 H₀ O₀ _ s6 σ6 H6 (fun b H' => b = kc ∧ Same H6 H') I6 ⟨_, own6, e3, dc, kc, F6, ec, et, fun H' s => ⟨rfl, s⟩⟩) fun b s7 ⟨H7, I7, q1, q2⟩ => ⟨q1, H7, I7, q2⟩)
        refine thn tests fun ok s7 ⟨hok, H7, I7, s57⟩ => ?_
        subst hok
        have F7 := F6.grow s57
        obtain ⟨pl1, pl2⟩ := put_back hb ep
        have bk : ∀ j, (compEnv n caps e).at j = .no ∨ (compEnv n caps e).at j = e3.at j := fun j => by
          by_cases hj : n ≤ j
          · exact .inr (pl2 j hj).symm
          · rcases compEnv_at (n := n) (caps := caps) (e := e) j with z | ⟨k, i, rfl, _, _⟩
            · exact .inl z
            · exact absurd (Nat.le_add_right n k) hj
        have keepT : ∀ {H8 : Hp} {s8 : Shared} {σ8 : L2.St}, Inv (cxC X scope HP.objs.size Nc s2 H2 fp) ([] ++ pinsAt fp s5.heap) σ8 H8 s8 → tn (i + 1) s8.heap ∧ ∀ b ∈ fp, H8 b = none := fun I8 =>
          ⟨Tn.keep _ _ _ tn5 fun b hb o q => (I8.pin (b, o) (List.mem_append_right _ (List.mem_append_right _ (mem_pinsAt hb q)))).1, fun b hb => by
            obtain ⟨o, q, _⟩ := Tn.obj _ _ tn5 b hb
            exact (I8.pin (b, o) (List.mem_append_right _ (List.mem_append_right _ (mem_pinsAt hb q)))).2.1⟩
        cases ok with
        | false =>
          rw [if_neg Bool.false_ne_true] at ef ⊢
          cases ef
          cases evd
          obtain ⟨t1, t2⟩ := keepT I7
          exact ⟨ds.length + 1 - (i + 1), by omega, i + 1, σ6, H7, own6, as, bs, rfl, hlt, I7.unpinned, t1, t2, smi.trans (s35.trans s57), F7.back pl1.symm bk, no6, eb, rfl, Nat.le_succ_of_le hal, ⟨xs, s57 _ _ (s35 _ _ hx), (wx.same s35).same s57⟩, fun t ht => ((rri t ht).same s35).same s57⟩
        | true =>
          rw [if_pos rfl] at ef ⊢
          obtain ⟨dy, ey, ef⟩ := Res.bind_ok ef
          cases ef
          cases evd
          refine thn (be H₀ O₀ _ s7 σ6 H7 (fun v H' => Same H7 H' ∧ RD X.K H' (plus O s2.heap.objs.size) dy v) I7 ⟨_, own6, e3, dy, F7, ey, fun v H' s r _ => ⟨s, r⟩⟩) fun wv s8 ⟨vy, H8, I8, r8, s78, rd8⟩ => ?_
          have sm8 := s35.trans (s57.trans s78)
          have hx8 := sm8 _ _ hx
          have F8 := F7.grow s78
          have wx8 := wx.same sm8
          have h0 : H₀ s2.heap.objs.size = none := (F.same.trans s12).free fr
          refine thn (mt_append (X := cxC X scope HP.objs.size Nc s2 H2 fp) _ s8 σ6 H8 (.ref s2.heap.objs.size) [vy] (.ref s2.heap.objs.size) [wv] (fun _ H' => H' = upd H8 s2.heap.objs.size (.lst (xs ++ [vy]))) I8 rfl (.cons r8 .nil) ⟨_, xs, vy, rfl, rfl, hx8, by rw [wx.length, ← big_line]; omega, rfl⟩) fun _ s9 ⟨v9, H9, I9, r9, e9⟩ => ?_
          subst e9
          obtain ⟨t1, t2⟩ := keepT I9
          have smU : Same H2 (upd H8 s2.heap.objs.size (.lst (xs ++ [vy]))) := fun b o q => by
            rw [upd_ne (ne_of_none q fr)]
            exact sm8 _ _ (smi _ _ q)
          refine ⟨ds.length + 1 - (i + 1), by omega, i + 1, σ6, _, own6, as ++ [dy], b', rfl, hlt, I9.unpinned, t1, t2, smU, (F8.updO (.inr rfl) hx8 h0 no6).back pl1.symm bk, no6, eb, by simp, ?_, ⟨xs ++ [vy], upd_same, ?_⟩, fun t ht => ((rri t ht).same sm8).upd (.inr rfl) hx8⟩
          · rw [List.length_append, List.length_singleton]; omega
          · exact (wx8.append (RDs.cons rd8 RDs.nil)).upd (.inr rfl) hx8
      · have hii : i = ds.length := by omega
        subst hii
        refine thn (Tn.done (cxC X scope HP.objs.size Nc s2 H2 fp) rfl rfl rfl hc _ [] s' σi Hi (fun _ _ => False) Ii stat tni (w2 (Nat.le_refl _))) fun r s4 ⟨hr, I4⟩ => ?_
        subst hr
        rw [List.drop_length, compL] at evd
        cases evd
        have nO : ¬ O s2.heap.objs.size := fun z => by
          obtain ⟨o, q⟩ := F2.trk _ z
          rw [fr] at q; cases q
        refine fin HP.objs.size s2 H2 Hi s4 s2.heap.objs.size I2 s12 hCl (fun h' sb => outC I2 I4 hfp (Nat.le_of_lt hCl) sb) ?_ I4.free (s12.trans smi) (F.grow (s12.trans smi)) ?_ ?_ (Nat.ne_of_lt hCl)
        · obtain ⟨m, hn, _⟩ := I4.loc
          exact ⟨m, hn⟩
        · exact ⟨_, xs, rfl, .inl ⟨nO, .inl hx⟩, by rw [List.append_nil]; exact wx.weak fun _ z => .inl z⟩
        · exact fun _ => ⟨_, rfl, s12.free fr, xs, hx, by rw [List.append_nil]; exact wx⟩
    · refine ⟨0, _, _, ownc, [], ys, rfl, Nat.zero_le _, I0, Tn.keep _ _ _ tn0 fun b _ o q => old b o q, fun b hb => ?_, same_upd fr _, Fc, nown, by simpa using e2, rfl, Nat.le_refl _, ⟨[], upd_same, rfl⟩, ?_⟩
      · rw [upd_ne (Nat.ne_of_lt (hfo b hb))]; exact (hfp b hb).1
      · intro t ht
        rcases rr0 t ht with z | ⟨al, z1, z2⟩
        · exact .inl ((z.new fr).same (same_upd fr _))
        · obtain ⟨ob, hob, _⟩ := z2.obj
          exact .inr ⟨al, z1, ne_of_none hob fr, (z2.new fr).same (same_upd fr _)⟩
  exact codeAny_compStart_list (loop _ rfl) (Tn.self _ 0 _ _ _ (Tn.keep _ _ _ tn0 fun b _ o q => old b o q) (loop _ rfl))
end
end Tr
namespace Tr
open PySem PySem.Spec PyProof.Rows L2
section
variable {T : Tab} {cf : Nat → List D → Res D} {X : Cx} {x y z : E} {p q r tg iter : Expr} {pos pos' pos'' : Pos}
theorem se_comp {n : Nat} {caps : List Nat} {g : G} {elt src cond : E} {pe : Expr} {ifs : List Expr} {scope : Scope} {Nc : List Str} (hc : X.calm = true) (S : ScopeC X scope) (P : CapsOk X scope n caps Nc) (hb : g.below n = true)
    (hplain : plainX iter = true) (hsrc : SI T cf X tg src true iter)
    (body : ∀ C s2 H2 fp, (cxC X scope C Nc s2 H2 fp).Ok → SG (cxC X scope C Nc s2 H2 fp) g tg ∧ SE T cf (cxC X scope C Nc s2 H2 fp) elt pe ∧ testsIs ifs cond (ST T cf (cxC X scope C Nc s2 H2 fp) cond)) :
    SE T cf X (.comp n caps g elt src cond) (.ListComp pe [⟨tg, iter, ifs, 0⟩] scope pos) := by
  intro H₀ O₀ pins s σ H Q I ⟨O, own, e, d, F, ev, k⟩
  rw [eval_ListComp]
  refine comp_run (use := none) hc S P hb hplain hsrc body I F ev ?_
  intro C s2 H2 Hi s' a I2 s12 hC hI ns hn sm Fi rd nl hne
  obtain ⟨m, ns⟩ := ns
  exact ⟨m, ns, fun h' sb => ⟨.ref a, Hi, hI h' sb, rfl, k _ Hi sm rd fun _ => nl⟩⟩
theorem comp_asg {i : Nat} {nm : Str} {n : Nat} {caps : List Nat} {g : G} {elt src cond : E} {pe : Expr} {ifs : List Expr} {scope : Scope} {Nc : List Str} (hN : X.N.Nodup) (hi : X.N[i]? = some nm) (hl : Loc X.env.scope nm) (hf : X.fn nm = true ∨ X.env.scope.names.lookup nm = some .local)
    (hsw : swapsWith (.ListComp pe [⟨tg, iter, ifs, 0⟩] scope pos) (some (.Name nm pos')) pos''.line X.env = pure true)
    (hc : X.calm = true) (S : ScopeC X scope) (P : CapsOk X scope n caps Nc) (hb : g.below n = true)
    (hplain : plainX iter = true) (hsrc : SI T cf X tg src true iter)
    (body : ∀ C s2 H2 fp, (cxC X scope C Nc s2 H2 fp).Ok → SG (cxC X scope C Nc s2 H2 fp) g tg ∧ SE T cf (cxC X scope C Nc s2 H2 fp) elt pe ∧ testsIs ifs cond (ST T cf (cxC X scope C Nc s2 H2 fp) cond)) :
    ∀ H₀ O₀, PS X (.Assign [.Name nm pos'] (.ListComp pe [⟨tg, iter, ifs, 0⟩] scope pos) pos'') (fun D' σ H => ∃ O own e d, Fm X.K H₀ O₀ H O own e σ ∧ evE T cf (.comp n caps g elt src cond) e = .ok d ∧ ∀ v H', Same H H' → RD X.K H' O d v → NewL X.K H H' O d v → D'.nx (σ.set i (some v)) H') := by
  intro H₀ O₀ pins s σ H D' I ⟨O, own, e, d, F, ev, k⟩
  rw [exec_Assign_Name_used _ _ _ _ hsw]
  refine wpAny_bind (wpAny_standAt (wpAny_bind ?_))
  show wpAny _ X.A (do let _ ← comprehension (.ListComp pe [⟨tg, iter, ifs, 0⟩] scope pos) scope X.env _ (newList []) false (eval iter X.env) (some (assign (.Name nm pos') X.env))) _ _ s
  refine wpAny_bind (wpAny_mono (comp_run (use := some (assign (.Name nm pos') X.env)) (Q := fun _ s' => SP X pins D' .next s') hc S P hb hplain hsrc body I F ev ?_) (fun _ s' hq => wpAny_pure (wpAny_pure hq)) fun _ _ e => e)
  intro C s2 H2 Hi s' a I2 s12 hC hI ns hn sm Fi rd nl hne
  obtain ⟨m, ns⟩ := ns
  have I' : Inv X pins σ Hi s' := by
    have := hI s'.heap (.refl ..)
    exact this
  show wpAny _ X.A (assign (.Name nm pos') X.env (.ref a)) _ _ _
  refine wpAny_assign_Name (store_ok2 (v := .ref a) I' hN hi hl rfl (fun s'' I'' ⟨a0, sb, ha0⟩ => ?_) hf)
  have lt0 : a0 < s2.heap.objs.size := by
    rcases ha0 with z | z
    · rw [z]; exact I2.lt
    · obtain ⟨v, w⟩ := I2.cell nm a0 z
      exact w.lt
  have neC : C ≠ a0 := Nat.ne_of_gt (Nat.lt_trans lt0 hC)
  refine ⟨m, ns.sameBut sb neC, fun h' sb' => ?_⟩
  refine ⟨σ.set i (some (.ref a)), Hi, ?_, k _ Hi sm rd nl⟩
  refine I''.turned (t' := s''.toks) (it := C) (fun b o hb' e => (sb'.2 b hb').trans e) hn (Nat.ne_of_gt (Nat.lt_trans I2.lt hC)) (.inr (Nat.le_trans I2.sz (Nat.le_of_lt hC))) (fun x c e z => ?_) (fun p hp z => ?_)
  · obtain ⟨v, w⟩ := I2.cell x c e
    exact absurd (Nat.lt_trans w.lt hC) (by rw [z]; exact Nat.lt_irrefl _)
  · exact absurd (Nat.lt_trans (Heap.lt_size (I2.pin p hp).1) hC) (by rw [z]; exact Nat.lt_irrefl _)
theorem ss_asg_comp {i : Nat} {nm : Str} {n : Nat} {caps : List Nat} {g : G} {elt src cond : E} {pe : Expr} {ifs : List Expr} {scope : Scope} {Nc : List Str} (hN : X.N.Nodup) (hi : X.N[i]? = some nm) (hl : Loc X.env.scope nm) (hf : X.fn nm = true ∨ X.env.scope.names.lookup nm = some .local)
    (hc : X.calm = true) (S : ScopeC X scope) (P : CapsOk X scope n caps Nc) (hb : g.below n = true)
    (hplain : plainX iter = true) (hsrc : SI T cf X tg src true iter) (o : Bool)
    (body : ∀ C s2 H2 fp, (cxC X scope C Nc s2 H2 fp).Ok → SG (cxC X scope C Nc s2 H2 fp) g tg ∧ SE T cf (cxC X scope C Nc s2 H2 fp) elt pe ∧ testsIs ifs cond (ST T cf (cxC X scope C Nc s2 H2 fp) cond)) :
    SS T cf X (if o then .asgO i (.comp n caps g elt src cond) else .asg (.one i) (.comp n caps g elt src cond)) (.Assign [.Name nm pos'] (.ListComp pe [⟨tg, iter, ifs, 0⟩] scope pos) pos'') := by
  intro H₀ O₀
  have main : PS X (.Assign [.Name nm pos'] (.ListComp pe [⟨tg, iter, ifs, 0⟩] scope pos) pos'') (fun D' σ H => ∃ O own e d, Fm X.K H₀ O₀ H O own e σ ∧ evE T cf (.comp n caps g elt src cond) e = .ok d ∧ ∀ v H', Same H H' → RD X.K H' O d v → NewL X.K H H' O d v → D'.nx (σ.set i (some v)) H') := by
    have hsw : ∃ b : Bool, swapsWith (.ListComp pe [⟨tg, iter, ifs, 0⟩] scope pos) (some (.Name nm pos')) pos''.line X.env = pure b := ⟨_, rfl⟩
    obtain ⟨b, hsw⟩ := hsw
    cases b with
    | true => exact comp_asg hN hi hl hf hsw hc S P hb hplain hsrc body H₀ O₀
    | false =>
      refine PS.imp (fun D' σ H hq => ?_) (ps_set hN hi hl (se_comp hc S P hb hplain hsrc body H₀ O₀) hsw hf)
      obtain ⟨O, own, e, d, F, ev, k⟩ := hq
      exact ⟨O, own, e, d, F, ev, fun v H' s' r n => k v H' s' r (n rfl)⟩
  refine PS.imp (fun D' σ H hq => ?_) main
  obtain ⟨ts, e, out, ⟨O, own, F, tt⟩, ev, k⟩ := hq
  cases o with
  | true =>
    rw [if_pos rfl] at ev
    (first | rw [xS_nil] at ev | rw [xS_cons] at ev | rw [xS_pass] at ev | rw [xS_ret] at ev | rw [xS_retO] at ev | rw [xS_retN] at ev | rw [xS_asg] at ev | rw [xS_asgO] at ev | rw [xS_sealed] at ev | rw [xS_ite] at ev | rw [xS_forS] at ev | rw [xS_whl] at ev | rw [xS_app] at ev | rw [xS_rev] at ev | rw [xS_dput] at ev | rw [xS_ext] at ev | rw [xS_never] at ev | rw [xS_asgP] at ev | rw [xS_appP] at ev | rw [xS_aug] at ev | rw [xS_lput] at ev | rw [xS_brk] at ev | rw [xS_cnt] at ev)
    obtain ⟨d, e1, ev⟩ := Res.bind_ok ev
    split at ev
    · obtain ⟨c, ev⟩ := when_ok ev
      cases ev
      refine ⟨O, own, e, _, F, e1, fun v H' s' r n => ?_⟩
      obtain ⟨p, rfl, h2, h3⟩ := n rfl
      exact k _ H' ⟨_, _, F.setO s' i h2 h3, fun t ht => ((tt t ht).new h2).same s'⟩
    · obtain ⟨c, ev⟩ := when_ok ev
      cases ev
      refine ⟨O, own, e, _, F, e1, fun v H' s' r n => ?_⟩
      obtain ⟨p, rfl, h2, h3⟩ := n rfl
      exact k _ H' ⟨_, _, F.setO s' i h2 h3, fun t ht => ((tt t ht).new h2).same s'⟩
    · cases ev
  | false =>
    rw [if_neg Bool.false_ne_true] at ev
    (first | rw [xS_nil] at ev | rw [xS_cons] at ev | rw [xS_pass] at ev | rw [xS_ret] at ev | rw [xS_retO] at ev | rw [xS_retN] at ev | rw [xS_asg] at ev | rw [xS_asgO] at ev | rw [xS_sealed] at ev | rw [xS_ite] at ev | rw [xS_forS] at ev | rw [xS_whl] at ev | rw [xS_app] at ev | rw [xS_rev] at ev | rw [xS_dput] at ev | rw [xS_ext] at ev | rw [xS_never] at ev | rw [xS_asgP] at ev | rw [xS_appP] at ev | rw [xS_aug] at ev | rw [xS_lput] at ev | rw [xS_brk] at ev | rw [xS_cnt] at ev)
    obtain ⟨d, e1, ev⟩ := Res.bind_ok ev
    obtain ⟨e2, e3, ev⟩ := Res.bind_ok ev
    cases ev
    cases e3
    exact ⟨O, own, e, d, F, e1, fun v H' s' r n => k _ H' ⟨O, _, (F.grow s').setV i r, fun t ht => (tt t ht).same s'⟩⟩
end
end Tr
namespace Tr
open PySem PySem.Spec PyProof.Rows L2
structure Txt where
  gn : List Str
  dn : List Str
  tf : List (Str × List Nat) := []
  ts : List (Str × List Str) := []
def nodupB {α : Type} [BEq α] : List α → Bool
  | [] => true
  | a :: r => !r.contains a && nodupB r
theorem nodup_of {α : Type} [BEq α] [LawfulBEq α] : ∀ {l : List α}, nodupB l = true → l.Nodup
  | [], _ => List.nodup_nil
  | a :: r, h => by
    rw [nodupB, Bool.and_eq_true] at h
    refine List.nodup_cons.mpr ⟨fun m => ?_, nodup_of h.2⟩
    have : r.contains a = true := List.contains_iff_mem.mpr m
    rw [this] at h
    exact absurd h.1 (by simp)
def isRd : E → Bool
  | .rd _ => true
  | _ => false
def visB (sc : Scope) (n : Str) : Bool := (sc.names.lookup n == some .local) || (sc.names.lookup n == some .cell) || (sc.names.lookup n == some .free)
def glB (sc : Scope) (n : Str) : Bool := sc.names.lookup n == some .globalImplicit
def dbgB (n : Str) : Bool := !(n == ("__debug__" : Str)) && !(n == ("__classdict__" : Str))
def nameB (N : List Str) (sc : Scope) (i : Nat) (n : Str) : Bool := (N[i]? == some n) && visB sc n && dbgB n
def relS (scope sc : Scope) : Scope := { scope with names := scope.names.map fun (n, k) => if (k == .free && sc.kind == .function && sc.names.lookup n == some .cell) then (n, .cell) else (n, k) }
def tgNames : Expr → List Str
  | .Name n _ => [n]
  | .Tuple es _ _ => es.filterMap fun | .Name n _ => some n | _ => none
  | _ => []
def mGs (loc : Bool) (N : List Str) (sc : Scope) : List Nat → List Expr → Bool
  | [], [] => true
  | i :: is, .Name n _ :: es => (N[i]? == some n) && ((sc.names.lookup n == some .local) || (!loc && sc.names.lookup n == some .cell)) && mGs loc N sc is es
  | _, _ => false
def mG (loc : Bool) (N : List Str) (sc : Scope) : G → Expr → Bool
  | .one i, .Name n _ => (N[i]? == some n) && ((sc.names.lookup n == some .local) || (!loc && sc.names.lookup n == some .cell))
  | .many is, .Tuple es _ _ => mGs loc N sc is es
  | _, _ => false
def scB (sc scope : Scope) : Bool := (scope.kind == .function) && scope.names.all (fun x => !(x.2 == .cell)) && scope.names.all (fun x => !(x.2 == .local) || (scope.names.lookup x.1 == some .local)) &&
  scope.names.all (fun x => !(x.2 == .free) || (!(scope.names.lookup x.1 == some .local) && ((sc.names.lookup x.1 == some .cell) || (sc.names.lookup x.1 == some .free))))
def capNames (N : List Str) (caps : List Nat) : List Str := caps.map fun i => (N[i]?).getD ""
def capB (N : List Str) (scope : Scope) (caps : List Nat) : Bool := caps.all fun i => match N[i]? with | some n => scope.names.contains (n, .free) | none => false
def isTrueC : E → Bool
  | .con (.bl true) => true
  | _ => false
def isOmit : E → Bool
  | .omit => true
  | _ => false
section
variable (Tx : Txt)
mutual
def mE : E → List Str → Scope → Expr → Bool
  | .var i, N, sc, .Name n _ => nameB N sc i n
  | .rd i, N, sc, .Name n _ => nameB N sc i n
  | .con d, _, _, .Constant c _ _ => cstIs d c
  | .bin o a b, N, sc, .BinOp l o' r _ => (o == o') && mE a N sc l && mE b N sc r
  | .cmp o a b, N, sc, .Compare l [o'] [r] _ => (o == o') && mE a N sc l && mE b N sc r
  | .neg a, N, sc, .UnaryOp .USub l _ => mE a N sc l
  | .ix a b, N, sc, .Subscript l r _ => mE a N sc l && mE b N sc r
  | .sl a lo hi, N, sc, .Subscript l (.Slice p q none _) _ => mE a N sc l && (match p with | none => isOmit lo | some p' => !isRd lo && mE lo N sc p') && (match q with | none => isOmit hi | some q' => !isRd hi && mE hi N sc q')
  | .tup a, N, sc, .Tuple es _ _ => mA a false N sc es
  | .lst a, N, sc, .List es _ => mA a false N sc es
  | .call f a, N, sc, .Call (.Name n _) es [] _ => (Tx.dn[f]? == some n) && glB sc n && dbgB n && mA a false N sc es
  | .bt b a, N, sc, .Call (.Name n _) (e :: es) [] _ => b.use && (n == b.nm) && glB sc n && mA a true N sc (e :: es)
  | .maxd a b, N, sc, .Call (.Name n _) [q] [⟨some kn, r, _⟩] _ => (n == "max") && (kn == "default") && glB sc n && !isRd b && mE a N sc q && mE b N sc r
  | .comp own caps g elt src cond, N, sc, .ListComp pe [⟨tg, iter, ifs, isa⟩] scope _ =>
    (isa == 0) && scB sc scope && capB N scope caps && nodupB caps && nodupB (tgNames tg ++ capNames N caps) && (own == (tgNames tg).length) && g.below own && mG true (tgNames tg ++ capNames N caps) (relS scope sc) g tg &&
    mI src true N sc tg iter && !isRd elt && mE elt (tgNames tg ++ capNames N caps) (relS scope sc) pe &&
    (match ifs with
      | [] => isTrueC cond
      | [c] => mE cond (tgNames tg ++ capNames N caps) (relS scope sc) c
      | _ => false)
  | _, _, _, _ => false
termination_by structural x => x
def mA : E → Bool → List Str → Scope → List Expr → Bool
  | .anil, _, _, _, [] => true
  | .acons a r, rd, N, sc, p :: ps => (rd || !isRd a) && mE a N sc p && mA r rd N sc ps
  | _, _, _, _, _ => false
termination_by structural x => x
def mI : E → Bool → List Str → Scope → Expr → Expr → Bool
  | .seq a, rd, N, sc, _, p => (rd || !isRd a) && mE a N sc p
  | .rng a, _, N, sc, _, .Call (.Name n _) [p] [] _ => (n == "range") && glB sc n && !isRd a && mE a N sc p
  | .rng2 a b, _, N, sc, _, .Call (.Name n _) [p, q] [] _ => (n == "range") && glB sc n && !isRd a && !isRd b && mE a N sc p && mE b N sc q
  | _, _, _, _, _, _ => false
termination_by structural x => x
end
end
end Tr
namespace Tr
open PySem PySem.Spec PyProof.Rows L2
section
variable {Tx : Txt} {N : List Str} {sc : Scope} {p tg : Expr}
theorem nof {P : Prop} (h : false = true) : P := absurd h Bool.false_ne_true
theorem and2 {a b : Bool} (h : (a && b) = true) : a = true ∧ b = true := by rw [Bool.and_eq_true] at h; exact h
theorem not1 {a : Bool} (h : (!a) = true) : a = false := by rw [Bool.not_eq_true'] at h; exact h
theorem beq1 {α : Type} [BEq α] [LawfulBEq α] {a b : α} (h : (a == b) = true) : a = b := eq_of_beq h
theorem i_var {i : Nat} (h : mE Tx (.var i) N sc p = true) : ∃ n pos, p = .Name n pos ∧ nameB N sc i n = true := by
  cases p <;> first | exact nof h | exact ⟨_, _, rfl, h⟩
theorem i_rd {i : Nat} (h : mE Tx (.rd i) N sc p = true) : ∃ n pos, p = .Name n pos ∧ nameB N sc i n = true := by
  cases p <;> first | exact nof h | exact ⟨_, _, rfl, h⟩
theorem i_con {d : D} (h : mE Tx (.con d) N sc p = true) : ∃ c k pos, p = .Constant c k pos ∧ cstIs d c = true := by
  cases p <;> first | exact nof h | exact ⟨_, _, _, rfl, h⟩
theorem i_bin {o : Operator} {a b : E} (h : mE Tx (.bin o a b) N sc p = true) : ∃ l r pos, p = .BinOp l o r pos ∧ mE Tx a N sc l = true ∧ mE Tx b N sc r = true := by
  cases p with
  | BinOp l o' r pos =>
    have h := and2 (show ((o == o') && mE Tx a N sc l && mE Tx b N sc r) = true from h)
    have h1 := and2 h.1
    have e : o = o' := beq1 h1.1
    subst e
    exact ⟨l, r, pos, rfl, h1.2, h.2⟩
  | _ => exact nof h
theorem i_cmp {o : CmpOp} {a b : E} (h : mE Tx (.cmp o a b) N sc p = true) : ∃ l r pos, p = .Compare l [o] [r] pos ∧ mE Tx a N sc l = true ∧ mE Tx b N sc r = true := by
  cases p with
  | Compare l os rs pos =>
    rcases os with _ | ⟨o', _ | ⟨o'', os⟩⟩
    · exact nof h
    · rcases rs with _ | ⟨r, _ | ⟨r', rs⟩⟩
      · exact nof h
      · have h := and2 (show ((o == o') && mE Tx a N sc l && mE Tx b N sc r) = true from h)
        have h1 := and2 h.1
        have e : o = o' := beq1 h1.1
        subst e
        exact ⟨l, r, pos, rfl, h1.2, h.2⟩
      · exact nof h
    · exact nof h
  | _ => exact nof h
theorem i_neg {a : E} (h : mE Tx (.neg a) N sc p = true) : ∃ l pos, p = .UnaryOp .USub l pos ∧ mE Tx a N sc l = true := by
  cases p with
  | UnaryOp op l pos => cases op <;> first | exact nof h | exact ⟨_, _, rfl, h⟩
  | _ => exact nof h
theorem i_ix {a b : E} (h : mE Tx (.ix a b) N sc p = true) : ∃ l r pos, p = .Subscript l r pos ∧ mE Tx a N sc l = true ∧ mE Tx b N sc r = true := by
  cases p with
  | Subscript l r pos =>
    have h := and2 (show (mE Tx a N sc l && mE Tx b N sc r) = true from h)
    exact ⟨l, r, pos, rfl, h.1, h.2⟩
  | _ => exact nof h
theorem i_sl {a lo hi : E} (h : mE Tx (.sl a lo hi) N sc p = true) : ∃ l pl ph pos pos', p = .Subscript l (.Slice pl ph none pos') pos ∧ mE Tx a N sc l = true ∧ ((pl = none ∧ isOmit lo = true) ∨ ∃ q, pl = some q ∧ isRd lo = false ∧ mE Tx lo N sc q = true) ∧ ((ph = none ∧ isOmit hi = true) ∨ ∃ q, ph = some q ∧ isRd hi = false ∧ mE Tx hi N sc q = true) := by
  cases p with
  | Subscript l r pos =>
    cases r with
    | Slice pl ph st pos' =>
      cases st with
      | some _ => exact nof h
      | none =>
        refine ⟨l, pl, ph, pos, pos', rfl, ?_⟩
        cases pl with
        | none =>
          cases ph with
          | none =>
            have h := and2 (show (mE Tx a N sc l && isOmit lo && isOmit hi) = true from h)
            exact ⟨(and2 h.1).1, .inl ⟨rfl, (and2 h.1).2⟩, .inl ⟨rfl, h.2⟩⟩
          | some q =>
            have h := and2 (show (mE Tx a N sc l && isOmit lo && (!isRd hi && mE Tx hi N sc q)) = true from h)
            exact ⟨(and2 h.1).1, .inl ⟨rfl, (and2 h.1).2⟩, .inr ⟨q, rfl, not1 (and2 h.2).1, (and2 h.2).2⟩⟩
        | some q0 =>
          cases ph with
          | none =>
            have h := and2 (show (mE Tx a N sc l && (!isRd lo && mE Tx lo N sc q0) && isOmit hi) = true from h)
            exact ⟨(and2 h.1).1, .inr ⟨q0, rfl, not1 (and2 (and2 h.1).2).1, (and2 (and2 h.1).2).2⟩, .inl ⟨rfl, h.2⟩⟩
          | some q =>
            have h := and2 (show (mE Tx a N sc l && (!isRd lo && mE Tx lo N sc q0) && (!isRd hi && mE Tx hi N sc q)) = true from h)
            exact ⟨(and2 h.1).1, .inr ⟨q0, rfl, not1 (and2 (and2 h.1).2).1, (and2 (and2 h.1).2).2⟩, .inr ⟨q, rfl, not1 (and2 h.2).1, (and2 h.2).2⟩⟩
    | _ => exact nof h
  | _ => exact nof h
theorem i_tup {a : E} (h : mE Tx (.tup a) N sc p = true) : ∃ es k pos, p = .Tuple es k pos ∧ mA Tx a false N sc es = true := by
  cases p <;> first | exact nof h | exact ⟨_, _, _, rfl, h⟩
theorem i_lst {a : E} (h : mE Tx (.lst a) N sc p = true) : ∃ es pos, p = .List es pos ∧ mA Tx a false N sc es = true := by
  cases p <;> first | exact nof h | exact ⟨_, _, rfl, h⟩
theorem i_call {f : Nat} {a : E} (h : mE Tx (.call f a) N sc p = true) : ∃ n pn es pos, p = .Call (.Name n pn) es [] pos ∧ (Tx.dn[f]? == some n && glB sc n && dbgB n && mA Tx a false N sc es) = true := by
  cases p with
  | Call fn es ks pos =>
    cases fn with
    | Name n pn => cases ks with
      | nil => exact ⟨n, pn, es, pos, rfl, h⟩
      | cons _ _ => exact nof h
    | _ => exact nof h
  | _ => exact nof h
theorem i_bt {b : Bt} {a : E} (h : mE Tx (.bt b a) N sc p = true) : ∃ n pn e es pos, p = .Call (.Name n pn) (e :: es) [] pos ∧ (b.use && (n == b.nm) && glB sc n && mA Tx a true N sc (e :: es)) = true := by
  cases p with
  | Call fn es ks pos =>
    cases fn with
    | Name n pn => cases es with
      | nil => exact nof h
      | cons e es => cases ks with
        | nil => exact ⟨n, pn, e, es, pos, rfl, h⟩
        | cons _ _ => exact nof h
    | _ => exact nof h
  | _ => exact nof h
theorem i_maxd {a b : E} (h : mE Tx (.maxd a b) N sc p = true) : ∃ n pn q kn r kp pos, p = .Call (.Name n pn) [q] [⟨some kn, r, kp⟩] pos ∧ ((n == "max") && (kn == "default") && glB sc n && !isRd b && mE Tx a N sc q && mE Tx b N sc r) = true := by
  cases p with
  | Call fn es ks pos =>
    cases fn with
    | Name n pn =>
      rcases es with _ | ⟨q, _ | ⟨q', es⟩⟩
      · exact nof h
      · rcases ks with _ | ⟨⟨kn, r, kp⟩, _ | ⟨k', ks⟩⟩
        · exact nof h
        · cases kn with
          | none => exact nof h
          | some kn => exact ⟨n, pn, q, kn, r, kp, pos, rfl, h⟩
        · cases kn <;> exact nof h
      · exact nof h
    | _ => exact nof h
  | _ => exact nof h
end
end Tr
namespace Tr
open PySem PySem.Spec PyProof.Rows L2
def bltNames : List Str := ["len", "sum", "tuple", "list", "int", "str", "isinstance", "range", "enumerate", "bool", "abs", "min", "max", "all", "any", "set", "zip"]
structure OkX (T : Tab) (cf : Nat → List D → Res D) (Tx : Txt) (X : Cx) : Prop where
  calm : X.calm = true
  roomy : Roomy X
  defs : ∀ f n, Tx.dn[f]? = some n → DefIs T cf X f n
  globs : ∀ g n, Tx.gn[g]? = some n → GlobIs X n (T.glob g)
  blt : ∀ n ∈ bltNames, X.mg n = none
  nd : X.N.Nodup
  tf : ∀ q ∈ Tx.tf, TabF T cf X q.1 q.2
  ts : ∀ q ∈ Tx.ts, TabS X q.1 q.2
section
variable {T : Tab} {cf : Nat → List D → Res D} {Tx : Txt} {X : Cx}
theorem name_of {i : Nat} {n : Str} {N : List Str} {sc : Scope} (h : nameB N sc i n = true) : N[i]? = some n ∧ Vis sc n ∧ (n == ("__debug__" : Str)) = false ∧ (n == ("__classdict__" : Str)) = false := by
  simp only [nameB, visB, dbgB, Bool.and_eq_true, Bool.or_eq_true, Bool.not_eq_true', beq_iff_eq] at h
  refine ⟨h.1.1, ?_, h.2.1, h.2.2⟩
  rcases h.1.2 with (z | z) | z
  · exact .inl z
  · exact .inr (.inl z)
  · exact .inr (.inr z)
theorem gl_of {n : Str} (h : glB X.env.scope n = true) : Gl X n := by
  have h' : X.env.scope.names.lookup n = some .globalImplicit := by simpa [glB] using h
  exact h'
def isBoolX : Expr → Bool
  | .BoolOp _ _ _ => true
  | _ => false
theorem dbg_of {n : Str} (h : dbgB n = true) : (n == ("__debug__" : Str)) = false := by
  simp only [dbgB, Bool.and_eq_true, Bool.not_eq_true'] at h
  exact h.1
theorem sgs_of {loc : Bool} (hN : X.N.Nodup) (hf : ∀ n, loc = false → X.fn n = true) : ∀ {is : List Nat} {es : List Expr}, mGs loc X.N X.env.scope is es = true → SGs X is es ∧ names1 es = true ∧ es.length = is.length
  | [], [], _ => ⟨sgs_nil, rfl, rfl⟩
  | [], _ :: _, h => by exact nof h
  | _ :: _, [], h => by exact nof h
  | i :: is, e :: es, h => by
    cases e with
    | Name n pos =>
      simp only [mGs, Bool.and_eq_true, Bool.or_eq_true, beq_iff_eq, Bool.not_eq_true'] at h
      obtain ⟨⟨h1, h2⟩, h3⟩ := h
      obtain ⟨a1, a2, a3⟩ := sgs_of hN hf h3
      refine ⟨sgs_cons hN h1 ?_ ?_ a1, a2, by rw [List.length_cons, List.length_cons, a3]⟩
      · rcases h2 with z | z
        · exact .inl z
        · exact .inr z.2
      · rcases h2 with z | z
        · exact .inr z
        · exact .inl (hf n z.1)
    | _ => exact nof h
theorem sg_of {loc : Bool} {g : G} {tg : Expr} (hc : X.calm = true) (hN : X.N.Nodup) (hf : ∀ n, loc = false → X.fn n = true) (h : mG loc X.N X.env.scope g tg = true) : SG X g tg ∧ plainX tg = true := by
  cases g with
  | one i =>
    cases tg with
    | Name n pos =>
      simp only [mG, Bool.and_eq_true, Bool.or_eq_true, beq_iff_eq, Bool.not_eq_true'] at h
      refine ⟨sg_one hN h.1 ?_ ?_, rfl⟩
      · rcases h.2 with z | z
        · exact .inl z
        · exact .inr z.2
      · rcases h.2 with z | z
        · exact .inr z
        · exact .inl (hf n z.1)
    | _ => exact nof h
  | many is =>
    cases tg with
    | Tuple es k pos =>
      obtain ⟨a1, a2, a3⟩ := sgs_of hN hf h
      exact ⟨sg_many hc a2 a3 a1, rfl⟩
    | _ => exact nof h
def PEx (T : Tab) (cf : Nat → List D → Res D) (Tx : Txt) (x : E) : Prop := ∀ X p, OkX T cf Tx X → mE Tx x X.N X.env.scope p = true → SR T cf X x p ∧ (isRd x = false → SE T cf X x p) ∧ ST T cf X x p ∧ plainX p = true ∧ (isBoolX p = true → SW T cf X x p)
def PAx (T : Tab) (cf : Nat → List D → Res D) (Tx : Txt) (x : E) : Prop := ∀ X rd ps, OkX T cf Tx X → mA Tx x rd X.N X.env.scope ps = true → SAr T cf X x ps ∧ (rd = false → SAv T cf X x ps) ∧ ps.all plainX = true
def PIx (T : Tab) (cf : Nat → List D → Res D) (Tx : Txt) (x : E) : Prop := ∀ X rd tg p, OkX T cf Tx X → mI Tx x rd X.N X.env.scope tg p = true → SI T cf X tg x rd p ∧ plainX p = true
theorem noA {x : E} (h : ∀ rd N sc ps, mA Tx x rd N sc ps = false) : PAx T cf Tx x := fun X rd ps _ m => by rw [h] at m; cases m
theorem noI {x : E} (h : ∀ rd N sc tg p, mI Tx x rd N sc tg p = false) : PIx T cf Tx x := fun X rd tg p _ m => by rw [h] at m; cases m
theorem noE {x : E} (h : ∀ N sc p, mE Tx x N sc p = false) : PEx T cf Tx x := fun X p _ m => by rw [h] at m; cases m
theorem of_se {x : E} {p : Expr} (h : SE T cf X x p) (he : ∀ whole, isTrue p X.env whole = (do let v ← whole; standAt p.pos; holding [v] (truthy v))) (hp : plainX p = true) (hb : isBoolX p = false := by rfl) : SR T cf X x p ∧ (isRd x = false → SE T cf X x p) ∧ ST T cf X x p ∧ plainX p = true ∧ (isBoolX p = true → SW T cf X x p) :=
  ⟨h.sr, fun _ => h, st_gen h.sr he, hp, fun z => by rw [hb] at z; cases z⟩
theorem okC (ok : OkX T cf Tx X) {scope : Scope} {C : Addr} {Nc : List Str} {s2 : Shared} {H2 : Hp} {fp : List Addr} (h : Nc.Nodup) : OkX T cf Tx (cxC X scope C Nc s2 H2 fp) :=
  ⟨ok.calm, ok.roomy, ok.defs, ok.globs, ok.blt, h, ok.tf, ok.ts⟩
theorem scC_of {scope : Scope} (h : scB X.env.scope scope = true) : ScopeC X scope := by
  simp only [scB, Bool.and_eq_true, List.all_eq_true, Bool.or_eq_true, Bool.not_eq_true', beq_iff_eq, beq_eq_false_iff_ne, ne_eq] at h
  obtain ⟨⟨⟨h1, h2⟩, h3⟩, h4⟩ := h
  refine ⟨h1, h2, fun x hx e => ?_, fun x hx e => ?_, fun x hx e => ?_⟩
  · rcases h3 x hx with z | z
    · exact absurd e z
    · exact z
  · rcases h4 x hx with z | z
    · exact absurd e z
    · exact z.1
  · rcases h4 x hx with z | z
    · exact absurd e z
    · exact z.2
theorem capsOk {scope : Scope} {caps : List Nat} {own : Nat} {tn : List Str} (h : capB X.N scope caps = true) (hn : nodupB caps = true) (ho : own = tn.length) : CapsOk X scope own caps (tn ++ capNames X.N caps) := by
  refine ⟨by rw [List.length_append, ho, capNames, List.length_map], nodup_of hn, fun j i hj => ?_⟩
  simp only [capB, List.all_eq_true] at h
  have := h i (List.mem_of_getElem? hj)
  cases e : X.N[i]? with
  | none => rw [e] at this; cases this
  | some n =>
    rw [e] at this
    refine ⟨n, rfl, ?_, by simpa using this⟩
    rw [ho, List.getElem?_append_right (by omega), show tn.length + j - tn.length = j by omega, capNames, List.getElem?_map, hj]
    simp [e]
theorem i_rng {a : E} {rd : Bool} {N : List Str} {sc : Scope} {tg p : Expr} (h : mI Tx (.rng a) rd N sc tg p = true) : ∃ n pn q pos, p = .Call (.Name n pn) [q] [] pos ∧ ((n == "range") && glB sc n && !isRd a && mE Tx a N sc q) = true := by
  cases p with
  | Call fn es ks pos =>
    cases fn with
    | Name n pn =>
      rcases es with _ | ⟨q, _ | ⟨q', es⟩⟩
      · exact nof h
      · cases ks with
        | nil => exact ⟨n, pn, q, pos, rfl, h⟩
        | cons _ _ => exact nof h
      · exact nof h
    | _ => exact nof h
  | _ => exact nof h
theorem i_rng2 {a b : E} {rd : Bool} {N : List Str} {sc : Scope} {tg p : Expr} (h : mI Tx (.rng2 a b) rd N sc tg p = true) : ∃ n pn q r pos, p = .Call (.Name n pn) [q, r] [] pos ∧ ((n == "range") && glB sc n && !isRd a && !isRd b && mE Tx a N sc q && mE Tx b N sc r) = true := by
  cases p with
  | Call fn es ks pos =>
    cases fn with
    | Name n pn =>
      rcases es with _ | ⟨q, _ | ⟨r, _ | ⟨q', es⟩⟩⟩
      · exact nof h
      · exact nof h
      · cases ks with
        | nil => exact ⟨n, pn, q, r, pos, rfl, h⟩
        | cons _ _ => exact nof h
      · exact nof h
    | _ => exact nof h
  | _ => exact nof h
theorem i_comp {own : Nat} {caps : List Nat} {g : G} {elt src cond : E} {N : List Str} {sc : Scope} {p : Expr} (h : mE Tx (.comp own caps g elt src cond) N sc p = true) : ∃ pe tg iter ifs scope pos, p = .ListComp pe [⟨tg, iter, ifs, 0⟩] scope pos ∧
    scB sc scope = true ∧ capB N scope caps = true ∧ nodupB caps = true ∧ nodupB (tgNames tg ++ capNames N caps) = true ∧ own = (tgNames tg).length ∧ g.below own = true ∧ mG true (tgNames tg ++ capNames N caps) (relS scope sc) g tg = true ∧
    mI Tx src true N sc tg iter = true ∧ isRd elt = false ∧ mE Tx elt (tgNames tg ++ capNames N caps) (relS scope sc) pe = true ∧
    ((ifs = [] ∧ isTrueC cond = true) ∨ ∃ c, ifs = [c] ∧ mE Tx cond (tgNames tg ++ capNames N caps) (relS scope sc) c = true) := by
  cases p with
  | ListComp pe gens scope pos =>
    rcases gens with _ | ⟨⟨tg, iter, ifs, isa⟩, _ | ⟨g2, gens⟩⟩
    · exact nof h
    · change (_ && _) = true at h; simp only [Bool.and_eq_true, Bool.not_eq_true', beq_iff_eq] at h
      obtain ⟨⟨⟨⟨⟨⟨⟨⟨⟨⟨⟨a1, a2⟩, a3⟩, a4⟩, a5⟩, a6⟩, a7⟩, a8⟩, a9⟩, a10⟩, a11⟩, a12⟩ := h
      subst a1
      refine ⟨pe, tg, iter, ifs, scope, pos, rfl, a2, a3, a4, a5, a6, a7, a8, a9, a10, a11, ?_⟩
      rcases ifs with _ | ⟨c, _ | ⟨c', ifs⟩⟩
      · exact .inl ⟨rfl, a12⟩
      · exact .inr ⟨c, rfl, a12⟩
      · cases a12
    · exact nof h
  | _ => exact nof h
theorem comp_parts {own : Nat} {caps : List Nat} {g : G} {elt src cond : E} {pe tg iter : Expr} {ifs : List Expr} {scope : Scope} (ok : OkX T cf Tx X) (ie : PEx T cf Tx elt) (is : PIx T cf Tx src) (ic : PEx T cf Tx cond)
    (a2 : scB X.env.scope scope = true) (a3 : capB X.N scope caps = true) (a4 : nodupB caps = true) (a5 : nodupB (tgNames tg ++ capNames X.N caps) = true) (a6 : own = (tgNames tg).length) (a8 : mG true (tgNames tg ++ capNames X.N caps) (relS scope X.env.scope) g tg = true)
    (a9 : mI Tx src true X.N X.env.scope tg iter = true) (a10 : isRd elt = false) (a11 : mE Tx elt (tgNames tg ++ capNames X.N caps) (relS scope X.env.scope) pe = true)
    (a12 : (ifs = [] ∧ isTrueC cond = true) ∨ ∃ c, ifs = [c] ∧ mE Tx cond (tgNames tg ++ capNames X.N caps) (relS scope X.env.scope) c = true) :
    ScopeC X scope ∧ CapsOk X scope own caps (tgNames tg ++ capNames X.N caps) ∧ plainX iter = true ∧ SI T cf X tg src true iter ∧
    ∀ C s2 H2 fp, (cxC X scope C (tgNames tg ++ capNames X.N caps) s2 H2 fp).Ok → SG (cxC X scope C (tgNames tg ++ capNames X.N caps) s2 H2 fp) g tg ∧ SE T cf (cxC X scope C (tgNames tg ++ capNames X.N caps) s2 H2 fp) elt pe ∧ testsIs ifs cond (ST T cf (cxC X scope C (tgNames tg ++ capNames X.N caps) s2 H2 fp) cond) := by
  obtain ⟨s1, s2⟩ := is X true tg iter ok a9
  refine ⟨scC_of a2, capsOk a3 a4 a6, s2, s1, fun C s2 H2 fp _ => ?_⟩
  have okc : OkX T cf Tx (cxC X scope C (tgNames tg ++ capNames X.N caps) s2 H2 fp) := okC ok (nodup_of a5)
  refine ⟨(sg_of (X := cxC X scope C (tgNames tg ++ capNames X.N caps) s2 H2 fp) ok.calm okc.nd (fun n z => by cases z) a8).1, (ie _ _ okc a11).2.1 a10, ?_⟩
  rcases a12 with ⟨z1, z2⟩ | ⟨c, z1, z2⟩
  · refine .inl ⟨z1, ?_⟩
    unfold isTrueC at z2
    split at z2
    · rfl
    · cases z2
  · exact .inr ⟨c, z1, (ic _ _ okc z2).2.2.1⟩
theorem wholeE : ∀ x : E, PEx T cf Tx x ∧ PAx T cf Tx x ∧ PIx T cf Tx x := by
  intro x
  induction x with
  | var i =>
    refine ⟨fun X p ok h => ?_, noA fun rd N sc ps => rfl, noI fun rd N sc tg p => rfl⟩
    obtain ⟨n, pos, rfl, hn⟩ := i_var h
    obtain ⟨a1, a2, a3, a4⟩ := name_of hn
    exact of_se (se_var a1 a2 a3 a4) (fun _ => rfl) rfl
  | rd i =>
    refine ⟨fun X p ok h => ?_, noA fun rd N sc ps => rfl, noI fun rd N sc tg p => rfl⟩
    obtain ⟨n, pos, rfl, hn⟩ := i_rd h
    obtain ⟨a1, a2, a3, a4⟩ := name_of hn
    exact ⟨sr_rd a1 a2 a3 a4, (fun z => by cases z), st_gen (sr_rd a1 a2 a3 a4) (fun _ => rfl), rfl, fun z => by cases z⟩
  | con d =>
    refine ⟨fun X p ok h => ?_, noA fun rd N sc ps => rfl, noI fun rd N sc tg p => rfl⟩
    obtain ⟨c, k, pos, rfl, hn⟩ := i_con h
    exact of_se (se_con hn) (fun _ => rfl) rfl
  | glob g => exact ⟨noE fun N sc p => rfl, noA fun rd N sc ps => rfl, noI fun rd N sc tg p => rfl⟩
  | bin o a b iha ihb =>
    refine ⟨fun X p ok h => ?_, noA fun rd N sc ps => rfl, noI fun rd N sc tg p => rfl⟩
    obtain ⟨l, r, pos, rfl, h1, h2⟩ := i_bin h
    exact of_se (se_bin (iha.1 X l ok h1).1 (ihb.1 X r ok h2).1) (fun _ => rfl) rfl
  | cmp o a b iha ihb =>
    refine ⟨fun X p ok h => ?_, noA fun rd N sc ps => rfl, noI fun rd N sc tg p => rfl⟩
    obtain ⟨l, r, pos, rfl, h1, h2⟩ := i_cmp h
    have hb := ihb.1 X r ok h2
    have se := se_cmp (o := o) (pos := pos) ok.roomy hb.2.2.2.1 (iha.1 X l ok h1).1 hb.1
    exact ⟨se.sr, fun _ => se, st_cmp ok.roomy hb.2.2.2.1 (iha.1 X l ok h1).1 hb.1, rfl, fun z => by cases z⟩
  | chain o o' a b c iha ihb ihc => exact ⟨noE fun N sc p => rfl, noA fun rd N sc ps => rfl, noI fun rd N sc tg p => rfl⟩
  | dnew => exact ⟨noE fun N sc p => rfl, noA fun rd N sc ps => rfl, noI fun rd N sc tg p => rfl⟩
  | and a b iha ihb => exact ⟨noE fun N sc p => rfl, noA fun rd N sc ps => rfl, noI fun rd N sc tg p => rfl⟩
  | or a b iha ihb => exact ⟨noE fun N sc p => rfl, noA fun rd N sc ps => rfl, noI fun rd N sc tg p => rfl⟩
  | not a iha => exact ⟨noE fun N sc p => rfl, noA fun rd N sc ps => rfl, noI fun rd N sc tg p => rfl⟩
  | neg a iha =>
    refine ⟨fun X p ok h => ?_, noA fun rd N sc ps => rfl, noI fun rd N sc tg p => rfl⟩
    obtain ⟨l, pos, rfl, h1⟩ := i_neg h
    exact of_se (se_neg (iha.1 X l ok h1).1) (fun _ => rfl) rfl
  | ife c a b ihc iha ihb => exact ⟨noE fun N sc p => rfl, noA fun rd N sc ps => rfl, noI fun rd N sc tg p => rfl⟩
  | ix a b iha ihb =>
    refine ⟨fun X p ok h => ?_, noA fun rd N sc ps => rfl, noI fun rd N sc tg p => rfl⟩
    obtain ⟨l, r, pos, rfl, h1, h2⟩ := i_ix h
    have hb := ihb.1 X r ok h2
    exact of_se (se_ix ok.roomy hb.2.2.2.1 (iha.1 X l ok h1).1 hb.1) (fun _ => rfl) rfl
  | sl a lo hi iha ihl ihh =>
    refine ⟨fun X p ok h => ?_, noA fun rd N sc ps => rfl, noI fun rd N sc tg p => rfl⟩
    obtain ⟨l, pl, ph, pos, pos', rfl, h1, h2, h3⟩ := i_sl h
    have part : ∀ {y : E} {q : Option Expr}, PEx T cf Tx y → ((q = none ∧ isOmit y = true) ∨ ∃ r, q = some r ∧ isRd y = false ∧ mE Tx y X.N X.env.scope r = true) → SO T cf X y q := by
      intro y q ih hq
      rcases hq with ⟨rfl, z⟩ | ⟨r, rfl, z1, z2⟩
      · unfold isOmit at z
        split at z
        · exact so_omit
        · cases z
      · exact so_some ((ih X r ok z2).2.1 z1)
    exact of_se (se_sl (iha.1 X l ok h1).1 (part ihl.1 h2) (part ihh.1 h3)) (fun _ => rfl) rfl
  | «omit» => exact ⟨noE fun N sc p => rfl, noA fun rd N sc ps => rfl, noI fun rd N sc tg p => rfl⟩
  | tup a iha =>
    refine ⟨fun X p ok h => ?_, noA fun rd N sc ps => rfl, noI fun rd N sc tg p => rfl⟩
    obtain ⟨es, k, pos, rfl, h1⟩ := i_tup h
    exact of_se (se_tup ((iha.2.1 X false es ok h1).2.1 rfl)) (fun _ => rfl) rfl
  | lst a iha =>
    refine ⟨fun X p ok h => ?_, noA fun rd N sc ps => rfl, noI fun rd N sc tg p => rfl⟩
    obtain ⟨es, pos, rfl, h1⟩ := i_lst h
    exact of_se (se_lst ((iha.2.1 X false es ok h1).2.1 rfl)) (fun _ => rfl) rfl
  | anil =>
    refine ⟨noE fun N sc p => rfl, fun X rd ps ok h => ?_, noI fun rd N sc tg p => rfl⟩
    cases ps with
    | nil => exact ⟨sar_nil, fun _ => sav_nil, rfl⟩
    | cons _ _ => exact nof h
  | acons a r iha ihr =>
    refine ⟨noE fun N sc p => rfl, fun X rd ps ok h => ?_, noI fun rd N sc tg p => rfl⟩
    cases ps with
    | nil => exact nof h
    | cons p ps =>
      change (_ && _) = true at h; simp only [Bool.and_eq_true, Bool.or_eq_true, Bool.not_eq_true'] at h
      obtain ⟨a1, a2, _, a4, _⟩ := iha.1 X p ok h.1.2
      obtain ⟨b1, b2, b3⟩ := ihr.2.1 X rd ps ok h.2
      refine ⟨sar_cons a4 a1 b1, fun z => sav_cons a4 (a2 ?_) (b2 z), by rw [List.all_cons, a4, b3]; rfl⟩
      rcases h.1.1 with q | q
      · rw [z] at q; cases q
      · exact q
  | call f a iha =>
    refine ⟨fun X p ok h => ?_, noA fun rd N sc ps => rfl, noI fun rd N sc tg p => rfl⟩
    obtain ⟨n, pn, es, pos, rfl, hn⟩ := i_call h
    simp only [Bool.and_eq_true, beq_iff_eq] at hn
    obtain ⟨_, b2, b3⟩ := iha.2.1 X false es ok hn.2
    cases es with
    | nil =>
      cases a with
      | anil => exact of_se (se_call0 (ok.defs f n hn.1.1.1) (gl_of hn.1.1.2) (dbg_of hn.1.2)) (fun _ => rfl) rfl
      | _ => exact nof hn.2
    | cons e es => exact of_se (se_call (ok.defs f n hn.1.1.1) (gl_of hn.1.1.2) (dbg_of hn.1.2) b3 (b2 rfl)) (fun _ => rfl) rfl
  | callB f a iha => exact ⟨noE fun N sc p => rfl, noA fun rd N sc ps => rfl, noI fun rd N sc tg p => rfl⟩
  | bt b a iha =>
    refine ⟨fun X p ok h => ?_, noA fun rd N sc ps => rfl, noI fun rd N sc tg p => rfl⟩
    obtain ⟨n, pn, e, es, pos, rfl, hn⟩ := i_bt h
    simp only [Bool.and_eq_true, beq_iff_eq] at hn
    obtain ⟨b1, _, b3⟩ := iha.2.1 X true (e :: es) ok hn.2
    exact of_se (se_bt hn.1.1.1 ok.calm hn.1.1.2 (ok.blt _ (by cases b <;> decide)) (gl_of hn.1.2) b3 b1) (fun _ => rfl) rfl
  | mth m a b iha ihb => exact ⟨noE fun N sc p => rfl, noA fun rd N sc ps => rfl, noI fun rd N sc tg p => rfl⟩
  | callT fs k a ihk iha => exact ⟨noE fun N sc p => rfl, noA fun rd N sc ps => rfl, noI fun rd N sc tg p => rfl⟩
  | gidx ss a iha => exact ⟨noE fun N sc p => rfl, noA fun rd N sc ps => rfl, noI fun rd N sc tg p => rfl⟩
  | lset a iha => exact ⟨noE fun N sc p => rfl, noA fun rd N sc ps => rfl, noI fun rd N sc tg p => rfl⟩
  | lrng a iha => exact ⟨noE fun N sc p => rfl, noA fun rd N sc ps => rfl, noI fun rd N sc tg p => rfl⟩
  | maxd a b iha ihb =>
    refine ⟨fun X p ok h => ?_, noA fun rd N sc ps => rfl, noI fun rd N sc tg p => rfl⟩
    obtain ⟨n, pn, q, kn, r, kp, pos, rfl, hn⟩ := i_maxd h
    simp only [Bool.and_eq_true, Bool.not_eq_true'] at hn
    obtain ⟨⟨⟨⟨⟨h1, h2⟩, h3⟩, h4⟩, h5⟩, h6⟩ := hn
    obtain ⟨a1, _, _, a4, _⟩ := iha.1 X q ok h5
    obtain ⟨_, b2, _⟩ := ihb.1 X r ok h6
    cases eq_of_beq h1
    cases eq_of_beq h2
    exact of_se (se_maxd ok.calm (ok.blt _ (by decide)) (gl_of h3) a4 a1 (b2 h4)) (fun _ => rfl) rfl
  | isi a t iha => exact ⟨noE fun N sc p => rfl, noA fun rd N sc ps => rfl, noI fun rd N sc tg p => rfl⟩
  | comp own caps g elt src cond ihe ihs ihc =>
    refine ⟨fun X p ok h => ?_, noA fun rd N sc ps => rfl, noI fun rd N sc tg p => rfl⟩
    obtain ⟨pe, tg, iter, ifs, scope, pos, rfl, a2, a3, a4, a5, a6, a7, a8, a9, a10, a11, a12⟩ := i_comp h
    obtain ⟨c1, c2, c3, c4, c5⟩ := comp_parts ok ihe.1 ihs.2.2 ihc.1 a2 a3 a4 a5 a6 a8 a9 a10 a11 a12
    exact of_se (se_comp ok.calm c1 c2 a7 c3 c4 c5) (fun _ => rfl) rfl
  | seq a iha =>
    refine ⟨noE fun N sc p => rfl, noA fun rd N sc ps => rfl, fun X rd tg p ok h => ?_⟩
    change (_ && _) = true at h; simp only [Bool.and_eq_true, Bool.or_eq_true, Bool.not_eq_true'] at h
    obtain ⟨a1, a2, _, a4, _⟩ := iha.1 X p ok h.2
    refine ⟨si_seq a1 fun z => a2 ?_, a4⟩
    rcases h.1 with q | q
    · rw [z] at q; cases q
    · exact q
  | rng a iha =>
    refine ⟨noE fun N sc p => rfl, noA fun rd N sc ps => rfl, fun X rd tg p ok h => ?_⟩
    obtain ⟨n, pn, q, pos, rfl, hn⟩ := i_rng h
    simp only [Bool.and_eq_true, beq_iff_eq, Bool.not_eq_true'] at hn
    obtain ⟨_, a2, _, a4, _⟩ := iha.1 X q ok hn.2
    exact ⟨si_rng hn.1.1.1 (gl_of hn.1.1.2) (ok.blt _ (by simp [bltNames])) a4 (a2 hn.1.2), rfl⟩
  | rng2 a b iha ihb =>
    refine ⟨noE fun N sc p => rfl, noA fun rd N sc ps => rfl, fun X rd tg p ok h => ?_⟩
    obtain ⟨n, pn, q, r, pos, rfl, hn⟩ := i_rng2 h
    simp only [Bool.and_eq_true, beq_iff_eq, Bool.not_eq_true'] at hn
    obtain ⟨_, a2, _, a4, _⟩ := iha.1 X q ok hn.1.2
    obtain ⟨_, b2, _, b4, _⟩ := ihb.1 X r ok hn.2
    exact ⟨si_rng2 hn.1.1.1.1.1 (gl_of hn.1.1.1.1.2) (ok.blt _ (by simp [bltNames])) a4 b4 (a2 hn.1.1.1.2) (b2 hn.1.1.2), rfl⟩
  | enum a iha => exact ⟨noE fun N sc p => rfl, noA fun rd N sc ps => rfl, noI fun rd N sc tg p => rfl⟩
  | zip a b iha ihb => exact ⟨noE fun N sc p => rfl, noA fun rd N sc ps => rfl, noI fun rd N sc tg p => rfl⟩
end
end Tr
namespace Tr
open PySem PySem.Spec PyProof.Rows L2
section
variable (Tx : Txt)
mutual
def mB : S → List Str → Scope → List Stmt → Bool
  | .nil, _, _, [] => true
  | .cons (.sealed _) r, N, sc, ps => mB r N sc ps
  | .cons a r, N, sc, p :: ps => mS a N sc p && mB r N sc ps
  | _, _, _, _ => false
termination_by structural x => x
def mS : S → List Str → Scope → Stmt → Bool
  | .ret x, N, sc, .Return (some p) _ => !isRd x && mE Tx x N sc p
  | .retO i, N, sc, .Return (some (.Name n _)) _ => nameB N sc i n
  | .asg g x, N, sc, .Assign [tg] p _ => !isRd x && mG false N sc g tg && mE Tx x N sc p && ((notComp p && notTup p) || (match g, tg with | .one _, .Name _ _ => true | _, _ => false))
  | .asgO i x, N, sc, .Assign [.Name n pn] p _ => !isRd x && mG false N sc (.one i) (.Name n pn) && mE Tx x N sc p
  | .ite c a b, N, sc, .If p ps qs _ => mE Tx c N sc p && mB a N sc ps && mB b N sc qs
  | .forS g src b, N, sc, .For tg p ps [] _ => mI Tx src false N sc tg p && mG false N sc g tg && mB b N sc ps
  | .whl _ c b, N, sc, .While p ps [] _ => mE Tx c N sc p && mB b N sc ps
  | .app i x, N, sc, .Expr (.Call (.Attribute (.Name n _) nm apos) [p] [] cpos) _ => nameB N sc i n && (nm == "append") && (apos.endLine == cpos.line) && !isRd x && mE Tx x N sc p
  | .rev i, N, sc, .Expr (.Call (.Attribute (.Name n _) nm apos) [] [] cpos) _ => nameB N sc i n && (nm == "reverse") && (apos.endLine == cpos.line)
  | .never, _, _, _ => true
  | .aug i o x, N, sc, .AugAssign (.Name n pn) o' p _ => (o == o') && (o == .Add || o == .Sub) && mG false N sc (.one i) (.Name n pn) && !isRd x && mE Tx x N sc p
  | _, _, _, _ => false
termination_by structural x => x
end
end
structure OkS (T : Tab) (cf : Nat → List D → Res D) (Tx : Txt) (X : Cx) : Prop where
  ok : OkX T cf Tx X
  xe : X.xe = fun _ _ => False
  fn : ∀ n, X.fn n = true
section
variable {T : Tab} {cf : Nat → List D → Res D} {Tx : Txt} {X : Cx}
theorem OkS.pass (o : OkS T cf Tx X) : PassesOwn (model X.prog X.w) X.A X.env X.xe := by rw [o.xe]; exact PassesOwn.never
def PSx (T : Tab) (cf : Nat → List D → Res D) (Tx : Txt) (x : S) : Prop := ∀ X p, OkS T cf Tx X → mS Tx x X.N X.env.scope p = true → SS T cf X x p
def PBx (T : Tab) (cf : Nat → List D → Res D) (Tx : Txt) (x : S) : Prop := ∀ X ps, OkS T cf Tx X → mB Tx x X.N X.env.scope ps = true → SB T cf X x ps
theorem noB {x : S} (h : ∀ N sc ps, mB Tx x N sc ps = false) : PBx T cf Tx x := fun X ps _ m => by rw [h] at m; cases m
theorem noS {x : S} (h : ∀ N sc p, mS Tx x N sc p = false) : PSx T cf Tx x := fun X ps _ m => by rw [h] at m; cases m
theorem x_comp {x : E} {N : List Str} {sc : Scope} {p : Expr} (hp : notComp p = false) (h : mE Tx x N sc p = true) : ∃ own caps g elt src cond, x = .comp own caps g elt src cond := by
  cases x with
  | comp own caps g elt src cond => exact ⟨_, _, _, _, _, _, rfl⟩
  | var i => obtain ⟨n, pos, rfl, _⟩ := i_var h; cases hp
  | rd i => obtain ⟨n, pos, rfl, _⟩ := i_rd h; cases hp
  | con d => obtain ⟨c, k, pos, rfl, _⟩ := i_con h; cases hp
  | glob d => exact nof h
  | bin o a b => obtain ⟨c, _, pos, rfl, _⟩ := i_bin h; cases hp
  | cmp o a b => obtain ⟨c, _, pos, rfl, _⟩ := i_cmp h; cases hp
  | and a b => exact nof h
  | or a b => exact nof h
  | not a => exact nof h
  | ife c a b => exact nof h
  | ix a b => obtain ⟨c, _, pos, rfl, _⟩ := i_ix h; cases hp
  | sl a b c => obtain ⟨c, _, _, _, pos, rfl, _⟩ := i_sl h; cases hp
  | tup a => obtain ⟨c, _, pos, rfl, _⟩ := i_tup h; cases hp
  | lst a => obtain ⟨c, pos, rfl, _⟩ := i_lst h; cases hp
  | call f a => obtain ⟨c, _, _, pos, rfl, _⟩ := i_call h; cases hp
  | callB f a => exact nof h
  | bt f a => obtain ⟨c, _, _, _, pos, rfl, _⟩ := i_bt h; cases hp
  | callT fs k a => exact nof h
  | gidx ss a => exact nof h
  | lset a => exact nof h
  | lrng a => exact nof h
  | maxd a b => obtain ⟨_, _, _, _, _, _, pos, rfl, _⟩ := i_maxd h; cases hp
  | mth m a b => exact nof h
  | isi a t => exact nof h
  | chain o o' a b c => exact nof h
  | neg a => obtain ⟨c, pos, rfl, _⟩ := i_neg h; cases hp
  | dnew => exact nof h
  | _ => exact nof h
theorem mG_name {i : Nat} {n : Str} {pos : Pos} (o : OkS T cf Tx X) (h : mG false X.N X.env.scope (.one i) (.Name n pos) = true) : X.N[i]? = some n ∧ Loc X.env.scope n ∧ (X.fn n = true ∨ X.env.scope.names.lookup n = some .local) := by
  simp only [mG, Bool.and_eq_true, Bool.or_eq_true, beq_iff_eq, Bool.not_eq_true', Bool.not_false, true_and] at h
  exact ⟨h.1, h.2, .inl (o.fn n)⟩
theorem asg_comp {i : Nat} {n : Str} {pos pos' : Pos} {x : E} {p : Expr} (b : Bool) (o : OkS T cf Tx X) (hp : notComp p = false) (h1 : mG false X.N X.env.scope (.one i) (.Name n pos) = true) (h2 : mE Tx x X.N X.env.scope p = true) : SS T cf X (if b then .asgO i x else .asg (.one i) x) (.Assign [.Name n pos] p pos') := by
  obtain ⟨own, caps, g, elt, src, cond, rfl⟩ := x_comp hp h2
  obtain ⟨pe, tg, iter, ifs, scope, pos2, rfl, a2, a3, a4, a5, a6, a7, a8, a9, a10, a11, a12⟩ := i_comp h2
  obtain ⟨c1, c2, c3, c4, c5⟩ := comp_parts o.ok (wholeE elt).1 (wholeE src).2.2 (wholeE cond).1 a2 a3 a4 a5 a6 a8 a9 a10 a11 a12
  obtain ⟨n1, n2, n3⟩ := mG_name o h1
  exact ss_asg_comp o.ok.nd n1 n2 n3 o.ok.calm c1 c2 a7 c3 c4 b c5
theorem i_app {i : Nat} {x : E} {N : List Str} {sc : Scope} {p : Stmt} (h : mS Tx (.app i x) N sc p = true) : ∃ n px nm apos q cpos pos, p = .Expr (.Call (.Attribute (.Name n px) nm apos) [q] [] cpos) pos ∧ (nameB N sc i n && (nm == "append") && (apos.endLine == cpos.line) && !isRd x && mE Tx x N sc q) = true := by
  cases p with
  | Expr v pos => cases v with
    | Call f es ks cpos => cases f with
      | Attribute o nm apos => cases o with
        | Name n px =>
          rcases es with _ | ⟨q, _ | ⟨q', es⟩⟩
          · exact nof h
          · cases ks with
            | nil => exact ⟨n, px, nm, apos, q, cpos, pos, rfl, h⟩
            | cons _ _ => exact nof h
          · exact nof h
        | _ => exact nof h
      | _ => exact nof h
    | _ => exact nof h
  | _ => exact nof h
theorem i_rev {i : Nat} {N : List Str} {sc : Scope} {p : Stmt} (h : mS Tx (.rev i) N sc p = true) : ∃ n px nm apos cpos pos, p = .Expr (.Call (.Attribute (.Name n px) nm apos) [] [] cpos) pos ∧ (nameB N sc i n && (nm == "reverse") && (apos.endLine == cpos.line)) = true := by
  cases p with
  | Expr v pos => cases v with
    | Call f es ks cpos => cases f with
      | Attribute o nm apos => cases o with
        | Name n px =>
          cases es with
          | nil =>
            cases ks with
            | nil => exact ⟨n, px, nm, apos, cpos, pos, rfl, h⟩
            | cons _ _ => exact nof h
          | cons _ _ => exact nof h
        | _ => exact nof h
      | _ => exact nof h
    | _ => exact nof h
  | _ => exact nof h
theorem ss_asg1 {i : Nat} {n : Str} {x : E} {p : Expr} {pos pos' : Pos} (hx : notComp p = true) (hN : X.N.Nodup) (hi : X.N[i]? = some n) (hl : Loc X.env.scope n) (hf : X.fn n = true ∨ X.env.scope.names.lookup n = some .local) (h : SE T cf X x p) : SS T cf X (.asg (.one i) x) (.Assign [.Name n pos'] p pos) := fun H₀ O₀ => by
  refine PS.imp (fun D' σ H hq => ?_) (ps_set hN hi hl (h H₀ O₀) (swaps_no hx) hf)
  obtain ⟨ts, e, out, ⟨O, own, F, tt⟩, ev, k⟩ := hq
  (first | rw [xS_nil] at ev | rw [xS_cons] at ev | rw [xS_pass] at ev | rw [xS_ret] at ev | rw [xS_retO] at ev | rw [xS_retN] at ev | rw [xS_asg] at ev | rw [xS_asgO] at ev | rw [xS_sealed] at ev | rw [xS_ite] at ev | rw [xS_forS] at ev | rw [xS_whl] at ev | rw [xS_app] at ev | rw [xS_rev] at ev | rw [xS_dput] at ev | rw [xS_ext] at ev | rw [xS_never] at ev | rw [xS_asgP] at ev | rw [xS_appP] at ev | rw [xS_aug] at ev | rw [xS_lput] at ev | rw [xS_brk] at ev | rw [xS_cnt] at ev)
  obtain ⟨d, e1, ev⟩ := Res.bind_ok ev
  obtain ⟨e2, e3, ev⟩ := Res.bind_ok ev
  cases ev
  cases e3
  exact ⟨O, own, e, d, F, e1, fun v H' s' r n => k _ H' ⟨O, _, (F.grow s').setV i r, fun t ht => (tt t ht).same s'⟩⟩
theorem wholeS : ∀ x : S, PSx T cf Tx x ∧ PBx T cf Tx x := by
  intro x
  induction x with
  | nil =>
    refine ⟨noS fun N sc p => rfl, fun X ps o h => ?_⟩
    cases ps with
    | nil => exact sb_nil
    | cons _ _ => exact nof h
  | cons a r iha ihr =>
    refine ⟨noS fun N sc p => rfl, fun X ps o h => ?_⟩
    by_cases hs : ∃ i, a = .sealed i
    · obtain ⟨i, rfl⟩ := hs
      rw [mB] at h
      exact sb_seal (ihr.2 X ps o h)
    · cases ps with
      | nil =>
        exfalso
        cases a <;> first | (exact hs ⟨_, rfl⟩) | exact nof h
      | cons p ps =>
        have h' : (mS Tx a X.N X.env.scope p && mB Tx r X.N X.env.scope ps) = true := by
          cases a <;> first | (exact absurd ⟨_, rfl⟩ hs) | exact h
        rw [Bool.and_eq_true] at h'
        exact sb_cons (iha.1 X p o h'.1) (ihr.2 X ps o h'.2)
  | pass => exact ⟨noS fun N sc p => rfl, noB fun N sc ps => rfl⟩
  | ret x =>
    refine ⟨fun X p o h => ?_, noB fun N sc ps => rfl⟩
    cases p with
    | Return v pos => cases v with
      | some p =>
        change (_ && _) = true at h; simp only [Bool.and_eq_true, Bool.not_eq_true'] at h
        exact ss_ret (((wholeE x).1 X p o.ok h.2).2.1 h.1)
      | none => exact nof h
    | _ => exact nof h
  | retO i =>
    refine ⟨fun X p o h => ?_, noB fun N sc ps => rfl⟩
    cases p with
    | Return v pos => cases v with
      | some p => cases p with
        | Name n pn =>
          obtain ⟨a1, a2, a3, a4⟩ := name_of h
          exact ss_retO a1 a2 a3 a4
        | _ => exact nof h
      | none => exact nof h
    | _ => exact nof h
  | retN => exact ⟨noS fun N sc p => rfl, noB fun N sc ps => rfl⟩
  | asg g x =>
    refine ⟨fun X p o h => ?_, noB fun N sc ps => rfl⟩
    cases p with
    | Assign tgs p pos =>
      rcases tgs with _ | ⟨tg, _ | ⟨t2, tgs⟩⟩
      · exact nof h
      · change (_ && _) = true at h; simp only [Bool.and_eq_true, Bool.not_eq_true', Bool.or_eq_true] at h
        obtain ⟨⟨⟨h1, h2⟩, h3⟩, h4⟩ := h
        obtain ⟨g1, g2⟩ := sg_of o.ok.calm o.ok.nd (fun n _ => o.fn n) h2
        by_cases hc : notComp p = true
        · by_cases ht : notTup p = true
          · exact ss_asg hc ht g2 (((wholeE x).1 X p o.ok h3).2.1 h1) g1
          · rcases h4 with z | z
            · exact absurd z.2 ht
            · cases g with
              | one i => cases tg with
                | Name n pn =>
                  obtain ⟨n1, n2, n3⟩ := mG_name o h2
                  exact ss_asg1 hc o.ok.nd n1 n2 n3 (((wholeE x).1 X p o.ok h3).2.1 h1)
                | _ => cases z
              | many _ => cases z
        · have hc' : notComp p = false := by simpa using hc
          rcases h4 with z | z
          · exact absurd z.1 hc
          · cases g with
            | one i => cases tg with
              | Name n pn => exact asg_comp false o hc' h2 h3
              | _ => cases z
            | many _ => cases z
      · exact nof h
    | _ => exact nof h
  | asgO i x =>
    refine ⟨fun X p o h => ?_, noB fun N sc ps => rfl⟩
    cases p with
    | Assign tgs p pos =>
      rcases tgs with _ | ⟨tg, _ | ⟨t2, tgs⟩⟩
      · exact nof h
      · cases tg with
        | Name n pn =>
          change (_ && _) = true at h; simp only [Bool.and_eq_true, Bool.not_eq_true'] at h
          obtain ⟨⟨h1, h2⟩, h3⟩ := h
          by_cases hc : notComp p = true
          · obtain ⟨n1, n2, n3⟩ := mG_name o h2
            exact ss_asgO hc o.ok.nd n1 n2 n3 (((wholeE x).1 X p o.ok h3).2.1 h1)
          · exact asg_comp true o (by simpa using hc) h2 h3
        | _ => exact nof h
      · cases tg <;> exact nof h
    | _ => exact nof h
  | «sealed» i => exact ⟨noS fun N sc p => rfl, noB fun N sc ps => rfl⟩
  | ite c a b iha ihb =>
    refine ⟨fun X p o h => ?_, noB fun N sc ps => rfl⟩
    cases p with
    | If p ps qs pos =>
      change (_ && _) = true at h; simp only [Bool.and_eq_true] at h
      exact ss_ite ((wholeE c).1 X p o.ok h.1.1).2.2.1 (iha.2 X ps o h.1.2) (ihb.2 X qs o h.2)
    | _ => exact nof h
  | forS g src b ihb =>
    refine ⟨fun X p o h => ?_, noB fun N sc ps => rfl⟩
    cases p with
    | For tg p ps qs pos => cases qs with
      | nil =>
        change (_ && _) = true at h; simp only [Bool.and_eq_true] at h
        have hg := (sg_of o.ok.calm o.ok.nd (fun n _ => o.fn n) h.1.2).1
        obtain ⟨s1, s2⟩ := (wholeE src).2.2 X false tg p o.ok h.1.1
        exact ss_for o.pass o.ok.calm s2 s1 hg (ihb.2 X ps o h.2)
      | cons _ _ => exact nof h
    | _ => exact nof h
  | whl n c b ihb =>
    refine ⟨fun X p o h => ?_, noB fun N sc ps => rfl⟩
    cases p with
    | While p ps qs pos => cases qs with
      | nil =>
        change (_ && _) = true at h; simp only [Bool.and_eq_true] at h
        exact ss_whl o.pass ((wholeE c).1 X p o.ok h.1).2.2.1 (ihb.2 X ps o h.2)
      | cons _ _ => exact nof h
    | _ => exact nof h
  | app i x =>
    refine ⟨fun X p o h => ?_, noB fun N sc ps => rfl⟩
    obtain ⟨n, px, nm, apos, q, cpos, pos, rfl, hn⟩ := i_app h
    simp only [Bool.and_eq_true, beq_iff_eq, Bool.not_eq_true'] at hn
    obtain ⟨a1, a2, a3, a4⟩ := name_of hn.1.1.1.1
    obtain ⟨_, b2, _, b4, _⟩ := (wholeE x).1 X q o.ok hn.2
    exact ss_app a1 a2 a3 a4 hn.1.1.1.2 (by simpa using hn.1.1.2) b4 (b2 hn.1.2)
  | rev i =>
    refine ⟨fun X p o h => ?_, noB fun N sc ps => rfl⟩
    obtain ⟨n, px, nm, apos, cpos, pos, rfl, hn⟩ := i_rev h
    simp only [Bool.and_eq_true, beq_iff_eq] at hn
    obtain ⟨a1, a2, a3, a4⟩ := name_of hn.1.1
    exact ss_rev a1 a2 a3 a4 hn.1.2 (by simpa using hn.2)
  | ext i x => exact ⟨noS fun N sc p => rfl, noB fun N sc ps => rfl⟩
  | dput i y x => exact ⟨noS fun N sc p => rfl, noB fun N sc ps => rfl⟩
  | never =>
    exact ⟨fun X p o h => ss_never, noB fun N sc ps => rfl⟩
  | asgP g i k => exact ⟨noS fun N sc p => rfl, noB fun N sc ps => rfl⟩
  | appP j i k => exact ⟨noS fun N sc p => rfl, noB fun N sc ps => rfl⟩
  | aug i op x =>
    refine ⟨fun X p o h => ?_, noB fun N sc ps => rfl⟩
    cases p with
    | AugAssign tg op' v pos => cases tg with
      | Name n pn =>
        change (_ && _) = true at h; simp only [Bool.and_eq_true, Bool.or_eq_true, beq_iff_eq, Bool.not_eq_true'] at h
        obtain ⟨⟨⟨⟨h1, h2⟩, h3⟩, h4⟩, h5⟩ := h
        subst h1
        obtain ⟨n1, n2, n3⟩ := mG_name o h3
        exact ss_aug o.ok.nd n1 n2 n3 (((wholeE x).1 X v o.ok h5).2.1 h4) h2
      | _ => exact nof h
    | _ => exact nof h
  | lput i y x => exact ⟨noS fun N sc p => rfl, noB fun N sc ps => rfl⟩
  | brk => exact ⟨noS fun N sc p => rfl, noB fun N sc ps => rfl⟩
  | cnt => exact ⟨noS fun N sc p => rfl, noB fun N sc ps => rfl⟩
end
end Tr
namespace Tr
open PySem PySem.Spec PyProof.Rows L2
structure DefT where
  nm : Str
  st : Stmt
  N : List Str
  ps : List Str
  body : S
def DefT.df (t : DefT) : Df := ⟨t.N.length, t.ps.length, t.body⟩
def fnScB (N P : List Str) (sc : Scope) : Bool := (sc.kind == .function) && !sc.isCoroutine && !sc.isGenerator && nodupB N && (N.take P.length == P) && P.all (fun x => (sc.names.lookup x == some .local) || (sc.names.lookup x == some .cell)) && sc.names.all (fun y => !(y.2 == .free))
theorem fnSc_of {N P : List Str} {sc : Scope} (h : fnScB N P sc = true) : FnScope N P sc := by
  simp only [fnScB, Bool.and_eq_true, List.all_eq_true, Bool.or_eq_true, Bool.not_eq_true', beq_iff_eq, beq_eq_false_iff_ne, ne_eq] at h
  obtain ⟨⟨⟨⟨⟨⟨h1, h2⟩, h3⟩, h4⟩, h5⟩, h6⟩, h7⟩ := h
  exact ⟨h1, h2, h3, nodup_of h4, h5, h6, h7⟩
def DefT.okB (Tx : Txt) (t : DefT) : Bool := fnScB t.N t.ps (defScope t.st) && mB Tx t.body t.N (defScope t.st) (defBody t.st)
def GlobK (K : PySem.W.Frag) (mg : Str → Option Value) (n : Str) (d : D) : Prop := ∃ v u, mg n = some u ∧ RelV v u ∧ ∀ H O, RD K H O d v
structure TextOk (K : PySem.W.Frag) (mg : Str → Option Value) (T : Tab) (Tx : Txt) (defs : List DefT) : Prop where
  dn : Tx.dn = defs.map (·.nm)
  ok : defs.all (·.okB Tx) = true
  funs : ∀ t ∈ defs, ∃ f fd, Fun K t.nm t.nm t.st f fd ∧ mg t.nm = some (.ref f) ∧ Binds K fd t.ps []
  globs : ∀ g n, Tx.gn[g]? = some n → GlobK K mg n (T.glob g)
  blt : ∀ n ∈ bltNames, mg n = none
  tf : ∀ q ∈ Tx.tf, ∃ (a : Addr) (xs : List V), mg q.1 = some (.ref a) ∧ (∀ H, SqT K H a xs) ∧ xs.length = q.2.length ∧ ∀ (j f : Nat), q.2[j]? = some f → ∃ (ad : Addr) (t : DefT), xs[j]? = some (V.ref ad) ∧ mg t.nm = some (.ref ad) ∧ defs[f]? = some t
  ts : ∀ q ∈ Tx.ts, ∃ a : Addr, mg q.1 = some (.ref a) ∧ ModS K a q.2
section
variable {P : Program} {w : World} {K : PySem.W.Frag} {mg : Str → Option Value} {base : Heap} {T : Tab} {Tx : Txt} {defs : List DefT}
theorem fm_start {H : Hp} {O : Addr → Prop} {N : List Str} {ds : List D} {vs : List V} (w : RDs K H O ds vs) (tr : ∀ a, O a → ∃ o, H a = some o) (n : Nat) (hn : n = N.length - vs.length) :
    Fm K H O H O (fun _ => none) (ds.map Sl.v ++ List.replicate n Sl.no) (start N vs) where
  len := by
    unfold L2.start
    rw [List.length_append, List.length_append, List.length_map, List.length_map, List.length_replicate, List.length_replicate, w.length, hn, w.length]
  sl := fun i => by
    by_cases hi : i < ds.length
    · obtain ⟨v, h1, h2⟩ := w.get (List.getElem?_eq_getElem hi)
      have e1 : Nv.at (ds.map Sl.v ++ List.replicate n Sl.no) i = .v ds[i] := by
        unfold Nv.at
        rw [List.getElem?_append_left (by rw [List.length_map]; exact hi), List.getElem?_map, List.getElem?_eq_getElem hi]; rfl
      have e2 : stAt (start N vs) i = some v := by
        unfold stAt L2.start
        rw [List.getElem?_append_left (by rw [List.length_map, w.length]; exact hi), List.getElem?_map, h1]; rfl
      rw [e1, e2]
      exact ⟨v, rfl, h2⟩
    · have e1 : Nv.at (ds.map Sl.v ++ List.replicate n Sl.no) i = .no := by
        unfold Nv.at
        rw [List.getElem?_append_right (by rw [List.length_map]; omega), List.getElem?_replicate]
        split <;> rfl
      rw [e1]; trivial
  inj := fun _ _ _ h => by cases h
  same := Same.refl H
  sub := fun _ h => h
  trk0 := tr
  trk := tr
  new := fun _ _ h => by cases h
theorem defs_ok (X : TextOk K mg T Tx defs) : ∀ n i t, defs[i]? = some t → ∀ f fd, Fun K t.nm t.nm t.st f fd → FnOk P w K mg base CX0 n f fd t.ps (spD K (callF T (defs.map DefT.df) n i) (T.fresh i))
  | 0, i, t, hi, f, fd, F => by
    have no : ∀ vs H Q E, ¬ spD K (callF T (defs.map DefT.df) 0 i) (T.fresh i) vs H Q E := fun vs H Q E h => by
      obtain ⟨O, ds, d, _, _, ev, _⟩ := h
      rw [callF] at ev; cases ev
    exact ⟨fun vs H Q E h => absurd h (no vs H Q E), fun A outer s H args us vs Q E _ _ _ _ h => absurd h (no vs H Q E)⟩
  | n + 1, i, t, hi, f, fd, F => by
    have ih := defs_ok X n
    have hok := List.all_eq_true.mp X.ok t (List.mem_of_getElem? hi)
    unfold DefT.okB at hok
    rw [Bool.and_eq_true] at hok
    have S := fnSc_of hok.1
    have hdf : (defs.map DefT.df)[i]? = some t.df := by rw [List.getElem?_map, hi]; rfl
    have un : ∀ ds d, callF T (defs.map DefT.df) (n + 1) i ds = .ok d → ds.length = t.ps.length ∧ ∃ out, exS T (callF T (defs.map DefT.df) n) t.body (ds.map Sl.v ++ List.replicate (t.N.length - t.ps.length) Sl.no) = .ok out ∧
        ((∃ k, out = .rt d k ∧ (k = true ∨ T.fresh i = false)) ∨ (∃ e, out = .nx e ∧ d = .non ∧ T.fresh i = false)) := by
      intro ds d ev
      rw [callF, hdf] at ev
      obtain ⟨c, ev⟩ := when_ok ev
      obtain ⟨out, e1, ev⟩ := Res.bind_ok ev
      refine ⟨(by simpa using c : ds.length = t.df.pars), out, e1, ?_⟩
      cases out with
      | nx e =>
        obtain ⟨c2, ev⟩ := when_ok ev
        cases ev
        exact .inr ⟨e, rfl, rfl, by simpa using c2⟩
      | rt x k =>
        obtain ⟨c2, ev⟩ := when_ok ev
        cases ev
        exact .inl ⟨k, rfl, by simpa using c2⟩
      | bk e => cases ev
      | ct e => cases ev
    refine F.ok S (fun vs H Q E h => ?_) (fun cdv A outer s H vs Q E hr h => ?_)
    · obtain ⟨O, ds, d, _, rr, ev, _⟩ := h
      rw [rr.length]; exact (un ds d ev).1
    · obtain ⟨O, ds, d, tr, rr, ev, k⟩ := h
      obtain ⟨hl, out, e1, e2⟩ := un ds d ev
      have dfi : ∀ g t', defs[g]? = some t' → DefIs T (callF T (defs.map DefT.df) n) (cxOf CX0 P w K mg base t.N t.nm (defScope t.st) f cdv A outer s H E).nox g t'.nm := fun g t' e => by
        obtain ⟨f', fd', F', m', b'⟩ := X.funs t' (List.mem_of_getElem? e)
        exact ⟨n, f', fd', t'.ps, ih g t' e f' fd' F', hr, m', F'.kp, b'⟩
      have okx : OkX T (callF T (defs.map DefT.df) n) Tx (cxOf CX0 P w K mg base t.N t.nm (defScope t.st) f cdv A outer s H E).nox :=
        ⟨rfl, hr.units, fun g nm hg => by
          rw [X.dn, List.getElem?_map] at hg
          cases e : defs[g]? with
          | none => rw [e] at hg; cases hg
          | some t' =>
            rw [e] at hg
            cases hg
            exact dfi g t' e, fun g nm hg => X.globs g nm hg, X.blt, S.nd, fun q hq => by
          obtain ⟨a, xs, h1, h2, h3, h4⟩ := X.tf q hq
          refine ⟨a, xs, h1, h2, h3, fun j g hg => ?_⟩
          obtain ⟨ad, t', h5, h6, h7⟩ := h4 j g hg
          exact ⟨ad, t'.nm, h5, h6, dfi g t' h7⟩, X.ts⟩
      have oks : OkS T (callF T (defs.map DefT.df) n) Tx (cxOf CX0 P w K mg base t.N t.nm (defScope t.st) f cdv A outer s H E).nox := ⟨okx, rfl, fun _ => rfl⟩
      refine ⟨_, (wholeS t.body).2 _ _ oks hok.2 H O, ?_⟩
      refine ⟨[], _, out, ⟨O, _, fm_start (N := t.N) rr tr (t.N.length - t.ps.length) (by rw [rr.length, hl]), fun t ht => by cases ht⟩, e1, ?_⟩
      rcases e2 with ⟨fr, rfl, hf⟩ | ⟨e, rfl, rfl, hf⟩
      · intro v H' s' r nl
        refine k v H' s' r fun z => nl ?_
        rcases hf with q | q
        · exact q
        · rw [z] at q; cases q
      · rintro σ' H' ⟨O', own', F', _⟩
        exact k .non H' F'.same rfl fun z => by rw [z] at hf; cases hf
theorem law_sp {i n : Nat} (hT : ∀ ns : List Int, ns.length ≤ 63 → callF T (defs.map DefT.df) n i [.lst (ns.map D.int)] = .ok (.bl true)) (K : PySem.W.Frag) (H : Hp) (a : Addr) (ns : List Int) (hl : ns.length ≤ 63) (hS : SqL K H a (ns.map V.int)) :
    spD K (callF T (defs.map DefT.df) n i) (T.fresh i) [.ref a] H (fun v _ => v = .bl true) (fun _ _ _ => False) := by
  refine ⟨no, [.lst (ns.map D.int)], .bl true, fun a h => h.elim, ⟨.ref a, [], rfl, ⟨a, ns.map V.int, rfl, ?_, ?_⟩, rfl⟩, hT ns hl, fun v H' _ r _ => r⟩
  · rcases hS with z | z
    · exact .inl ⟨fun q => q, z⟩
    · exact .inr z
  · clear hl hS
    induction ns with
    | nil => exact rfl
    | cons i r ih => exact ⟨.int i, r.map V.int, rfl, rfl, ih⟩
end
end Tr
namespace Tr
open PySem PySem.Spec PyProof.Rows L2
theorem fun_in {K : PySem.W.Frag} {h : Heap} {mg : Str → Option Value} (X : K.In h) (G : h.Ns mainGlobals mg) {x : Str} {st : Stmt} {ps : List Str} {f : Addr} {oc : Value} {od an : Option Addr} {osl : Array (Option Value)} {kV doc pm cdv ct : Value}
    (a : PySem.W.nsIn K mainGlobals x = some (some (.ref f))) (l : K.lookup f = some ⟨oc, od, .func (PySem.W.fnOf x x (defArgs st) (defBody st) (defScope st) .none kV doc pm an cdv ct), osl⟩)
    (c : PySem.W.codeIn K cdv x = true) (k : PySem.W.keepIn K (.ref f) = true)
    (hb : ∀ (kV doc pm : Value) (an : Option Addr) (cdv ct : Value) (us : List Value), us.length = ps.length → bindArgs (PySem.W.fnOf x x (defArgs st) (defBody st) (defScope st) .none kV doc pm an cdv ct) ⟨us, []⟩ = pure (ps.zip us)) :
    ∃ f fd, Fun K x x st f fd ∧ mg x = some (.ref f) ∧ Binds K fd ps [] :=
  ⟨f, _, fun_mk l c k, PySem.W.mg_of X G a, (fun_mk (st := st) l c k).binds hb⟩
theorem glob_int {K : PySem.W.Frag} {h : Heap} {mg : Str → Option Value} (X : K.In h) (G : h.Ns mainGlobals mg) {x : Str} {i : Int} {t : Tok} (a : PySem.W.nsIn K mainGlobals x = some (some (.int i t))) : GlobK K mg x (.int i) :=
  ⟨.int i, .int i t, PySem.W.mg_of X G a, ⟨t, rfl⟩, fun _ _ => rfl⟩
theorem glob_str {K : PySem.W.Frag} {h : Heap} {mg : Str → Option Value} (X : K.In h) (G : h.Ns mainGlobals mg) {x : Str} {i : Str} {t : Tok} (a : PySem.W.nsIn K mainGlobals x = some (some (.str i t))) : GlobK K mg x (.str i) :=
  ⟨.str i, .str i t, PySem.W.mg_of X G a, ⟨t, rfl⟩, fun _ _ => rfl⟩
def strVals : List Value → List Str → Bool
  | [], [] => true
  | .str x _ :: r, y :: q => (x == y) && strVals r q
  | _, _ => false
theorem strVals_ok : ∀ {us : List Value} {ss : List Str}, strVals us ss = true → Vals (ss.map V.str) us
  | [], [], _ => .nil
  | [], _ :: _, h => nof h
  | .str x t :: r, y :: q, h => by
    have h := and2 (show ((x == y) && strVals r q) = true from h)
    cases eq_of_beq h.1
    exact .cons ⟨t, rfl⟩ (strVals_ok h.2)
  | u :: _, [], h => by cases u <;> exact nof h
  | .none :: _, _ :: _, h => nof h
  | .bool _ :: _, _ :: _, h => nof h
  | .int _ _ :: _, _ :: _, h => nof h
  | .float _ _ :: _, _ :: _, h => nof h
  | .bytes _ _ :: _, _ :: _, h => nof h
  | .ref _ :: _, _ :: _, h => nof h
  | .type _ :: _, _ :: _, h => nof h
  | .builtin _ :: _, _ :: _, h => nof h
  | .ellipsis :: _, _ :: _, h => nof h
  | .notImplemented :: _, _ :: _, h => nof h
theorem rds_strs {K : PySem.W.Frag} {H : Hp} {O : Addr → Prop} : ∀ ss : List Str, RDs K H O (ss.map D.str) (ss.map V.str)
  | [] => rfl
  | s :: r => ⟨.str s, r.map V.str, rfl, rfl, rds_strs r⟩
theorem glob_tupS {K : PySem.W.Frag} {h : Heap} {mg : Str → Option Value} (X : K.In h) (G : h.Ns mainGlobals mg) {x : Str} {ss : List Str} {ds : List D} {ad : Addr} {dd : Option Addr} {its : Array Value} {n : Nat} {sl : Array (Option Value)}
    (a : PySem.W.nsIn K mainGlobals x = some (some (.ref ad))) (l : K.lookup ad = some ⟨.type "tuple", dd, .seq its n, sl⟩) (hz : its.size ≤ sizeLine) (hv : strVals its.toList ss = true) (hd : ds = ss.map D.str) : GlobK K mg x (.tup ds) := by
  subst hd
  exact ⟨.ref ad, .ref ad, PySem.W.mg_of X G a, rfl, fun H O => ⟨ad, ss.map V.str, rfl, .inr ⟨_, its, n, l, rfl, rfl, hz, strVals_ok hv⟩, rds_strs ss⟩⟩
theorem modS_in {K : PySem.W.Frag} {h : Heap} {mg : Str → Option Value} (X : K.In h) (G : h.Ns mainGlobals mg) {x : Str} {ss : List Str} {ad : Addr} {its : Array Value} {n : Nat} {sl : Array (Option Value)}
    (a : PySem.W.nsIn K mainGlobals x = some (some (.ref ad))) (l : K.lookup ad = some ⟨.type "tuple", none, .seq its n, sl⟩) (hv : strVals its.toList ss = true) : ∃ a : Addr, mg (x, ss).1 = some (.ref a) ∧ ModS K a (x, ss).2 :=
  ⟨ad, PySem.W.mg_of X G a, _, its, n, l, rfl, rfl, rfl, strVals_ok hv⟩
def Ents (K : PySem.W.Frag) (defs : List DefT) : List Value → List Nat → Prop
  | [], [] => True
  | u :: us, f :: fs => (∃ ad t m, u = .ref ad ∧ defs[f]? = some t ∧ t.nm = m ∧ PySem.W.nsIn K mainGlobals m = some (some (.ref ad))) ∧ Ents K defs us fs
  | _, _ => False
theorem ents_ok {K : PySem.W.Frag} {h : Heap} {mg : Str → Option Value} (X : K.In h) (G : h.Ns mainGlobals mg) {defs : List DefT} : ∀ {us : List Value} {fs : List Nat}, Ents K defs us fs →
    ∃ xs : List V, Vals xs us ∧ xs.length = fs.length ∧ ∀ (j f : Nat), fs[j]? = some f → ∃ (ad : Addr) (t : DefT), xs[j]? = some (V.ref ad) ∧ mg t.nm = some (.ref ad) ∧ defs[f]? = some t
  | [], [], _ => ⟨[], .nil, rfl, fun j f h => by simp at h⟩
  | [], _ :: _, h => h.elim
  | _ :: _, [], h => h.elim
  | u :: us, f :: fs, ⟨⟨ad, t, m, h1, h2, h3, h4⟩, r⟩ => by
    obtain ⟨xs, q1, q2, q3⟩ := ents_ok X G r
    subst h1 h3
    refine ⟨.ref ad :: xs, .cons rfl q1, by rw [List.length_cons, List.length_cons, q2], fun j g hj => ?_⟩
    cases j with
    | zero => simp at hj; subst hj; exact ⟨ad, t, rfl, PySem.W.mg_of X G h4, h2⟩
    | succ j => exact q3 j g (by simpa using hj)
theorem tab_in {K : PySem.W.Frag} {h : Heap} {mg : Str → Option Value} (X : K.In h) (G : h.Ns mainGlobals mg) {x : Str} {fs : List Nat} {defs : List DefT} {ad : Addr} {dd : Option Addr} {its : Array Value} {n : Nat} {sl : Array (Option Value)}
    (a : PySem.W.nsIn K mainGlobals x = some (some (.ref ad))) (l : K.lookup ad = some ⟨.type "tuple", dd, .seq its n, sl⟩) (hz : its.size ≤ sizeLine) (hr : Ents K defs its.toList fs) :
    ∃ (a : Addr) (xs : List V), mg (x, fs).1 = some (.ref a) ∧ (∀ H, SqT K H a xs) ∧ xs.length = (x, fs).2.length ∧ ∀ (j f : Nat), (x, fs).2[j]? = some f → ∃ (ad : Addr) (t : DefT), xs[j]? = some (V.ref ad) ∧ mg t.nm = some (.ref ad) ∧ defs[f]? = some t := by
  obtain ⟨xs, q1, q2, q3⟩ := ents_ok X G hr
  exact ⟨ad, xs, PySem.W.mg_of X G a, fun H => .inr ⟨_, its, n, l, rfl, rfl, hz, q1⟩, q2, q3⟩
theorem blt_none {K : PySem.W.Frag} {h : Heap} {mg : Str → Option Value} (X : K.In h) (G : h.Ns mainGlobals mg) {x : Str} (a : PySem.W.nsIn K mainGlobals x = some none) : mg x = none := PySem.W.mg_none_of X G a
theorem walkT {l : PySem.W.OpenLaw} {q : Program} {loose : List Str} {XP : (Str → Option Value) → Heap → Prop} {YP : World → Heap → Prop} {d : DefRec} {K : Params → PySem.W.Frag} {T : Tab} {Tx : Txt} {defs : List DefT} {i n : Nat} {tl : DefT} {x : Str}
    (hi : defs[i]? = some tl) (hps : tl.ps = [x]) (hnm : tl.nm = d.name)
    (hn : l.most = some 63) (hdf : d.params.defaults = []) (hr : Room n callerA)
    (hT : ∀ ns : List Int, ns.length ≤ 63 → callF T (defs.map DefT.df) n i [.lst (ns.map D.int)] = .ok (.bl true))
    (hY : ∀ (w : World) (h : Heap), YP w h → (K w.params).In h)
    (hX : ∀ (w : World) (mg : Str → Option Value) (h : Heap), (K w.params).In h → h.Ns mainGlobals mg → TextOk (K w.params) mg T Tx defs)
    (hb : ∀ (kV doc pm : Value) (an : Option Addr) (cdv ct : Value) (u : Value), bindArgs (PySem.W.fnOf tl.nm tl.nm (defArgs tl.st) (defBody tl.st) (defScope tl.st) .none kV doc pm an cdv ct) ⟨[u], []⟩ = pure [(x, u)]) :
    PySem.W.WalkO q loose XP YP l.row.toRowW d [] (fun f vs => PySem.call f vs) := by
  refine L2.walk_ofK (n := 63) (k := n) (x := x) (CX := CX0) (sp := fun K => spD K (callF T (defs.map DefT.df) n i) (T.fresh i)) hn (by decide) hdf hr hY ?_ (fun K H a ns hl _ hS => law_sp hT K H a ns hl hS) (fun _ _ _ _ z => z)
  intro w mg fa h KX G hmg
  have tx := hX w mg h KX G
  obtain ⟨f, fd, F, m, _⟩ := tx.funs tl (List.mem_of_getElem? hi)
  rw [hnm, hmg] at m
  cases m
  refine ⟨fd, fun s u => ?_, fun base kb nb => ?_⟩
  · obtain ⟨oc, od, kV, doc, pm, an, cdv, ct, osl, rfl, lk, hcd⟩ := F.ex
    exact .of_eq (hb kV doc pm an cdv ct u)
  · have := defs_ok (P := l.prog) (w := w) (base := base) tx n i tl hi fa fd F
    rw [hps] at this
    exact this
end Tr
namespace Tr
theorem all_cons {α : Type} {p : α → Prop} {a : α} {l : List α} (h : p a) (r : ∀ x ∈ l, p x) : ∀ x ∈ a :: l, p x := List.forall_mem_cons.mpr ⟨h, r⟩
theorem all_nil {α : Type} {p : α → Prop} : ∀ x ∈ ([] : List α), p x := fun _ h => by cases h
theorem gl_cons {α : Type} {p : Nat → α → Prop} {a : α} {l : List α} (h : p 0 a) (r : ∀ g n, l[g]? = some n → p (g + 1) n) : ∀ g n, (a :: l)[g]? = some n → p g n
  | 0, n, e => by simp at e; subst e; exact h
  | g + 1, n, e => r g n (by simpa using e)
theorem gl_nil {α : Type} {p : Nat → α → Prop} : ∀ g n, ([] : List α)[g]? = some n → p g n := fun g n e => by simp at e
end Tr
namespace Tr
open PySem
section
variable {T : Tab} {cf : Nat → List D → Res D} {e : Nv}
@[simp] theorem evE_var {i : Nat} : evE T cf (.var i) e = (e.at i).val := id rfl
@[simp] theorem evE_rd {i : Nat} : evE T cf (.rd i) e = (e.at i).any := id rfl
@[simp] theorem evE_con {d : D} : evE T cf (.con d) e = .ok d := id rfl
@[simp] theorem evE_glob {g : Nat} : evE T cf (.glob g) e = .ok (T.glob g) := id rfl
@[simp] theorem evE_bin {o : Operator} {a b : E} : evE T cf (.bin o a b) e = (do let x ← evE T cf a e; let y ← evE T cf b e; D.bin o x y) := id rfl
@[simp] theorem evE_cmp {o : CmpOp} {a b : E} : evE T cf (.cmp o a b) e = (do let x ← evE T cf a e; let y ← evE T cf b e; D.cmp o x y) := id rfl
@[simp] theorem evE_and {a b : E} : evE T cf (.and a b) e = (do let x ← evE T cf a e; let k ← x.truth; if k then evE T cf b e else .ok x) := id rfl
@[simp] theorem evE_or {a b : E} : evE T cf (.or a b) e = (do let x ← evE T cf a e; let k ← x.truth; if k then .ok x else evE T cf b e) := id rfl
@[simp] theorem evE_not {a : E} : evE T cf (.not a) e = (do let x ← evE T cf a e; let k ← x.truth; .ok (.bl (!k))) := id rfl
@[simp] theorem evE_ife {c a b : E} : evE T cf (.ife c a b) e = (do let x ← evE T cf c e; let k ← x.truth; if k then evE T cf a e else evE T cf b e) := id rfl
@[simp] theorem evE_ix {a b : E} : evE T cf (.ix a b) e = (do let x ← evE T cf a e; let y ← evE T cf b e; D.ix x y) := id rfl
@[simp] theorem evE_sl {a lo hi : E} : evE T cf (.sl a lo hi) e = (do let x ← evE T cf a e; let l ← evE T cf lo e; let l ← l.part; let h ← evE T cf hi e; let h ← h.part; D.sl x l h) := id rfl
@[simp] theorem evE_omit : evE T cf .omit e = .ok .non := id rfl
@[simp] theorem evE_tup {a : E} : evE T cf (.tup a) e = (do let xs ← evA T cf a e; .ok (.tup xs)) := id rfl
@[simp] theorem evE_lst {a : E} : evE T cf (.lst a) e = (do let xs ← evA T cf a e; .ok (.lst xs)) := id rfl
@[simp] theorem evE_call {f : Nat} {a : E} : evE T cf (.call f a) e = (do let xs ← evA T cf a e; cf f xs) := id rfl
@[simp] theorem evE_callB {f : Nat} {a : E} : evE T cf (.callB f a) e = (do let xs ← evA T cf a e; let d ← cf f xs; when d.flat (.ok d)) := id rfl
@[simp] theorem evE_bt {b : Bt} {a : E} : evE T cf (.bt b a) e = (do let xs ← evA T cf a e; b.run xs) := id rfl
@[simp] theorem evE_isi {a : E} {t : Ty} : evE T cf (.isi a t) e = (do let x ← evE T cf a e; when (!x.isDct) (.ok (.bl (x.isTy t)))) := id rfl
@[simp] theorem evE_mth {m : Mt} {a b : E} : evE T cf (.mth m a b) e = (do let x ← evE T cf a e; let y ← evE T cf b e; m.run x y) := id rfl
@[simp] theorem evE_callT {fs : List Nat} {k a : E} : evE T cf (.callT fs k a) e = (do let x ← evE T cf k e; let f ← tabAt fs x; let xs ← evA T cf a e; cf f xs) := id rfl
@[simp] theorem evE_gidx {ss : List Str} {a : E} : evE T cf (.gidx ss a) e = (do let x ← evE T cf a e; idxS ss x) := id rfl
@[simp] theorem evE_lset {a : E} : evE T cf (.lset a) e = (do let x ← evE T cf a e; let ks ← x.keys; when (decide (ks.length + 1 < 4096)) (.ok (.int (metD ks).length))) := id rfl
@[simp] theorem evE_maxd {a b : E} : evE T cf (.maxd a b) e = (do let x ← evE T cf a e; let y ← evE T cf b e; D.maxD x y) := id rfl
@[simp] theorem evE_lrng {a : E} : evE T cf (.lrng a) e = (do let x ← evE T cf a e; lrngR x) := id rfl
@[simp] theorem evI_zip {a b : E} : evI T cf (.zip a b) e = (do let x ← evE T cf a e; let y ← evE T cf b e; zipR x y) := id rfl
@[simp] theorem zipR_ok {a b : List D} : zipR (.lst a) (.lst b) = .ok (zipD a b) := id rfl
@[simp] theorem evE_dnew : evE T cf .dnew e = .ok (.dct []) := id rfl
def negR : D → Res D
  | .int i => .ok (.int (-i))
  | _ => .no
@[simp] theorem neg_int {i : Int} : negR (.int i) = .ok (.int (-i)) := id rfl
@[simp] theorem evE_neg {a : E} : evE T cf (.neg a) e = (evE T cf a e >>= negR) := by
  rw [xE_neg]
  cases evE T cf a e with
  | ok x => cases x <;> rfl
  | err _ _ => rfl
  | no => rfl
def thenC (r : Res D) : D → Res D
  | .bl true => r
  | .bl false => .ok (.bl false)
  | _ => .no
@[simp] theorem thenC_bl {r : Res D} {b : Bool} : thenC r (.bl b) = if b = true then r else .ok (.bl false) := by cases b <;> rfl
@[simp] theorem evE_chain {o p : CmpOp} {a b c : E} : evE T cf (.chain o p a b c) e = (do
    let x ← evE T cf a e
    let y ← evE T cf b e
    let w ← D.cmp o x y
    thenC (do let z ← evE T cf c e; D.cmp p y z) w) := by
  rw [xE_chain]
  cases evE T cf a e with
  | ok x =>
    cases evE T cf b e with
    | ok y =>
      show (D.cmp o x y >>= _) = (D.cmp o x y >>= _)
      cases D.cmp o x y with
      | ok w =>
        cases w with
        | bl b => cases b <;> rfl
        | _ => rfl
      | err _ _ => rfl
      | no => rfl
    | err _ _ => rfl
    | no => rfl
  | err _ _ => rfl
  | no => rfl
def compF (T : Tab) (cf : Nat → List D → Res D) (own : Nat) (caps : List Nat) (g : G) (elt cond : E) (e : Nv) (d : D) : Res (Option D) := do
  let e1 ← g.put d (compEnv own caps e)
  let c ← evE T cf cond e1
  let k ← c.truth
  if k then do let y ← evE T cf elt e1; .ok (some y) else .ok none
@[simp] theorem evE_comp {own : Nat} {caps : List Nat} {g : G} {elt src cond : E} : evE T cf (.comp own caps g elt src cond) e = (do
    let ds ← evI T cf src e
    let ys ← compL (compF T cf own caps g elt cond e) ds
    when (decide (ds.length ≤ big)) (.ok (.lst ys))) := id rfl
@[simp] theorem evA_nil : evA T cf .anil e = .ok [] := id rfl
@[simp] theorem evA_cons {a r : E} : evA T cf (.acons a r) e = (do let x ← evE T cf a e; let q ← evA T cf r e; when (decide (q.length < 1000)) (.ok (x :: q))) := id rfl
@[simp] theorem evI_seq {a : E} : evI T cf (.seq a) e = (do let x ← evE T cf a e; x.items) := id rfl
def rngR : D → Res (List D)
  | .int n => when (small62 n) (.ok (rangeD 0 n.toNat))
  | _ => .no
def rng2R : D → D → Res (List D)
  | .int n, .int m => when (small62 n && small62 m) (.ok (rangeD n (m - n).toNat))
  | _, _ => .no
def enumR : D → Res (List D)
  | .lst ds => .ok (enumD 0 ds)
  | .tup ds => .ok (enumD 0 ds)
  | _ => .no
@[simp] theorem evI_rng {a : E} : evI T cf (.rng a) e = (do let x ← evE T cf a e; rngR x) := by
  rw [xI_rng]
  cases evE T cf a e with
  | ok x => cases x <;> rfl
  | err _ _ => rfl
  | no => rfl
@[simp] theorem evI_rng2 {a b : E} : evI T cf (.rng2 a b) e = (do let x ← evE T cf a e; match x with | .int _ => do let y ← evE T cf b e; rng2R x y | _ => .no) := by
  rw [xI_rng2]
  cases evE T cf a e with
  | ok x =>
    cases x <;> try rfl
    show (do let y ← evE T cf b e; _) = (do let y ← evE T cf b e; _)
    cases evE T cf b e with
    | ok y => cases y <;> rfl
    | err _ _ => rfl
    | no => rfl
  | err _ _ => rfl
  | no => rfl
@[simp] theorem evI_enum {a : E} : evI T cf (.enum a) e = (do let x ← evE T cf a e; enumR x) := by
  rw [xI_enum]
  cases evE T cf a e with
  | ok x => cases x <;> rfl
  | err _ _ => rfl
  | no => rfl
theorem rng_ok {n : Nat} (h : n < 4611686018427387904) : rngR (.int n) = .ok (rangeD 0 n) := by
  show when (small62 n) _ = _
  rw [when_of (by unfold small62; rw [decide_eq_true (by omega), decide_eq_true (by omega)]; rfl)]
  simp
theorem rng2_ok {n m : Nat} (h : n < 4611686018427387904) (h2 : m < 4611686018427387904) : rng2R (.int n) (.int m) = .ok (rangeD n (m - n)) := by
  show when (small62 n && small62 m) _ = _
  rw [when_of (by unfold small62; rw [decide_eq_true (by omega), decide_eq_true (by omega), decide_eq_true (by omega), decide_eq_true (by omega)]; rfl)]
  congr 2
  omega
@[simp] theorem enum_ok {ds : List D} : enumR (.lst ds) = .ok (enumD 0 ds) := id rfl
def bodyF (T : Tab) (cf : Nat → List D → Res D) (g : G) (b : S) (d : D) (e0 : Nv) : Res Out := do let e1 ← g.put d e0; exS T cf b e1
def testF (T : Tab) (cf : Nat → List D → Res D) (c : E) (e0 : Nv) : Res Bool := do let x ← evE T cf c e0; x.truth
def thenS (T : Tab) (cf : Nat → List D → Res D) (r : S) : Out → Res Out
  | .nx e1 => exS T cf r e1
  | o => .ok o
@[simp] theorem thenS_nx {r : S} : thenS T cf r (.nx e) = exS T cf r e := id rfl
@[simp] theorem thenS_rt {r : S} {d : D} {k : Bool} : thenS T cf r (.rt d k) = .ok (.rt d k) := id rfl
@[simp] theorem thenS_bk {r : S} : thenS T cf r (.bk e) = .ok (.bk e) := id rfl
@[simp] theorem thenS_ct {r : S} : thenS T cf r (.ct e) = .ok (.ct e) := id rfl
@[simp] theorem exS_nil : exS T cf .nil e = .ok (.nx e) := id rfl
@[simp] theorem exS_cons {a r : S} : exS T cf (.cons a r) e = (exS T cf a e >>= thenS T cf r) := by
  rw [xS_cons]
  cases exS T cf a e with
  | ok o => cases o <;> rfl
  | err _ _ => rfl
  | no => rfl
@[simp] theorem exS_pass : exS T cf .pass e = .ok (.nx e) := id rfl
@[simp] theorem exS_ret {x : E} : exS T cf (.ret x) e = (do let d ← evE T cf x e; .ok (.rt d (freshE T x))) := id rfl
@[simp] theorem exS_retO {i : Nat} : exS T cf (.retO i) e = (do let a ← (e.at i).ownA; .ok (.rt a true)) := id rfl
@[simp] theorem exS_retN : exS T cf .retN e = .ok (.rt .non false) := id rfl
@[simp] theorem exS_asg {g : G} {x : E} : exS T cf (.asg g x) e = (do let d ← evE T cf x e; let e1 ← g.put d e; .ok (.nx e1)) := id rfl
def setO (k : Bool) (i : Nat) (e : Nv) : D → Res Out
  | .lst a => when k (.ok (.nx (e.set i (.o (.lst a)))))
  | .dct a => when k (.ok (.nx (e.set i (.o (.dct a)))))
  | _ => .no
@[simp] theorem setO_ok {i : Nat} {a : List D} : setO true i e (.lst a) = .ok (.nx (e.set i (.o (.lst a)))) := id rfl
@[simp] theorem setO_okD {i : Nat} {a : List (Sum Int Str × D)} : setO true i e (.dct a) = .ok (.nx (e.set i (.o (.dct a)))) := id rfl
@[simp] theorem exS_asgO {i : Nat} {x : E} : exS T cf (.asgO i x) e = (do let d ← evE T cf x e; setO (freshE T x) i e d) := by
  rw [xS_asgO]
  cases evE T cf x e with
  | ok o => cases o <;> rfl
  | err _ _ => rfl
  | no => rfl
@[simp] theorem exS_sealed {i : Nat} : exS T cf (.sealed i) e = (do let a ← (e.at i).ownA; .ok (.nx (e.set i (.v a)))) := id rfl
@[simp] theorem exS_ite {c : E} {a b : S} : exS T cf (.ite c a b) e = (do let x ← evE T cf c e; let k ← x.truth; if k then exS T cf a e else exS T cf b e) := id rfl
@[simp] theorem exS_for {g : G} {src : E} {b : S} : exS T cf (.forS g src b) e = (do let ds ← evI T cf src e; forL (bodyF T cf g b) ds e) := id rfl
@[simp] theorem exS_whl {n : Nat} {c : E} {b : S} : exS T cf (.whl n c b) e = whileL (testF T cf c) (exS T cf b) n e := id rfl
@[simp] theorem exS_app {i : Nat} {x : E} : exS T cf (.app i x) e = (do
    let d ← evE T cf x e
    let a ← (e.at i).own
    when (decide (a.length < big)) (.ok (.nx (e.set i (.o (.lst (a ++ [d]))))))) := id rfl
@[simp] theorem exS_rev {i : Nat} : exS T cf (.rev i) e = (do let a ← (e.at i).own; .ok (.nx (e.set i (.o (.lst a.reverse))))) := id rfl
@[simp] theorem exS_dput {i : Nat} {k x : E} : exS T cf (.dput i k x) e = (do
    let d ← evE T cf x e
    let a ← (e.at i).ownD
    let y ← evE T cf k e
    let key ← Res.of (keyOf y)
    when (decide (a.length < big)) (.ok (.nx (e.set i (.o (.dct (putKD a key d))))))) := id rfl
def extO (k : Bool) (i : Nat) (e : Nv) : D → Res Out
  | .lst b => do
    let a ← (e.at i).own
    when (k && decide (a.length + b.length ≤ big)) (.ok (.nx (e.set i (.o (.lst (a ++ b))))))
  | _ => .no
@[simp] theorem extO_eq {k : Bool} {i : Nat} {b : List D} : extO k i e (.lst b) = (do
    let a ← (e.at i).own
    when (k && decide (a.length + b.length ≤ big)) (.ok (.nx (e.set i (.o (.lst (a ++ b))))))) := id rfl
@[simp] theorem exS_ext {i : Nat} {x : E} : exS T cf (.ext i x) e = (do let d ← evE T cf x e; extO (freshE T x) i e d) := by
  rw [xS_ext]
  cases evE T cf x e with
  | ok o => cases o <;> rfl
  | err _ _ => rfl
  | no => rfl
@[simp] theorem fresh_dnew : freshE T .dnew = true := id rfl
@[simp] theorem exS_never : exS T cf .never e = .no := id rfl
@[simp] theorem exS_asgP {g : G} {i : Nat} {k : E} : exS T cf (.asgP g i k) e = (do
    let a ← (e.at i).own
    let d ← evE T cf k e
    let j ← popAt a.length k d
    let y ← Res.of a[j]?
    let e1 ← g.put y (e.set i (.o (.lst (a.eraseIdx j))))
    .ok (.nx e1)) := id rfl
@[simp] theorem exS_appP {i' i : Nat} {k : E} : exS T cf (.appP i' i k) e = (do
    let b ← (e.at i').own
    let a ← (e.at i).own
    let d ← evE T cf k e
    let j ← popAt a.length k d
    let y ← Res.of a[j]?
    when (decide (i ≠ i') && decide (b.length < big)) (.ok (.nx ((e.set i (.o (.lst (a.eraseIdx j)))).set i' (.o (.lst (b ++ [y]))))))) := id rfl
@[simp] theorem exS_aug {i : Nat} {o : Operator} {x : E} : exS T cf (.aug i o x) e = (do
    let d ← (e.at i).val
    let y ← evE T cf x e
    let z ← D.aug o d y
    .ok (.nx (e.set i (.v z)))) := id rfl
@[simp] theorem exS_lput {i : Nat} {k x : E} : exS T cf (.lput i k x) e = (do
    let d ← evE T cf x e
    let a ← (e.at i).own
    let y ← evE T cf k e
    let j ← popIx a.length y
    .ok (.nx (e.set i (.o (.lst (a.set j d)))))) := id rfl
@[simp] theorem aug_add {i j : Int} : D.aug .Add (.int i) (.int j) = .ok (.int (i + j)) := id rfl
@[simp] theorem aug_sub {i j : Int} : D.aug .Sub (.int i) (.int j) = .ok (.int (i - j)) := id rfl
@[simp] theorem fresh_lrng {a : E} : freshE T (.lrng a) = true := id rfl
@[simp] theorem exS_brk : exS T cf .brk e = .ok (.bk e) := id rfl
@[simp] theorem exS_cnt : exS T cf .cnt e = .ok (.ct e) := id rfl
@[simp] theorem fresh_lst {a : E} : freshE T (.lst a) = true := id rfl
@[simp] theorem fresh_sl {a b c : E} : freshE T (.sl a b c) = true := id rfl
@[simp] theorem fresh_add {a b : E} : freshE T (.bin .Add a b) = true := id rfl
@[simp] theorem fresh_comp {n : Nat} {c : List Nat} {g : G} {x y z : E} : freshE T (.comp n c g x y z) = true := id rfl
@[simp] theorem fresh_list {a : E} : freshE T (.bt .list a) = true := id rfl
@[simp] theorem fresh_call {f : Nat} {a : E} : freshE T (.call f a) = T.fresh f := id rfl
end
@[simp] theorem when_if {α : Type} {c : Bool} (h : c = true) (r : Res α) : when c r = r := when_of h r
@[simp] theorem at_zero {x : Sl} {r : List Sl} : Nv.at (x :: r) 0 = x := id rfl
@[simp] theorem at_succ {x : Sl} {r : List Sl} {i : Nat} : Nv.at (x :: r) (i + 1) = Nv.at r i := id rfl
@[simp] theorem val_v {d : D} : (Sl.v d).val = .ok d := id rfl
@[simp] theorem any_v {d : D} : (Sl.v d).any = .ok d := id rfl
@[simp] theorem any_o {d : D} : (Sl.o d).any = .ok d := id rfl
@[simp] theorem own_o {a : List D} : (Sl.o (.lst a)).own = .ok a := id rfl
@[simp] theorem ownA_o {d : D} : (Sl.o d).ownA = .ok d := id rfl
@[simp] theorem ownD_o {a : List (Sum Int Str × D)} : (Sl.o (.dct a)).ownD = .ok a := id rfl
@[simp] theorem key_int {i : Int} : Res.of (keyOf (.int i)) = .ok (.inl i) := id rfl
@[simp] theorem key_str {i : Str} : Res.of (keyOf (.str i)) = .ok (.inr i) := id rfl
@[simp] theorem isDct_int {i : Int} : (D.int i).isDct = false := id rfl
@[simp] theorem isDct_bl {i : Bool} : (D.bl i).isDct = false := id rfl
@[simp] theorem isDct_non : D.non.isDct = false := id rfl
@[simp] theorem isDct_str {i : Str} : (D.str i).isDct = false := id rfl
@[simp] theorem isDct_tup {i : List D} : (D.tup i).isDct = false := id rfl
@[simp] theorem isDct_lst {i : List D} : (D.lst i).isDct = false := id rfl
@[simp] theorem put_one {i : Nat} {d : D} {e : Nv} : G.put (.one i) d e = .ok (e.set i (.v d)) := id rfl
@[simp] theorem put_many {is : List Nat} {ds : List D} {e : Nv} : G.put (.many is) (.tup ds) e = puts is ds e := id rfl
@[simp] theorem puts_nil {e : Nv} : puts [] [] e = .ok e := id rfl
@[simp] theorem puts_cons {i : Nat} {is : List Nat} {d : D} {ds : List D} {e : Nv} : puts (i :: is) (d :: ds) e = puts is ds (e.set i (.v d)) := id rfl
@[simp] theorem truth_bl {b : Bool} : (D.bl b).truth = .ok b := id rfl
@[simp] theorem truth_int {i : Int} : (D.int i).truth = .ok (i != 0) := id rfl
@[simp] theorem truth_non : D.non.truth = .ok false := id rfl
@[simp] theorem truth_tup {a : List D} : (D.tup a).truth = .ok (!a.isEmpty) := id rfl
@[simp] theorem truth_lst {a : List D} : (D.lst a).truth = .ok (!a.isEmpty) := id rfl
@[simp] theorem bin_add {i j : Int} : D.bin .Add (.int i) (.int j) = .ok (.int (i + j)) := id rfl
@[simp] theorem bin_sub {i j : Int} : D.bin .Sub (.int i) (.int j) = .ok (.int (i - j)) := id rfl
@[simp] theorem bin_mulL {i j : Int} (h : -(2 ^ 64) < i ∧ i < 2 ^ 64) : D.bin .Mult (.int i) (.int j) = .ok (.int (i * j)) := by
  show when (small64 i || small64 j) _ = _
  rw [when_of]
  unfold small64
  rw [decide_eq_true h.1, decide_eq_true h.2]; rfl
@[simp] theorem bin_mulR {i j : Int} (h : -(2 ^ 64) < j ∧ j < 2 ^ 64) : D.bin .Mult (.int i) (.int j) = .ok (.int (i * j)) := by
  show when (small64 i || small64 j) _ = _
  rw [when_of]
  unfold small64
  rw [decide_eq_true h.1, decide_eq_true h.2]; simp
@[simp] theorem bin_mod {i j : Int} (h : 0 < j) : D.bin .Mod (.int i) (.int j) = .ok (.int (i % j)) := by
  show when (decide (0 < j)) _ = _
  rw [when_of (decide_eq_true h)]
@[simp] theorem bin_fdiv {i j : Int} (h : 0 < j ∧ j < 1073741824) : D.bin .FloorDiv (.int i) (.int j) = .ok (.int (i / j)) := by
  show when (decide (0 < j) && decide (j < 1073741824)) _ = _
  rw [when_of]
  rw [decide_eq_true h.1, decide_eq_true h.2]; rfl
theorem bin_pow {i j : Int} (h : 0 ≤ j ∧ j ≤ 1000000 ∧ i.natAbs < 2 ^ 64) : D.bin .Pow (.int i) (.int j) = .ok (.int (i ^ j.toNat)) := by
  show when (decide (0 ≤ j) && decide (j ≤ 1000000) && decide (i.natAbs < 2 ^ 64)) _ = _
  rw [when_of]
  rw [decide_eq_true h.1, decide_eq_true h.2.1, decide_eq_true h.2.2]; rfl
@[simp] theorem bin_pow9 : D.bin .Pow (.int 10) (.int 9) = .ok (.int 1000000000) := bin_pow ⟨by decide, by decide, by decide⟩
@[simp] theorem cmp_lt {i j : Int} : D.cmp .Lt (.int i) (.int j) = .ok (.bl (decide (i < j))) := id rfl
@[simp] theorem cmp_le {i j : Int} : D.cmp .LtE (.int i) (.int j) = .ok (.bl (decide (i ≤ j))) := id rfl
@[simp] theorem cmp_gt {i j : Int} : D.cmp .Gt (.int i) (.int j) = .ok (.bl (decide (j < i))) := id rfl
@[simp] theorem cmp_ge {i j : Int} : D.cmp .GtE (.int i) (.int j) = .ok (.bl (decide (j ≤ i))) := id rfl
@[simp] theorem cmp_eqi {i j : Int} : D.cmp .Eq (.int i) (.int j) = .ok (.bl (i == j)) := id rfl
@[simp] theorem cmp_nei {i j : Int} : D.cmp .NotEq (.int i) (.int j) = .ok (.bl (!(i == j))) := id rfl
@[simp] theorem cmp_is {a : D} : D.cmp .Is a .non = .ok (.bl a.isNon) := id rfl
@[simp] theorem cmp_isnot {a : D} : D.cmp .IsNot a .non = .ok (.bl (!a.isNon)) := id rfl
@[simp] theorem isNon_non : D.non.isNon = true := id rfl
@[simp] theorem isNon_int {i : Int} : (D.int i).isNon = false := id rfl
@[simp] theorem isNon_tup {i : List D} : (D.tup i).isNon = false := id rfl
@[simp] theorem run_len_l {a : List D} : Bt.run .len [.lst a] = .ok (.int a.length) := id rfl
@[simp] theorem run_len_t {a : List D} : Bt.run .len [.tup a] = .ok (.int a.length) := id rfl
@[simp] theorem run_tup_l {a : List D} : Bt.run .tuple [.lst a] = .ok (.tup a) := id rfl
@[simp] theorem run_lst_l {a : List D} : Bt.run .list [.lst a] = .ok (.lst a) := id rfl
@[simp] theorem run_lst_t {a : List D} : Bt.run .list [.tup a] = .ok (.lst a) := id rfl
@[simp] theorem run_int_b {b : Bool} : Bt.run .int [.bl b] = .ok (.int (b2z b)) := id rfl
theorem intsOf_map : ∀ ns : List Int, intsOf (ns.map D.int) = .ok ns
  | [] => rfl
  | i :: r => by rw [List.map_cons, intsOf, intsOf_map r]; rfl
@[simp] theorem run_sum {ns : List Int} : Bt.run .sum [.lst (ns.map D.int)] = .ok (.int ns.sum) := by
  show (do let q ← intsOf (ns.map D.int); .ok (D.int q.sum)) = _
  rw [intsOf_map]; rfl
@[simp] theorem run_sum_map {α : Type} {f : α → Int} {xs : List α} : Bt.run .sum [.lst (xs.map (D.int ∘ f))] = .ok (.int (xs.map f).sum) := by rw [← List.map_map, run_sum]
@[simp] theorem part_int {i : Int} : (D.int i).part = .ok (some i) := id rfl
@[simp] theorem part_non : D.non.part = .ok none := id rfl
@[simp] theorem sl_l {a : List D} {lo hi : Option Int} : D.sl (.lst a) lo hi = .ok (.lst (cut a lo hi)) := id rfl
@[simp] theorem sl_t {a : List D} {lo hi : Option Int} : D.sl (.tup a) lo hi = .ok (.tup (cut a lo hi)) := id rfl
@[simp] theorem items_l {a : List D} : (D.lst a).items = .ok a := id rfl
@[simp] theorem items_t {a : List D} : (D.tup a).items = .ok a := id rfl
theorem ix_l {a : List D} {i : Nat} {d : D} (h : a[i]? = some d) : D.ix (.lst a) (.int i) = .ok d := by
  have hi := (List.getElem?_eq_some_iff.mp h).1
  show Res.of (atI a i) = _
  unfold atI ixN
  rw [if_pos (Int.natCast_nonneg i), if_pos (by omega)]
  simp [h, Res.of]
theorem ix_t {a : List D} {i : Nat} {d : D} (h : a[i]? = some d) : D.ix (.tup a) (.int i) = .ok d := by
  have hi := (List.getElem?_eq_some_iff.mp h).1
  show Res.of (atI a i) = _
  unfold atI ixN
  rw [if_pos (Int.natCast_nonneg i), if_pos (by omega)]
  simp [h, Res.of]
theorem callF_eq {T : Tab} {D : List Df} {n f : Nat} {ds : List Tr.D} {d : Df} (h : D[f]? = some d) (hl : ds.length = d.pars) : callF T D (n + 1) f ds = (do
    match ← exS T (callF T D n) d.body (ds.map Sl.v ++ List.replicate (d.names - d.pars) Sl.no) with
        | .rt x k => when (k || !T.fresh f) (.ok x)
        | .nx _ => when (!T.fresh f) (.ok .non)
        | _ => .no) := by
  rw [callF, h]
  exact when_of (by simpa using hl) _
theorem callF_rt {T : Tab} {D : List Df} {n f : Nat} {ds : List Tr.D} {d : Df} {x : Tr.D} {k : Bool} (h : D[f]? = some d) (hl : ds.length = d.pars) (hk : (k || !T.fresh f) = true)
    (he : exS T (callF T D n) d.body (ds.map Sl.v ++ List.replicate (d.names - d.pars) Sl.no) = .ok (.rt x k)) : callF T D (n + 1) f ds = .ok x := by
  rw [callF_eq h hl, he]
  show when (k || !T.fresh f) _ = _
  rw [when_of hk]
@[simp] theorem ix_t0 {a : D} {r : List D} : D.ix (.tup (a :: r)) (.int 0) = .ok a := ix_t (i := 0) rfl
@[simp] theorem ix_t1 {a b : D} {r : List D} : D.ix (.tup (a :: b :: r)) (.int 1) = .ok b := ix_t (i := 1) rfl
@[simp] theorem ix_t2 {a b c : D} {r : List D} : D.ix (.tup (a :: b :: c :: r)) (.int 2) = .ok c := ix_t (i := 2) rfl
@[simp] theorem ix_t3 {a b c d : D} {r : List D} : D.ix (.tup (a :: b :: c :: d :: r)) (.int 3) = .ok d := ix_t (i := 3) rfl
@[simp] theorem ix_t4 {a b c d e : D} {r : List D} : D.ix (.tup (a :: b :: c :: d :: e :: r)) (.int 4) = .ok e := ix_t (i := 4) rfl
@[simp] theorem ix_l0 {a : D} {r : List D} : D.ix (.lst (a :: r)) (.int 0) = .ok a := ix_l (i := 0) rfl
@[simp] theorem ix_l1 {a b : D} {r : List D} : D.ix (.lst (a :: b :: r)) (.int 1) = .ok b := ix_l (i := 1) rfl
theorem forL_nx {f : D → Nv → Res Out} {d : D} {r : List D} {e e1 : Nv} (h : f d e = .ok (.nx e1)) : forL f (d :: r) e = forL f r e1 := by rw [forL, h]; rfl
theorem forL_ct {f : D → Nv → Res Out} {d : D} {r : List D} {e e1 : Nv} (h : f d e = .ok (.ct e1)) : forL f (d :: r) e = forL f r e1 := by rw [forL, h]; rfl
theorem forL_rt {f : D → Nv → Res Out} {d : D} {r : List D} {e : Nv} {x : D} {k : Bool} (h : f d e = .ok (.rt x k)) : forL f (d :: r) e = .ok (.rt x k) := by rw [forL, h]; rfl
theorem rangeD_eq : ∀ (lo : Int) (n : Nat), rangeD lo n = (List.range n).map fun i => .int (lo + (i : Int))
  | lo, 0 => rfl
  | lo, n + 1 => by
    rw [rangeD, rangeD_eq (lo + 1) n, List.range_succ_eq_map, List.map_cons, List.map_map]
    congr 1
    · simp
    · apply List.map_congr_left
      intro i _
      simp only [Function.comp]
      congr 1
      push_cast
      omega
@[simp] theorem rangeD_length {lo : Int} {n : Nat} : (rangeD lo n).length = n := by rw [rangeD_eq]; simp
@[simp] theorem enumD_length : ∀ {k : Int} {ds : List D}, (enumD k ds).length = ds.length
  | k, [] => rfl
  | k, x :: r => by rw [enumD, List.length_cons, List.length_cons, enumD_length]
theorem whileL_inv {c : Nv → Res Bool} {f : Nv → Res Out} (I : Nat → Nv → Prop) (st : ∀ k e, I (k + 1) e → c e = .ok true ∧ ∃ e', f e = .ok (.nx e') ∧ I k e') (en : ∀ e, I 0 e → c e = .ok false) :
    ∀ (k n : Nat) (e : Nv), I k e → k < n → ∃ e', whileL c f n e = .ok (.nx e') ∧ I 0 e'
  | 0, n + 1, e, h, _ => ⟨e, by rw [whileL, en e h]; rfl, h⟩
  | k + 1, n + 1, e, h, hn => by
    obtain ⟨h1, e', h2, h3⟩ := st k e h
    obtain ⟨e2, h4, h5⟩ := whileL_inv I st en k n e' h3 (by omega)
    refine ⟨e2, ?_, h5⟩
    rw [whileL, h1, Res.ok_bind, if_pos rfl, h2]
    exact h4
end Tr
set_option maxRecDepth 100000
namespace Tr
open PySem
def cellV (ns : List Int) (k : Nat) : Int := ns.getD k 0
def mixV (c k : Int) : Int := (c * 48271 + k * k * 69621 + 5) % 2147483647
structure Part where
  name : Str
  voice : Str
  off : Int
  on : Int
def Part.enc (p : Part) : D := .tup [.str p.name, .str p.voice, .int p.off, .int p.on]
structure Scene where
  name : Str
  len : Int
  pause : Int
  who : List Nat
def natD (ws : List Nat) : List D := ws.map fun (i : Nat) => D.int (i : Int)
def Scene.enc (s : Scene) : D := .tup [.str s.name, .int s.len, .int s.pause, .tup (natD s.who)]
theorem ix_str {x : Str} {i : Nat} (h : i < x.cps.size) (hb : x.length ≤ big) : ∃ y : Str, D.ix (.str x) (.int i) = .ok (.str y) ∧ y.length = 1 := by
  refine ⟨⟨#[x.cps[i]]⟩, ?_, rfl⟩
  show when (decide (x.length ≤ big)) (Res.of ((atI x.cps.toList i).map fun c => D.str ⟨#[c]⟩)) = _
  rw [when_of (decide_eq_true hb)]
  unfold atI ixN
  rw [if_pos (Int.natCast_nonneg i), if_pos (by simp; omega)]
  simp [h, Res.of]
@[simp] theorem add_str {x y : Str} (h : x.length + y.length ≤ big) : D.bin .Add (.str x) (.str y) = .ok (.str (x ++ y)) := by
  show when (decide (x.length + y.length ≤ big)) _ = _
  rw [when_of (decide_eq_true h)]
theorem ten_big : (1000 : Nat) < big := by decide
structure GoodScene (many : Nat) (s : Scene) : Prop where
  len : 0 ≤ s.len
  pause : 0 ≤ s.pause
  nd : s.who.Nodup
  lt : ∀ i ∈ s.who, i < many
theorem natD_mem (i : Nat) : ∀ ws : List Nat, D.mem (.int i) (natD ws) = decide (i ∈ ws)
  | [] => rfl
  | w :: r => by
    show (D.eqb (.int w) (.int i) || D.mem (.int i) (natD r)) = _
    rw [natD_mem i r]
    have : D.eqb (.int w) (.int i) = decide (i = w) := by
      show ((w : Int) == (i : Int)) = _
      by_cases h : i = w
      · subst h; simp
      · rw [decide_eq_false h]; simp; omega
    rw [this]
    by_cases h1 : i = w <;> by_cases h2 : i ∈ r <;> simp [h1, h2]
theorem natD_pls (k : Nat) : ∀ ws : List Nat, D.pls (k + 1) (natD ws) = true
  | [] => rfl
  | w :: r => by
    show (D.pl k (.int w) && D.pls (k + 1) (natD r)) = true
    rw [natD_pls k r]; cases k <;> rfl
@[simp] theorem inn_natD {i : Nat} {ws : List Nat} : D.cmp .In (.int i) (.tup (natD ws)) = .ok (.bl (decide (i ∈ ws))) := by
  show (do let k ← D.inn (.int i) (.tup (natD ws)); .ok (D.bl k)) = _
  show (do let k ← when (D.pls 30 (natD ws) && D.pl 29 (.int i)) (.ok (D.mem (.int i) (natD ws))); .ok (D.bl k)) = _
  rw [natD_pls, natD_mem]; rfl
theorem pls_map {α : Type} (f : α → D) (k : Nat) (h : ∀ a, D.pl k (f a) = true) : ∀ xs : List α, D.pls (k + 1) (xs.map f) = true
  | [] => rfl
  | a :: r => by rw [List.map_cons, D.pls, h a, pls_map f k h r]; rfl
@[simp] theorem pl_tup {n : Nat} {a : List D} : D.pl n (.tup a) = D.pls n a := by rw [D.pl]
@[simp] theorem pl_lst {n : Nat} {a : List D} : D.pl n (.lst a) = D.pls n a := by rw [D.pl]
@[simp] theorem enc1 {s : Scene} : D.ix s.enc (.int 1) = .ok (.int s.len) := ix_t1
@[simp] theorem enc2 {s : Scene} : D.ix s.enc (.int 2) = .ok (.int s.pause) := ix_t2
@[simp] theorem enc3 {s : Scene} : D.ix s.enc (.int 3) = .ok (.tup (natD s.who)) := ix_t3
@[simp] theorem penc2 {s : Part} : D.ix s.enc (.int 2) = .ok (.int s.off) := ix_t2
@[simp] theorem penc3 {s : Part} : D.ix s.enc (.int 3) = .ok (.int s.on) := ix_t3
@[simp] theorem run_len_map {α : Type} {f : α → D} {xs : List α} : Bt.run .len [.tup (xs.map f)] = .ok (.int xs.length) := by rw [run_len_t, List.length_map]
end Tr
set_option maxRecDepth 100000
namespace Tr
open PySem
def natI (t : Nat) : D := .int (t : Int)
theorem rangeD_nat (lo n : Nat) : rangeD (lo : Int) n = (List.range' lo n).map natI := by
  rw [rangeD_eq, List.range'_eq_map_range, List.map_map]
  apply List.map_congr_left
  intro i _
  simp [natI]
theorem rng_nat {n : Nat} (h : n ≤ 1000) : rngR (.int (n : Int)) = .ok ((List.range n).map natI) := by
  rw [rng_ok (by omega), rangeD_eq]
  congr 1
  apply List.map_congr_left
  intro i _
  simp [natI]
theorem rng2_succ {s m : Nat} (h : s ≤ 1000) (h2 : m ≤ 1000) : rng2R (.int ((s : Int) + 1)) (.int (m : Int)) = .ok ((List.range' (s + 1) (m - (s + 1))).map natI) := by
  have : rng2R (.int ((s + 1 : Nat) : Int)) (.int (m : Int)) = _ := rng2_ok (by omega) (by omega)
  rw [rangeD_nat] at this
  exact this
theorem forL_findN {f : D → Nv → Res Out} (I : Nv → Prop) (g : Nat → Option (D × Bool)) (ts : List Nat) (e : Nv) (h : I e)
    (st : ∀ t ∈ ts, ∀ e, I e → match g t with | some (x, k) => f (natI t) e = .ok (.rt x k) | none => ∃ e', (f (natI t) e = .ok (.nx e') ∨ f (natI t) e = .ok (.ct e')) ∧ I e') :
    match ts.findSome? g with | some (x, k) => forL f (ts.map natI) e = .ok (.rt x k) | none => ∃ e', forL f (ts.map natI) e = .ok (.nx e') ∧ I e' := by
  induction ts generalizing e with
  | nil => exact ⟨e, rfl, h⟩
  | cons t r ih =>
    have h1 := st t List.mem_cons_self e h
    rw [List.findSome?_cons, List.map_cons]
    cases hg : g t with
    | some y =>
      rw [hg] at h1
      exact forL_rt h1
    | none =>
      rw [hg] at h1
      obtain ⟨e', h2, h3⟩ := h1
      have eq : forL f (natI t :: r.map natI) e = forL f (r.map natI) e' := by
        rcases h2 with h2 | h2
        · exact forL_nx h2
        · exact forL_ct h2
      rw [eq]
      exact ih e' h3 fun d' hd => st d' (List.mem_cons_of_mem _ hd)
theorem findSome_omap {α β γ : Type} (h : α → Option β) (F : β → γ) : ∀ l : List α, l.findSome? (fun t => (h t).map F) = (l.findSome? h).map F
  | [] => rfl
  | a :: r => by
    rw [List.findSome?_cons, List.findSome?_cons]
    cases e : h a with
    | none => simp [findSome_omap h F r]
    | some b => rfl
inductive Rz where
  | sc (s : Nat) | ch (s t : Nat) (have_ need : Int)
def Rz.enc : Rz → D
  | .sc s => .tup [.str "scene", .int s]
  | .ch s t h n => .tup [.str "change", .int s, .int t, .int h, .int n]
def optR : Option Rz → D
  | none => .non
  | some r => r.enc
@[simp] theorem isNon_optR {o : Option Rz} : (optR o).isNon = o.isNone := by
  cases o with
  | none => rfl
  | some r => cases r <;> rfl
def Rz.out (r : Rz) : D × Bool := (r.enc, false)
end Tr
set_option maxRecDepth 100000
namespace Tr
open PySem
theorem compL_enc {α : Type} {f : D → Res (Option D)} (enc : α → D) (g : α → Option D) : ∀ {xs : List α}, (∀ a ∈ xs, f (enc a) = .ok (g a)) → compL f (xs.map enc) = .ok (xs.filterMap g)
  | [], _ => rfl
  | a :: r, h => by
    rw [List.map_cons, compL, h a List.mem_cons_self, Res.ok_bind, compL_enc enc g fun x hx => h x (List.mem_cons_of_mem _ hx), Res.ok_bind, List.filterMap_cons]
    cases g a <;> rfl
def pairD (p : Nat × Nat) : D := .tup [.int p.1, .int p.2]
def pairsFrom (many i : Nat) : List (Nat × Nat) := (List.range' (i + 1) (many - (i + 1))).map fun j => (i, j)
def pairsTo (many : Nat) : Nat → List (Nat × Nat)
  | 0 => []
  | k + 1 => pairsTo many k ++ pairsFrom many k
def pairsOf (many : Nat) : List (Nat × Nat) := pairsTo many many
theorem pairsFrom_mem {many i : Nat} {p : Nat × Nat} (h : p ∈ pairsFrom many i) : p.1 = i ∧ i < p.2 ∧ p.2 < many := by
  obtain ⟨j, hj, rfl⟩ := List.mem_map.mp h
  have := List.mem_range'_1.mp hj
  exact ⟨rfl, by omega, by omega⟩
theorem pairsTo_mem {many : Nat} {p : Nat × Nat} : ∀ {k : Nat}, p ∈ pairsTo many k → p.1 < p.2 ∧ p.2 < many
  | 0, h => by simp [pairsTo] at h
  | k + 1, h => by
    rcases List.mem_append.mp h with q | q
    · exact pairsTo_mem q
    · have := pairsFrom_mem q; omega
theorem pairsTo_length (many : Nat) : ∀ k, (pairsTo many k).length ≤ k * many
  | 0 => by simp [pairsTo]
  | k + 1 => by
    have := pairsTo_length many k
    rw [pairsTo, List.length_append, pairsFrom, List.length_map, List.length_range', Nat.succ_mul]
    omega
end Tr
set_option maxRecDepth 100000
namespace Tr
open PySem
end Tr
namespace Tr
open PySem
theorem blsOf_map (f : α → Bool) : ∀ xs : List α, blsOf (xs.map fun x => D.bl (f x)) = .ok (xs.map f)
  | [] => rfl
  | x :: r => by
    rw [List.map_cons, blsOf, blsOf_map f r]; rfl
def hasC (g : Str) (c : Nat) : Bool := decide (c ∈ g.cps.toList)
@[simp] theorem cmp_in_chr (c : Nat) (g : Str) : D.cmp .In (.str (chr1 c)) (.str g) = .ok (.bl (hasC g c)) := id rfl
def signs (x : Str) : List Nat := x.cps.toList
@[simp] theorem run_all (xs : List D) : Bt.run .all [.lst xs] = (do let q ← blsOf xs; .ok (.bl (q.all id))) := id rfl
@[simp] theorem run_any (xs : List D) : Bt.run .any [.lst xs] = (do let q ← blsOf xs; .ok (.bl (q.any id))) := id rfl
@[simp] theorem run_len_str (x : Str) : Bt.run .len [.str x] = when (decide (x.length ≤ big)) (.ok (.int x.length)) := id rfl
@[simp] theorem keys_str (x : Str) : D.keys (.str x) = .ok ((signs x).map fun c => .inr (chr1 c)) := id rfl
@[simp] theorem keys_lst (xs : List D) : D.keys (.lst xs) = keysD xs := id rfl
@[simp] theorem items_str (x : Str) : D.items (.str x) = .ok ((signs x).map fun c => .str (chr1 c)) := id rfl
section
variable {T : Tab}
@[simp] theorem fresh_cmp {o : CmpOp} {a b : E} : freshE T (.cmp o a b) = false := id rfl
@[simp] theorem fresh_chain {o p : CmpOp} {a b c : E} : freshE T (.chain o p a b c) = false := id rfl
@[simp] theorem fresh_and {a b : E} : freshE T (.and a b) = false := id rfl
@[simp] theorem fresh_or {a b : E} : freshE T (.or a b) = false := id rfl
@[simp] theorem fresh_not {a : E} : freshE T (.not a) = false := id rfl
@[simp] theorem fresh_mod {a b : E} : freshE T (.bin .Mod a b) = false := id rfl
@[simp] theorem fresh_sub {a b : E} : freshE T (.bin .Sub a b) = false := id rfl
@[simp] theorem fresh_mult {a b : E} : freshE T (.bin .Mult a b) = false := id rfl
@[simp] theorem fresh_floordiv {a b : E} : freshE T (.bin .FloorDiv a b) = false := id rfl
@[simp] theorem fresh_pow {a b : E} : freshE T (.bin .Pow a b) = false := id rfl
@[simp] theorem fresh_all {a : E} : freshE T (.bt .all a) = false := id rfl
@[simp] theorem fresh_any {a : E} : freshE T (.bt .any a) = false := id rfl
@[simp] theorem fresh_con {d : D} : freshE T (.con d) = false := id rfl
@[simp] theorem fresh_var {i : Nat} : freshE T (.var i) = false := id rfl
@[simp] theorem fresh_tup {a : E} : freshE T (.tup a) = false := id rfl
@[simp] theorem fresh_split {a b : E} : freshE T (.mth .split a b) = true := id rfl
@[simp] theorem fresh_join {a b : E} : freshE T (.mth .join a b) = false := id rfl
end
end Tr
namespace Tr
open PySem
theorem atI_nat {α : Type} {xs : List α} {k : Nat} {x : α} (h : xs[k]? = some x) : atI xs (k : Int) = some x := by
  have hk := (List.getElem?_eq_some_iff.mp h).1
  unfold atI ixN
  rw [if_pos (by omega), if_pos (by omega)]
  exact h
@[simp] theorem ix_lst2 {a b c : D} {r : List D} : (D.lst (a :: b :: c :: r)).ix (.int 2) = .ok c := by
  show Res.of (atI _ ((2 : Nat) : Int)) = _
  rw [atI_nat (x := c) rfl]; rfl
@[simp] theorem ix_lst3 {a b c d : D} {r : List D} : (D.lst (a :: b :: c :: d :: r)).ix (.int 3) = .ok d := by
  show Res.of (atI _ ((3 : Nat) : Int)) = _
  rw [atI_nat (x := d) rfl]; rfl
@[simp] theorem ix_lst4 {a b c d f : D} {r : List D} : (D.lst (a :: b :: c :: d :: f :: r)).ix (.int 4) = .ok f := by
  show Res.of (atI _ ((4 : Nat) : Int)) = _
  rw [atI_nat (x := f) rfl]; rfl
theorem add_lsts {a b : List D} (h : a.length + b.length ≤ big) : D.bin .Add (.lst a) (.lst b) = .ok (.lst (a ++ b)) := by
  show when (decide (a.length + b.length ≤ big)) (.ok (D.lst (a ++ b))) = _
  rw [show decide (a.length + b.length ≤ big) = true by simpa using h]
  rfl
@[simp] theorem ix_lst5 {a b c d f g : D} {r : List D} : (D.lst (a :: b :: c :: d :: f :: g :: r)).ix (.int 5) = .ok g := by
  show Res.of (atI _ ((5 : Nat) : Int)) = _
  rw [atI_nat (x := g) rfl]; rfl
@[simp] theorem ix_lst6 {a b c d f g h : D} {r : List D} : (D.lst (a :: b :: c :: d :: f :: g :: h :: r)).ix (.int 6) = .ok h := by
  show Res.of (atI _ ((6 : Nat) : Int)) = _
  rw [atI_nat (x := h) rfl]; rfl
@[simp] theorem ix_lst7 {a b c d f g h i : D} {r : List D} : (D.lst (a :: b :: c :: d :: f :: g :: h :: i :: r)).ix (.int 7) = .ok i := by
  show Res.of (atI _ ((7 : Nat) : Int)) = _
  rw [atI_nat (x := i) rfl]; rfl
end Tr
set_option maxRecDepth 100000
namespace Tr
open PySem
structure Player where
  name : Str
  voices : Str
  hire : Int
def Player.enc (p : Player) : D := .tup [.str p.name, .str p.voices, .int p.hire]
@[simp] theorem qenc1 {s : Player} : D.ix s.enc (.int 1) = .ok (.str s.voices) := ix_t1
@[simp] theorem penc1 {s : Part} : D.ix s.enc (.int 1) = .ok (.str s.voice) := ix_t1
def optN : Option Nat → D
  | none => .non
  | some j => .int (j : Int)
@[simp] theorem optN_none : optN none = .non := id rfl
@[simp] theorem optN_some {j : Nat} : optN (some j) = .int (j : Int) := id rfl
@[simp] theorem isNon_optN {o : Option Nat} : (optN o).isNon = o.isNone := by cases o <;> rfl
inductive Flt where
  | nob (i : Nat) | voi (i k : Nat) | cla (i j : Nat)
def Flt.enc : Flt → D
  | .nob i => .tup [.str "nobody", .int i]
  | .voi i k => .tup [.str "voice", .int i, .int k]
  | .cla i j => .tup [.str "clash", .int i, .int j]
def optF : Option Flt → D
  | none => .non
  | some x => x.enc
@[simp] theorem isNon_optF {o : Option Flt} : (optF o).isNon = o.isNone := by
  cases o with
  | none => rfl
  | some x => cases x <;> rfl
def Flt.names (p : Nat) : Flt → Bool
  | .nob i => i == p
  | .voi i _ => i == p
  | .cla i j => i == p || j == p
end Tr
set_option maxRecDepth 100000
namespace Tr
open PySem
theorem pairD_pl (k : Nat) (p : Nat × Nat) : D.pl (k + 1) (pairD p) = true := by
  show D.pls (k + 1) [D.int _, D.int _] = true
  simp only [D.pls, D.pl, Bool.and_true, Bool.true_and]
end Tr
set_option maxRecDepth 100000
namespace Tr
open PySem
end Tr
namespace Tr
open PySem
theorem pairD_eqb (p q : Nat × Nat) : D.eqb (pairD p) (pairD q) = decide (p = q) := by
  show D.eqs [D.int _, D.int _] [D.int _, D.int _] = _
  have : D.eqs [D.int (p.1 : Int), D.int (p.2 : Int)] [D.int (q.1 : Int), D.int (q.2 : Int)] = (((p.1 : Int) == (q.1 : Int)) && (((p.2 : Int) == (q.2 : Int)) && true)) := rfl
  rw [this, Bool.eq_iff_iff]
  simp
  constructor
  · rintro ⟨a, b⟩; exact Prod.ext (by omega) (by omega)
  · rintro rfl; exact ⟨rfl, rfl⟩
theorem mem_pairD (p : Nat × Nat) : ∀ ps : List (Nat × Nat), D.mem (pairD p) (ps.map pairD) = decide (p ∈ ps)
  | [] => rfl
  | q :: r => by
    rw [List.map_cons, D.mem, mem_pairD p r, pairD_eqb]
    by_cases h1 : q = p
    · subst h1; simp
    · have h2 : ¬ p = q := fun z => h1 z.symm
      by_cases h3 : p ∈ r <;> simp [h1, h2, h3]
end Tr
set_option maxRecDepth 100000
namespace Tr
open PySem
def usedV (g : List Nat) : Nat := g.foldl (fun m x => max m (x + 1)) 0
theorem foldl_ge : ∀ (g : List Nat) (m : Nat), m ≤ g.foldl (fun m x => max m (x + 1)) m
  | [], m => Nat.le_refl _
  | y :: r, m => by
    have := foldl_ge r (max m (y + 1))
    rw [List.foldl_cons]; omega
theorem used_lt : ∀ {g : List Nat} {m x : Nat}, x ∈ g → x < g.foldl (fun m x => max m (x + 1)) m
  | y :: r, m, x, h => by
    rw [List.foldl_cons]
    rcases List.mem_cons.mp h with rfl | h
    · have := foldl_ge r (max m (x + 1)); omega
    · exact used_lt h
theorem maxI_used : ∀ (r : List Nat) (n : Nat), maxI (n : Int) (r.map fun i : Nat => (i : Int)) = ((r.foldl (fun m x => max m (x + 1)) (n + 1) : Nat) : Int) - 1
  | [], n => by simp [maxI]
  | x :: r, n => by
    rw [List.map_cons, maxI, List.foldl_cons]
    by_cases c : x > n
    · rw [if_pos (by omega), maxI_used r x, Nat.max_eq_right (by omega)]
    · rw [if_neg (by omega), maxI_used r n, Nat.max_eq_left (by omega)]
theorem ints_nat : ∀ g : List Nat, intsOf (g.map natI) = .ok (g.map fun i : Nat => (i : Int))
  | [] => rfl
  | x :: r => by rw [List.map_cons, natI, intsOf, ints_nat r]; rfl
theorem maxD_used (g : List Nat) : D.maxD (.lst (g.map natI)) (.int (-1)) = .ok (.int ((usedV g : Int) - 1)) := by
  show (do match ← intsOf (g.map natI) with | n :: ns => .ok (D.int (maxI n ns)) | [] => .ok (D.int (-1))) = _
  rw [ints_nat]
  cases g with
  | nil => rfl
  | cons x r =>
    show Res.ok (D.int (maxI (x : Int) (r.map fun i : Nat => (i : Int)))) = _
    rw [maxI_used]
    unfold usedV
    rw [List.foldl_cons, Nat.max_eq_right (by omega)]
def joinB (ps : List (Nat × Nat)) (g : List Nat) (x : Nat) : Bool := (List.range g.length).all fun i => !(g.getD i 0 == x) || !decide ((i, g.length) ∈ ps)
def gw (ps : List (Nat × Nat)) (k : Nat) : Nat → List Nat → Option (List Nat)
  | 0, g => some g
  | r + 1, g => (List.range (min (usedV g + 1) k)).findSome? fun x => if joinB ps g x = true then gw ps k r (g ++ [x]) else none
def okG (ps : List (Nat × Nat)) (g : List Nat) : Prop := ∀ p ∈ ps, p.2 < g.length → g.getD p.1 0 ≠ g.getD p.2 0
theorem getD_left {g : List Nat} {x i : Nat} (h : i < g.length) : (g ++ [x]).getD i 0 = g.getD i 0 := by
  rw [List.getD_eq_getElem?_getD, List.getD_eq_getElem?_getD, List.getElem?_append_left h]
theorem getD_right {g : List Nat} {x : Nat} : (g ++ [x]).getD g.length 0 = x := by
  rw [List.getD_eq_getElem?_getD, List.getElem?_append_right (Nat.le_refl _)]; simp
theorem gw_sound {ps : List (Nat × Nat)} (hp : ∀ p ∈ ps, p.1 < p.2) {k : Nat} : ∀ {r : Nat} {g h : List Nat}, gw ps k r g = some h → okG ps g → (∀ x ∈ g, x < k) → okG ps h ∧ (∀ x ∈ h, x < k) ∧ h.length = g.length + r
  | 0, g, h, e, h1, h2 => by cases e; exact ⟨h1, h2, rfl⟩
  | r + 1, g, h, e, h1, h2 => by
    rw [gw] at e
    obtain ⟨x, hx, e⟩ := List.exists_of_findSome?_eq_some e
    have hx : x < min (usedV g + 1) k := by simpa using hx
    by_cases c : joinB ps g x = true
    · rw [if_pos c] at e
      have ok : okG ps (g ++ [x]) := by
        intro p hm hl
        rw [List.length_append, List.length_singleton] at hl
        have lt := hp p hm
        by_cases q : p.2 < g.length
        · rw [getD_left (by omega), getD_left q]
          exact h1 p hm q
        · have e2 : p.2 = g.length := by omega
          rw [getD_left (by omega), e2, getD_right]
          unfold joinB at c
          have := List.all_eq_true.mp c p.1 (by simp; omega)
          intro z
          have hm' : (p.1, g.length) ∈ ps := by rw [← e2]; exact hm
          rw [z] at this
          simp [hm'] at this
      obtain ⟨a, b, l⟩ := gw_sound hp e ok (by
        intro y hy
        rcases List.mem_append.mp hy with hy | hy
        · exact h2 y hy
        · rw [List.mem_singleton.mp hy]; omega)
      exact ⟨a, b, by rw [l, List.length_append, List.length_singleton]; omega⟩
    · rw [if_neg c] at e; cases e
theorem find_isSome {α β : Type} {f : α → Option β} : ∀ {l : List α} {x : α}, x ∈ l → (f x).isSome = true → (l.findSome? f).isSome = true
  | a :: r, x, h, e => by
    rw [List.findSome?_cons]
    cases q : f a with
    | some b => rfl
    | none =>
      rcases List.mem_cons.mp h with rfl | h
      · rw [q] at e; cases e
      · exact find_isSome h e
theorem gw_full {ps : List (Nat × Nat)} {k : Nat} : ∀ {r : Nat} {g : List Nat} (c : Nat → Nat), (∀ p ∈ ps, c p.1 ≠ c p.2) → (∀ v, v < g.length + r → c v < k) → (∀ i, i < g.length → g.getD i 0 = c i) → (gw ps k r g).isSome = true
  | 0, g, c, _, _, _ => rfl
  | r + 1, g, c, h1, h2, h3 => by
    have go : ∀ c : Nat → Nat, (∀ p ∈ ps, c p.1 ≠ c p.2) → (∀ v, v < g.length + (r + 1) → c v < k) → (∀ i, i < g.length → g.getD i 0 = c i) → c g.length ≤ usedV g → (gw ps k (r + 1) g).isSome = true := by
      intro c h1 h2 h3 hu
      rw [gw]
      refine find_isSome (x := c g.length) (by have := h2 g.length (by omega); simp; omega) ?_
      have j : joinB ps g (c g.length) = true := by
        unfold joinB
        rw [List.all_eq_true]
        intro i hi
        have hi : i < g.length := by simpa using hi
        by_cases q : (i, g.length) ∈ ps
        · have := h1 _ q
          have h3' := h3 i hi
          rw [h3']
          simp; left; exact this
        · simp [q]
      rw [if_pos j]
      refine gw_full c h1 (fun v hv => h2 v (by rw [List.length_append, List.length_singleton] at hv; omega)) fun i hi => ?_
      rw [List.length_append, List.length_singleton] at hi
      by_cases q : i < g.length
      · rw [getD_left q]; exact h3 i q
      · rw [show i = g.length by omega, getD_right]
    by_cases hu : c g.length ≤ usedV g
    · exact go c h1 h2 h3 hu
    · have hk := h2 g.length (by omega)
      refine go (fun v => if c v = c g.length then usedV g else if c v = usedV g then c g.length else c v) ?_ ?_ ?_ ?_
      · intro p hp
        have := h1 p hp
        try dsimp only
        split <;> split <;> (try split) <;> (try split) <;> omega
      · intro v hv
        have := h2 v hv
        try dsimp only
        split
        · omega
        · split
          · exact hk
          · exact this
      · intro i hi
        have e := h3 i hi
        have lt : g.getD i 0 < usedV g := by
          refine used_lt (m := 0) ?_
          rw [List.getD_eq_getElem?_getD, List.getElem?_eq_getElem hi]
          exact List.getElem_mem hi
        try dsimp only
        rw [if_neg (by omega), if_neg (by omega)]
        exact e
      · try dsimp only
        rw [if_pos rfl]; exact Nat.le_refl _
def Col (many : Nat) (ps : List (Nat × Nat)) (k : Nat) : Prop := ∃ c : Nat → Nat, (∀ p ∈ ps, c p.1 ≠ c p.2) ∧ ∀ v, v < many → c v < k
theorem col_gw {many k : Nat} {ps : List (Nat × Nat)} (hp : ∀ p ∈ ps, p.1 < p.2 ∧ p.2 < many) : (gw ps k many []).isSome = true ↔ Col many ps k := by
  constructor
  · intro h
    obtain ⟨g, e⟩ := Option.isSome_iff_exists.mp h
    obtain ⟨a, b, l⟩ := gw_sound (fun p hm => (hp p hm).1) e (by intro p _ z; simp at z) (by simp)
    rw [List.length_nil, Nat.zero_add] at l
    refine ⟨fun v => g.getD v 0, fun p hm => a p hm (by rw [l]; exact (hp p hm).2), fun v hv => ?_⟩
    try dsimp only
    rw [List.getD_eq_getElem?_getD, List.getElem?_eq_getElem (by omega)]
    exact b _ (List.getElem_mem _)
  · rintro ⟨c, h1, h2⟩
    exact gw_full c h1 (by simpa using h2) (by simp)
theorem col_many {many : Nat} {ps : List (Nat × Nat)} (hp : ∀ p ∈ ps, p.1 < p.2 ∧ p.2 < many) : Col many ps many := ⟨id, fun p hm => by have := hp p hm; show p.1 ≠ p.2; omega, fun v hv => hv⟩
def Chi (many : Nat) (ps : List (Nat × Nat)) (k : Nat) : Prop := Col many ps k ∧ ∀ k', k' < k → ¬ Col many ps k'
theorem chi_eq {m m' : Nat} {ps ps' : List (Nat × Nat)} {k k' : Nat} (h : Chi m ps k) (h' : Chi m' ps' k') (e : ∀ q, Col m ps q ↔ Col m' ps' q) : k = k' := by
  rcases Nat.lt_trichotomy k k' with l | l | l
  · exact absurd ((e k).mp h.1) (h'.2 k l)
  · exact l
  · exact absurd ((e k').mpr h'.1) (h.2 k' l)
theorem col_more {many : Nat} {ps : List (Nat × Nat)} (hm : 0 < many) (hp : ∀ p ∈ ps, p.1 < p.2 ∧ p.2 < many) (k : Nat) : Col (many + 1) ps k ↔ Col many ps k := by
  constructor
  · rintro ⟨c, h1, h2⟩
    exact ⟨c, h1, fun v hv => h2 v (by omega)⟩
  · rintro ⟨c, h1, h2⟩
    have k0 := h2 0 hm
    refine ⟨fun v => if v < many then c v else 0, fun p hq => ?_, fun v hv => ?_⟩
    · have := hp p hq
      try dsimp only
      rw [if_pos (by omega), if_pos this.2]
      exact h1 p hq
    · try dsimp only
      split
      · exact h2 v (by assumption)
      · omega
theorem col_all {many : Nat} {ps : List (Nat × Nat)} (hp : ∀ p ∈ ps, p.1 < p.2 ∧ p.2 < many) (k : Nat) : Col (many + 1) (ps ++ (List.range many).map fun v => (v, many)) (k + 1) ↔ Col many ps k := by
  constructor
  · rintro ⟨c, h1, h2⟩
    have ne : ∀ v, v < many → c v ≠ c many := fun v hv => h1 (v, many) (List.mem_append_right _ (List.mem_map.mpr ⟨v, by simpa using hv, rfl⟩))
    have kx := h2 many (by omega)
    refine ⟨fun v => if c v = k then c many else c v, fun p hq => ?_, fun v hv => ?_⟩
    · have := hp p hq
      have n1 := ne p.1 (by omega)
      have n2 := ne p.2 this.2
      have n3 := h1 p (List.mem_append_left _ hq)
      try dsimp only
      split <;> split <;> omega
    · have := h2 v (by omega)
      have := ne v hv
      try dsimp only
      split <;> omega
  · rintro ⟨c, h1, h2⟩
    refine ⟨fun v => if v < many then c v else k, fun p hq => ?_, fun v hv => ?_⟩
    · rcases List.mem_append.mp hq with hq | hq
      · have := hp p hq
        try dsimp only
        rw [if_pos (by omega), if_pos this.2]
        exact h1 p hq
      · obtain ⟨v, hv, rfl⟩ := List.mem_map.mp hq
        have hv : v < many := by simpa using hv
        have := h2 v hv
        try dsimp only
        rw [if_pos hv, if_neg (Nat.lt_irrefl _)]
        omega
    · try dsimp only
      split
      · have := h2 v (by assumption); omega
      · omega
def oneF (i j v : Nat) : Nat := (if v = j then i else v) - (if (if v = j then i else v) > j then 1 else 0)
def mmV (i j : Nat) (p : Nat × Nat) : Nat × Nat := (min (oneF i j p.1) (oneF i j p.2), max (oneF i j p.1) (oneF i j p.2))
theorem oneF_lt {i j many v : Nat} (hij : i < j) (hj : j < many) (hv : v < many) : oneF i j v < many - 1 := by
  unfold oneF
  repeat' split
  all_goals omega
theorem col_split {i j many : Nat} {ps qs : List (Nat × Nat)} (hij : i < j) (hj : j < many) (hp : ∀ p ∈ ps, p.1 < p.2 ∧ p.2 < many) (hn : (i, j) ∉ ps) (hq : ∀ q, q ∈ qs ↔ ∃ p ∈ ps, q = mmV i j p) (k : Nat) :
    Col many ps k ↔ (Col many (ps ++ [(i, j)]) k ∨ Col (many - 1) qs k) := by
  have mm : ∀ (c : Nat → Nat) (p : Nat × Nat), c (mmV i j p).1 ≠ c (mmV i j p).2 ↔ c (oneF i j p.1) ≠ c (oneF i j p.2) := by
    intro c p
    unfold mmV
    try dsimp only
    rcases Nat.le_total (oneF i j p.1) (oneF i j p.2) with l | l
    · rw [Nat.min_eq_left l, Nat.max_eq_right l]
    · rw [Nat.min_eq_right l, Nat.max_eq_left l]
      exact ⟨fun h z => h z.symm, fun h z => h z.symm⟩
  constructor
  · rintro ⟨c, h1, h2⟩
    by_cases e : c i = c j
    · right
      have bk : ∀ v, v < many → c (if oneF i j v < j then oneF i j v else oneF i j v + 1) = c v := by
        intro v hv
        by_cases q : v = j
        · subst q
          have : oneF i v v = i := by unfold oneF; rw [if_pos rfl, if_neg (by omega)]; rfl
          rw [this, if_pos hij]; exact e
        · have : (if oneF i j v < j then oneF i j v else oneF i j v + 1) = v := by
            unfold oneF
            rw [if_neg q]
            repeat' split
            all_goals omega
          rw [this]
      refine ⟨fun u => c (if u < j then u else u + 1), fun q hm => ?_, fun u hu => ?_⟩
      · obtain ⟨p, hpm, rfl⟩ := (hq q).mp hm
        rw [mm (fun u => c (if u < j then u else u + 1)) p]
        have l := hp p hpm
        try dsimp only
        rw [bk p.1 (by omega), bk p.2 l.2]
        exact h1 p hpm
      · try dsimp only
        split
        · exact h2 _ (by omega)
        · exact h2 _ (by omega)
    · left
      refine ⟨c, fun p hm => ?_, h2⟩
      rcases List.mem_append.mp hm with hm | hm
      · exact h1 p hm
      · rw [List.mem_singleton.mp hm]; exact e
  · rintro (⟨c, h1, h2⟩ | ⟨c, h1, h2⟩)
    · exact ⟨c, fun p hm => h1 p (List.mem_append_left _ hm), h2⟩
    · refine ⟨fun v => c (oneF i j v), fun p hm => ?_, fun v hv => h2 _ (oneF_lt hij hj hv)⟩
      exact (mm c p).mp (h1 _ ((hq _).mpr ⟨p, hm, rfl⟩))
end Tr
namespace K34
open PySem Tr
def c_may_join_1 : E :=
  (.cmp .Eq (.ix (.var 4) (.var 0)) (.var 3))
def e_may_join_2 : E :=
  (.cmp .NotIn (.tup (.acons (.var 0) (.acons (.var 2) .anil))) (.var 1))
def b_may_join : S :=
  (.cons (.asg (.one 3) (.bt .len (.acons (.var 1) .anil)))
  (.cons (.ret (.bt .all (.acons (.comp 1 [0, 3, 2, 1] (.one 0) e_may_join_2 (.rng (.var 3)) c_may_join_1) .anil)))
  .nil))
def b_groups_within_1 : S :=
  (.cons (.ite (.call 0 (.acons (.var 1) (.acons (.var 3) (.acons (.var 5) .anil))))
  (.cons (.asg (.one 6) (.call 1 (.acons (.var 0) (.acons (.var 1) (.acons (.var 2) (.acons (.bin .Add (.var 3) (.lst (.acons (.var 5) .anil))) .anil))))))
  (.cons (.ite (.cmp .IsNot (.var 6) (.con .non))
  (.cons (.ret (.var 6))
  .nil)
  .nil)
  .nil))
  .nil)
  .nil)
def b_groups_within : S :=
  (.cons (.ite (.cmp .Eq (.bt .len (.acons (.var 3) .anil)) (.var 0))
  (.cons (.ret (.var 3))
  .nil)
  .nil)
  (.cons (.asg (.one 4) (.bin .Add (.maxd (.var 3) (.neg (.con (.int 1)))) (.con (.int 1))))
  (.cons (.forS (.one 5) (.rng (.bt .min (.acons (.bin .Add (.var 4) (.con (.int 1))) (.acons (.var 2) .anil)))) b_groups_within_1)
  (.cons (.ret (.con .non))
  .nil))))
def c_fewest_of_1 : E :=
  (.cmp .Is (.var 3) (.con .non))
def b_fewest_of_2 : S :=
  (.cons (.aug 2 .Add (.con (.int 1)))
  (.cons (.asg (.one 3) (.call 1 (.acons (.var 0) (.acons (.var 1) (.acons (.var 2) (.acons (.lst .anil) .anil))))))
  .nil))
def b_fewest_of : S :=
  (.cons (.asg (.one 2) (.con (.int 0)))
  (.cons (.asg (.one 3) (.call 1 (.acons (.var 0) (.acons (.var 1) (.acons (.var 2) (.acons (.lst .anil) .anil))))))
  (.cons (.whl 1000 c_fewest_of_1 b_fewest_of_2)
  (.cons (.ret (.tup (.acons (.var 2) (.acons (.var 3) .anil))))
  .nil))))
def b_law_cell_at : S :=
  (.cons (.ite (.cmp .Lt (.var 1) (.bt .len (.acons (.var 0) .anil)))
  (.cons (.ret (.ix (.var 0) (.var 1)))
  .nil)
  .nil)
  (.cons (.ret (.con (.int 0)))
  .nil))
def b_law_mixed : S :=
  (.cons (.ret (.bin .Mod (.bin .Add (.bin .Add (.bin .Mult (.var 0) (.con (.int 48271))) (.bin .Mult (.bin .Mult (.var 1) (.var 1)) (.con (.int 69621)))) (.con (.int 5))) (.con (.int 2147483647))))
  .nil)
def e_pairs_1 : E :=
  (.tup (.acons (.var 1) (.acons (.var 0) .anil)))
def b_pairs_2 : S :=
  (.cons (.asg (.one 1) (.bin .Add (.var 1) (.comp 1 [2] (.one 0) e_pairs_1 (.rng2 (.bin .Add (.var 2) (.con (.int 1))) (.var 0)) (.con (.bl true)))))
  .nil)
def b_law_pairs : S :=
  (.cons (.asg (.one 1) (.lst .anil))
  (.cons (.forS (.one 2) (.rng (.var 0)) b_pairs_2)
  (.cons (.ret (.var 1))
  .nil)))
def b_clashes_1 : S :=
  (.cons (.asg (.one 6) (.call 4 (.acons (.ix (.bin .Add (.var 0) (.lst (.acons (.bin .Mult (.con (.int 3)) (.var 5)) .anil))) (.bt .min (.acons (.var 5) (.acons (.bt .len (.acons (.var 0) .anil)) .anil)))) (.acons (.var 5) .anil))))
  (.cons (.ite (.cmp .Lt (.bin .Mod (.var 6) (.con (.int 12))) (.var 2))
  (.cons (.app 4 (.ix (.var 3) (.var 5)))
  .nil)
  .nil)
  .nil))
def b_law_clashes : S :=
  (.cons (.asg (.one 3) (.call 5 (.acons (.var 1) .anil)))
  (.cons (.asgO 4 (.lst .anil))
  (.cons (.forS (.one 5) (.rng (.bt .len (.acons (.var 3) .anil))) b_clashes_1)
  (.cons (.ite (.cmp .Eq (.bin .Mod (.var 2) (.con (.int 2))) (.con (.int 1)))
  (.cons (.rev 4)
  .nil)
  .nil)
  (.cons (.retO 4)
  .nil)))))
def b_one_1 : S :=
  (.cons (.asg (.one 6) (.ix (.lst (.acons (.var 6) (.acons (.var 1) .anil))) (.bt .int (.acons (.cmp .Eq (.var 6) (.var 2)) .anil))))
  (.cons (.app 5 (.bin .Sub (.var 6) (.bt .int (.acons (.cmp .Gt (.var 6) (.var 2)) .anil))))
  .nil))
def b_one_2 : S :=
  (.cons (.asgO 5 (.lst .anil))
  (.cons (.forS (.one 6) (.seq (.var 4)) b_one_1)
  (.cons (.asg (.one 5) (.tup (.acons (.bt .min (.acons (.rd 5) .anil)) (.acons (.bt .max (.acons (.rd 5) .anil)) .anil))))
  (.cons (.ite (.cmp .NotIn (.var 5) (.rd 3))
  (.cons (.app 3 (.var 5))
  .nil)
  .nil)
  .nil))))
def b_law_one : S :=
  (.cons (.asgO 3 (.lst .anil))
  (.cons (.forS (.one 4) (.seq (.var 0)) b_one_2)
  (.cons (.retO 3)
  .nil)))
def e_law_1 : E :=
  (.tup (.acons (.var 0) (.acons (.var 1) .anil)))
def b_law : S :=
  (.cons (.asg (.one 1) (.bin .Add (.con (.int 2)) (.bin .Mod (.call 3 (.acons (.var 0) (.acons (.con (.int 0)) .anil))) (.con (.int 6)))))
  (.cons (.asg (.one 2) (.call 6 (.acons (.sl (.var 0) (.con (.int 3)) (.con (.int 24))) (.acons (.var 1) (.acons (.bin .Mod (.call 3 (.acons (.var 0) (.acons (.con (.int 1)) .anil))) (.con (.int 13))) .anil)))))
  (.cons (.asg (.one 3) (.ix (.call 2 (.acons (.var 1) (.acons (.var 2) .anil))) (.con (.int 0))))
  (.cons (.asg (.one 4) (.call 3 (.acons (.var 0) (.acons (.con (.int 2)) .anil))))
  (.cons (.asg (.one 5) (.bin .Add (.con (.int 1)) (.bin .Mod (.var 4) (.bin .Sub (.var 1) (.con (.int 1))))))
  (.cons (.asg (.one 6) (.bin .Mod (.bin .FloorDiv (.var 4) (.con (.int 7))) (.var 5)))
  (.cons (.ite (.cmp .NotIn (.tup (.acons (.var 6) (.acons (.var 5) .anil))) (.var 2))
  (.cons (.asg (.one 7) (.ix (.call 2 (.acons (.var 1) (.acons (.bin .Add (.var 2) (.lst (.acons (.tup (.acons (.var 6) (.acons (.var 5) .anil))) .anil))) .anil))) (.con (.int 0))))
  (.cons (.asg (.one 8) (.ix (.call 2 (.acons (.bin .Sub (.var 1) (.con (.int 1))) (.acons (.call 7 (.acons (.var 2) (.acons (.var 6) (.acons (.var 5) .anil)))) .anil))) (.con (.int 0))))
  (.cons (.ite (.cmp .NotEq (.var 3) (.bt .min (.acons (.var 7) (.acons (.var 8) .anil))))
  (.cons (.ret (.con (.bl false)))
  .nil)
  .nil)
  .nil)))
  .nil)
  (.cons (.ite (.cmp .NotEq (.ix (.call 2 (.acons (.bin .Add (.var 1) (.con (.int 1))) (.acons (.var 2) .anil))) (.con (.int 0))) (.var 3))
  (.cons (.ret (.con (.bl false)))
  .nil)
  .nil)
  (.cons (.ret (.cmp .Eq (.ix (.call 2 (.acons (.bin .Add (.var 1) (.con (.int 1))) (.acons (.bin .Add (.var 2) (.comp 1 [1] (.one 0) e_law_1 (.rng (.var 1)) (.con (.bl true)))) .anil))) (.con (.int 0))) (.bin .Add (.var 3) (.con (.int 1)))))
  .nil)))))))))
def T : Tab := ⟨fun g => match g with | _ => .non, fun f => f == 6 || f == 7⟩
@[simp] theorem T_fresh0 : T.fresh 0 = false := id rfl
@[simp] theorem T_fresh1 : T.fresh 1 = false := id rfl
@[simp] theorem T_fresh2 : T.fresh 2 = false := id rfl
@[simp] theorem T_fresh3 : T.fresh 3 = false := id rfl
@[simp] theorem T_fresh4 : T.fresh 4 = false := id rfl
@[simp] theorem T_fresh5 : T.fresh 5 = false := id rfl
@[simp] theorem T_fresh6 : T.fresh 6 = true := id rfl
@[simp] theorem T_fresh7 : T.fresh 7 = true := id rfl
@[simp] theorem T_fresh8 : T.fresh 8 = false := id rfl
def dfs : List Df := [⟨4, 3, b_may_join⟩, ⟨7, 4, b_groups_within⟩, ⟨4, 2, b_fewest_of⟩, ⟨2, 2, b_law_cell_at⟩, ⟨2, 2, b_law_mixed⟩, ⟨3, 1, b_law_pairs⟩, ⟨7, 3, b_law_clashes⟩, ⟨7, 3, b_law_one⟩, ⟨9, 1, b_law⟩]
end K34
namespace K34
open PySem Tr
theorem cell_at (n : Nat) (ns : List Int) (k : Nat) : callF T dfs (n + 1) 3 [.lst (ns.map D.int), .int k] = .ok (.int (cellV ns k)) := by
  unfold cellV
  refine callF_rt (k := false) rfl rfl rfl ?_
  by_cases h : k < ns.length
  · have hi : (ns.map D.int)[k]? = some (.int (ns.getD k 0)) := by simp [h]
    simp [b_law_cell_at, h, ix_l hi, freshE]
  · simp [b_law_cell_at, h, freshE]
@[simp] theorem cell_at0 (n : Nat) (ns : List Int) : callF T dfs (n + 1) 3 [.lst (ns.map D.int), .int 0] = .ok (.int (cellV ns 0)) := cell_at n ns 0
@[simp] theorem cell_at1 (n : Nat) (ns : List Int) : callF T dfs (n + 1) 3 [.lst (ns.map D.int), .int 1] = .ok (.int (cellV ns 1)) := cell_at n ns 1
@[simp] theorem cell_at2 (n : Nat) (ns : List Int) : callF T dfs (n + 1) 3 [.lst (ns.map D.int), .int 2] = .ok (.int (cellV ns 2)) := cell_at n ns 2
theorem law_mixed (n : Nat) (c k : Int) (hk : 0 ≤ k ∧ k < 1000000) : callF T dfs (n + 1) 4 [.int c, .int k] = .ok (.int (mixV c k)) := by
  refine callF_rt (k := false) rfl rfl rfl ?_
  have hk2 : -(2 ^ 64) < k ∧ k < 2 ^ 64 := by omega
  have e1 : D.bin .Mult (.int c) (.int 48271) = .ok (.int (c * 48271)) := bin_mulR (by decide)
  have e2 : D.bin .Mult (.int k) (.int k) = .ok (.int (k * k)) := bin_mulR hk2
  have e3 : D.bin .Mult (.int (k * k)) (.int 69621) = .ok (.int (k * k * 69621)) := bin_mulR (by decide)
  simp [b_law_mixed, e1, e2, e3, mixV]
theorem pairs_loop (n : Nat) (many : Nat) (hm : many ≤ 8) : ∀ (m k : Nat) (x : Sl), k + m = many → ∃ x', forL (bodyF T (callF T dfs n) (.one 2) b_pairs_2) ((List.range' k m).map natI) [.v (.int many), .v (.lst ((pairsTo many k).map pairD)), x] = .ok (.nx [.v (.int many), .v (.lst ((pairsTo many many).map pairD)), x'])
  | 0, k, x, h => ⟨x, by rw [show k = many by omega]; rfl⟩
  | m + 1, k, x, h => by
    have hb := ten_big
    have rg := rng2_succ (s := k) (m := many) (by omega) (by omega)
    have c : compL (compF T (callF T dfs n) 1 [2] (.one 0) e_pairs_1 (.con (.bl true)) [.v (.int many), .v (.lst ((pairsTo many k).map pairD)), .v (.int k)]) ((List.range' (k + 1) (many - (k + 1))).map natI) = .ok ((pairsFrom many k).map pairD) := by
      rw [compL_enc natI (fun j => some (pairD (k, j))) (by
        intro j _
        simp [compF, Tr.compEnv, natI, e_pairs_1, pairD]), List.filterMap_eq_map']
      unfold pairsFrom
      rw [List.map_map]; rfl
    have l1 := pairsTo_length many k
    have l2 : (pairsFrom many k).length ≤ 8 := by rw [pairsFrom, List.length_map, List.length_range']; omega
    have l3 : k * many ≤ 8 * 8 := Nat.mul_le_mul (by omega) hm
    have ad : D.bin .Add (.lst ((pairsTo many k).map pairD)) (.lst ((pairsFrom many k).map pairD)) = .ok (.lst ((pairsTo many (k + 1)).map pairD)) := by
      rw [add_lsts (by rw [List.length_map, List.length_map]; omega), pairsTo, List.map_append]
    have e : bodyF T (callF T dfs n) (.one 2) b_pairs_2 (natI k) [.v (.int many), .v (.lst ((pairsTo many k).map pairD)), x] = .ok (.nx [.v (.int many), .v (.lst ((pairsTo many (k + 1)).map pairD)), .v (.int k)]) := by
      have l4 : many - (k + 1) ≤ big := by omega
      simp [bodyF, b_pairs_2, natI, rg, c, l4, ad]
    obtain ⟨x', e2⟩ := pairs_loop n many hm m (k + 1) (.v (.int k)) (by omega)
    exact ⟨x', by rw [List.range'_succ, List.map_cons, forL_nx e, e2]⟩
theorem law_pairs (n : Nat) (many : Nat) (hm : many ≤ 8) : callF T dfs (n + 1) 5 [.int many] = .ok (.lst ((pairsOf many).map pairD)) := by
  have rg := rng_nat (n := many) (by omega)
  rw [List.range_eq_range'] at rg
  obtain ⟨x', e⟩ := pairs_loop n many hm many 0 .no (by omega)
  refine callF_rt (k := false) rfl rfl rfl ?_
  have e0 : (pairsTo many 0).map pairD = [] := rfl
  rw [e0] at e
  simp [b_law_pairs, rg, e, pairsOf]
theorem clash_body (n : Nat) (cells : List Int) (hc : cells.length ≤ 63) (many share : Int) (ps : List (Nat × Nat)) (k : Nat) (hk : k < ps.length) (hp : ps.length < 1000) (acc : List (Nat × Nat)) (ha : acc.length < 1000) (hm : ∀ p ∈ acc, p ∈ ps) (x y : Sl) :
    ∃ acc' : List (Nat × Nat), (∀ p ∈ acc', p ∈ ps) ∧ acc'.length ≤ acc.length + 1 ∧ ∃ x' y', bodyF T (callF T dfs (n + 1)) (.one 5) b_clashes_1 (natI k) [.v (.lst (cells.map D.int)), .v (.int many), .v (.int share), .v (.lst (ps.map pairD)), .o (.lst (acc.map pairD)), x, y] =
      .ok (.nx [.v (.lst (cells.map D.int)), .v (.int many), .v (.int share), .v (.lst (ps.map pairD)), .o (.lst (acc'.map pairD)), x', y']) := by
  have hb := ten_big
  have e1 : D.bin .Mult (.int 3) (.int (k : Int)) = .ok (.int (3 * (k : Int))) := bin_mulL (by decide)
  have e2 : D.bin .Add (.lst (cells.map D.int)) (.lst [.int (3 * (k : Int))]) = .ok (.lst ((cells ++ [3 * (k : Int)]).map D.int)) := by
    rw [add_lsts (by simp; omega), List.map_append]; rfl
  have e3 : Bt.run .min [.int (k : Int), .int (cells.length : Int)] = .ok (.int ((min k cells.length : Nat) : Int)) := by
    show Res.ok (D.int (if (cells.length : Int) < (k : Int) then (cells.length : Int) else (k : Int))) = _
    split
    · rw [Nat.min_eq_right (by omega)]
    · rw [Nat.min_eq_left (by omega)]
  have hlt : min k cells.length < (cells ++ [3 * (k : Int)]).length := by simp; omega
  have e4 : D.ix (.lst ((cells ++ [3 * (k : Int)]).map D.int)) (.int ((min k cells.length : Nat) : Int)) = .ok (.int ((cells ++ [3 * (k : Int)])[min k cells.length])) := ix_l (by rw [List.getElem?_map, List.getElem?_eq_getElem hlt]; rfl)
  generalize (cells ++ [3 * (k : Int)])[min k cells.length] = v at e4
  have e5 := law_mixed n v k (by omega)
  have e6 : D.ix (.lst (ps.map pairD)) (.int (k : Int)) = .ok (pairD ps[k]) := ix_l (by rw [List.getElem?_map, List.getElem?_eq_getElem hk]; rfl)
  have e7 : (acc.map pairD).length < big := by simp; omega
  generalize hC : (cells ++ [3 * (k : Int)]).map D.int = CC at *
  generalize hmin : ((min k cells.length : Nat) : Int) = mm at *
  by_cases c : mixV v k % 12 < share
  · refine ⟨acc ++ [ps[k]], ?_, by simp, .v (.int k), .v (.int (mixV v k)), ?_⟩
    · intro p h
      rcases List.mem_append.mp h with h | h
      · exact hm p h
      · rw [List.mem_singleton.mp h]; exact List.getElem_mem hk
    · rw [List.length_map] at e7
      rw [List.map_append]
      simp [bodyF, b_clashes_1, natI, e1, e2, e3, e4, e5, c, e6, e7]
  · refine ⟨acc, hm, by omega, .v (.int k), .v (.int (mixV v k)), ?_⟩
    simp [bodyF, b_clashes_1, natI, e1, e2, e3, e4, e5, c]
theorem clash_loop (n : Nat) (cells : List Int) (hc : cells.length ≤ 63) (many share : Int) (ps : List (Nat × Nat)) (hp : ps.length < 500) : ∀ (ks : List Nat), (∀ k ∈ ks, k < ps.length) → ∀ (acc : List (Nat × Nat)) (x y : Sl), acc.length + ks.length < 1000 → (∀ p ∈ acc, p ∈ ps) →
    ∃ acc' : List (Nat × Nat), (∀ p ∈ acc', p ∈ ps) ∧ acc'.length ≤ acc.length + ks.length ∧ ∃ x' y', forL (bodyF T (callF T dfs (n + 1)) (.one 5) b_clashes_1) (ks.map natI) [.v (.lst (cells.map D.int)), .v (.int many), .v (.int share), .v (.lst (ps.map pairD)), .o (.lst (acc.map pairD)), x, y] =
      .ok (.nx [.v (.lst (cells.map D.int)), .v (.int many), .v (.int share), .v (.lst (ps.map pairD)), .o (.lst (acc'.map pairD)), x', y'])
  | [], _, acc, x, y, _, hm => ⟨acc, hm, by simp, x, y, rfl⟩
  | k :: ks, hk, acc, x, y, ha, hm => by
    rw [List.length_cons] at ha
    obtain ⟨a1, h1, h2, x1, y1, e1⟩ := clash_body n cells hc many share ps k (hk k List.mem_cons_self) (by omega) acc (by omega) hm x y
    obtain ⟨a2, h3, h4, x2, y2, e2⟩ := clash_loop n cells hc many share ps hp ks (fun k' h' => hk k' (List.mem_cons_of_mem _ h')) a1 x1 y1 (by omega) h1
    exact ⟨a2, h3, by rw [List.length_cons]; omega, x2, y2, by rw [List.map_cons, forL_nx e1, e2]⟩
theorem pairs_in {many : Nat} {p : Nat × Nat} (h : p ∈ pairsOf many) : p.1 < p.2 ∧ p.2 < many := by
  unfold pairsOf at h
  have := pairsTo_mem h
  omega
theorem law_clashes (n : Nat) (cells : List Int) (hc : cells.length ≤ 63) (many : Nat) (hm : many ≤ 8) (share : Int) :
    ∃ ps : List (Nat × Nat), (∀ p ∈ ps, p.1 < p.2 ∧ p.2 < many) ∧ ps.length ≤ 64 ∧ callF T dfs (n + 2) 6 [.lst (cells.map D.int), .int many, .int share] = .ok (.lst (ps.map pairD)) := by
  have hb := ten_big
  have e1 := law_pairs n many hm
  have hl : (pairsOf many).length ≤ 64 := by
    have h2 := pairsTo_length many many
    have h3 : many * many ≤ 8 * 8 := Nat.mul_le_mul hm hm
    unfold pairsOf
    omega
  have hin : ∀ p ∈ pairsOf many, p.1 < p.2 ∧ p.2 < many := fun p h => pairs_in h
  generalize pairsOf many = ps at *
  have rg := rng_nat (n := ps.length) (by omega)
  obtain ⟨acc, h1, h2, x, y, e2⟩ := clash_loop n cells hc many share ps (by omega) (List.range ps.length) (by simp) [] .no .no (by simp; omega) (by simp)
  rw [List.map_nil] at e2
  rw [List.length_range] at h2
  by_cases c : share % 2 = 1
  · refine ⟨acc.reverse, fun p h => hin p (h1 p (List.mem_reverse.mp h)), by simp at h2 ⊢; omega, callF_rt (k := true) rfl rfl rfl ?_⟩
    simp [b_law_clashes, e1, rg, e2, c]
  · refine ⟨acc, fun p h => hin p (h1 p h), by simp at h2; omega, callF_rt (k := true) rfl rfl rfl ?_⟩
    simp [b_law_clashes, e1, rg, e2, c]
theorem g_at {g : List Nat} {i : Nat} (h : i < g.length) : D.ix (.lst (g.map natI)) (.int i) = .ok (.int (g.getD i 0 : Nat)) := ix_l (by rw [List.getElem?_map, List.getElem?_eq_getElem h, List.getD_eq_getElem?_getD, List.getElem?_eq_getElem h]; rfl)
theorem notin_pairD (p : Nat × Nat) (ps : List (Nat × Nat)) : D.cmp .NotIn (pairD p) (.lst (ps.map pairD)) = .ok (.bl (!decide (p ∈ ps))) := by
  show (do let k ← when (D.pls 30 (ps.map pairD) && D.pl 29 (pairD p)) (.ok (D.mem (pairD p) (ps.map pairD))); .ok (D.bl (!k))) = _
  rw [pls_map pairD 29 (pairD_pl 28), pairD_pl 28, mem_pairD]; rfl
theorem may_join (n : Nat) (ps : List (Nat × Nat)) (g : List Nat) (hg : g.length ≤ 20) (x : Nat) : callF T dfs (n + 1) 0 [.lst (ps.map pairD), .lst (g.map natI), .int x] = .ok (.bl (joinB ps g x)) := by
  have hb := ten_big
  have rg := rng_nat (n := g.length) (by omega)
  have c : compL (compF T (callF T dfs n) 1 [0, 3, 2, 1] (.one 0) e_may_join_2 c_may_join_1 [.v (.lst (ps.map pairD)), .v (.lst (g.map natI)), .v (.int x), .v (.int g.length)]) ((List.range g.length).map natI) =
      .ok (((List.range g.length).filter fun i => g.getD i 0 == x).map fun i => D.bl (!decide ((i, g.length) ∈ ps))) := by
    rw [compL_enc natI (fun i => if (g.getD i 0 == x) = true then some (D.bl (!decide ((i, g.length) ∈ ps))) else none) (by
      intro i hi
      have hi : i < g.length := by simpa using hi
      have e1 := g_at hi
      have e2 := notin_pairD (i, g.length) ps
      unfold pairD at e2
      dsimp only at e2
      have eqi : (((g.getD i 0 : Nat) : Int) == (x : Int)) = (g.getD i 0 == x) := by
        by_cases h : g.getD i 0 = x
        · rw [h]; simp
        · rw [show (g.getD i 0 == x) = false from beq_eq_false_iff_ne.mpr h]; exact beq_eq_false_iff_ne.mpr (by omega)
      generalize g.getD i 0 = z at *
      generalize (!decide ((i, g.length) ∈ ps)) = w at *
      generalize g.length = m at *
      unfold pairD
      cases q : (z == x) with
      | true => rw [q] at eqi; simp only [if_true]; simp [compF, Tr.compEnv, natI, c_may_join_1, e_may_join_2, e1, e2, eqi]
      | false => rw [q] at eqi; simp [compF, Tr.compEnv, natI, c_may_join_1, e_may_join_2, e1, eqi])]
    refine congrArg Res.ok ?_
    generalize List.range g.length = l
    induction l with
    | nil => rfl
    | cons i r ih =>
      rw [List.filterMap_cons, List.filter_cons]
      cases q : (g.getD i 0 == x) with
      | true => rw [if_pos rfl, if_pos rfl]; dsimp only; rw [ih]; rfl
      | false => rw [if_neg Bool.false_ne_true, if_neg Bool.false_ne_true]; exact ih
  have bl := blsOf_map (fun i => !decide ((i, g.length) ∈ ps)) ((List.range g.length).filter fun i => g.getD i 0 == x)
  have al : (((List.range g.length).filter fun i => g.getD i 0 == x).map fun i => !decide ((i, g.length) ∈ ps)).all id = joinB ps g x := by
    unfold joinB
    rw [List.all_map, List.all_filter]
    congr 1
  have l1 : g.length ≤ big := by omega
  refine callF_rt (k := false) rfl rfl rfl ?_
  generalize ((List.range g.length).filter fun i => g.getD i 0 == x) = F at *
  generalize joinB ps g x = J at *
  generalize F.map (fun i => D.bl (!decide ((i, g.length) ∈ ps))) = FD at *
  generalize F.map (fun i => !decide ((i, g.length) ∈ ps)) = FB at *
  simp [b_may_join, rg, c, l1, bl, al]
def optG : Option (List Nat) → D
  | none => .non
  | some g => .lst (g.map natI)
theorem groups_within (n : Nat) (ps : List (Nat × Nat)) (many k : Nat) (hm : many ≤ 10) (hk : k ≤ 20) : ∀ (r : Nat) (g : List Nat), g.length + r = many → callF T dfs (n + r + 2) 1 [.int many, .lst (ps.map pairD), .int k, .lst (g.map natI)] = .ok (optG (gw ps k r g))
  | 0, g, hl => by
    have h : g.length = many := by omega
    refine callF_rt (k := false) rfl rfl rfl ?_
    simp [b_groups_within, h, gw, optG]
  | r + 1, g, hl => by
    have hne : ¬ (g.length : Int) = (many : Int) := by omega
    have hb := ten_big
    have mx := maxD_used g
    have l1 : g.length ≤ big := by omega
    have mn : Bt.run .min [.int ((usedV g : Int) + 1), .int (k : Int)] = .ok (.int ((min (usedV g + 1) k : Nat) : Int)) := by
      show Res.ok (D.int (if (k : Int) < (usedV g : Int) + 1 then (k : Int) else (usedV g : Int) + 1)) = _
      congr 2
      split <;> omega
    have rg := rng_nat (n := min (usedV g + 1) k) (by omega)
    have loop := forL_findN (f := bodyF T (callF T dfs (n + r + 2)) (.one 5) b_groups_within_1) (fun e => ∃ x5 x6, e = [.v (.int many), .v (.lst (ps.map pairD)), .v (.int k), .v (.lst (g.map natI)), .v (.int (usedV g : Int)), x5, x6])
      (fun x => (if joinB ps g x = true then gw ps k r (g ++ [x]) else none).map fun h => (D.lst (h.map natI), false)) (List.range (min (usedV g + 1) k)) [.v (.int many), .v (.lst (ps.map pairD)), .v (.int k), .v (.lst (g.map natI)), .v (.int (usedV g : Int)), .no, .no] ⟨.no, .no, rfl⟩ (by
        rintro x hx e ⟨x5, x6, rfl⟩
        have e1 := may_join (n + r + 1) ps g (by omega) x
        have e2 := groups_within n ps many k hm hk r (g ++ [x]) (by simp; omega)
        have ad : D.bin .Add (.lst (g.map natI)) (.lst [.int (x : Int)]) = .ok (.lst ((g ++ [x]).map natI)) := by
          rw [add_lsts (by simp; omega), List.map_append]; rfl
        cases j : joinB ps g x with
        | false =>
          rw [j] at e1
          rw [if_neg Bool.false_ne_true]
          exact ⟨[.v (.int many), .v (.lst (ps.map pairD)), .v (.int k), .v (.lst (g.map natI)), .v (.int (usedV g : Int)), .v (.int x), x6], .inl (by simp [bodyF, b_groups_within_1, natI, e1]), .v (.int x), x6, rfl⟩
        | true =>
          rw [j] at e1
          rw [if_pos rfl]
          generalize (g ++ [x]).map natI = gx at *
          cases q : gw ps k r (g ++ [x]) with
          | none =>
            rw [q] at e2
            exact ⟨[.v (.int many), .v (.lst (ps.map pairD)), .v (.int k), .v (.lst (g.map natI)), .v (.int (usedV g : Int)), .v (.int x), .v .non], .inl (by simp [bodyF, b_groups_within_1, natI, e1, ad, e2, optG]), .v (.int x), .v .non, rfl⟩
          | some h =>
            rw [q] at e2
            have nn : (D.lst (h.map natI)).isNon = false := rfl
            simp only [optG] at e2
            simp [bodyF, b_groups_within_1, natI, e1, ad, e2, nn])
    rw [findSome_omap] at loop
    rw [gw]
    refine callF_rt (k := false) rfl rfl rfl ?_
    have ng : (usedV g : Int) - 1 + 1 = (usedV g : Int) := by omega
    have nf : n + (r + 1) + 1 = n + r + 2 := by omega
    rw [nf]
    cases hf : (List.range (min (usedV g + 1) k)).findSome? (fun x => if joinB ps g x = true then gw ps k r (g ++ [x]) else none) with
    | some h =>
      rw [hf] at loop
      dsimp only [Option.map_some] at loop
      simp [b_groups_within, hne, mx, mn, rg, optG, ng, l1]
      rw [loop]; rfl
    | none =>
      rw [hf] at loop
      obtain ⟨e', h1, x5, x6, rfl⟩ := loop
      simp [b_groups_within, hne, mx, mn, rg, h1, optG, ng, l1]
theorem least_of (P : Nat → Bool) : ∀ m : Nat, P m = true → ∃ K, K ≤ m ∧ P K = true ∧ ∀ k, k < K → P k = false
  | 0, h => ⟨0, Nat.le_refl _, h, fun k hk => absurd hk (by omega)⟩
  | m + 1, h => by
    by_cases c : ∃ k, k < m + 1 ∧ P k = true
    · obtain ⟨k, hk, hp⟩ := c
      have : ∀ a : Nat, a ≤ m → P a = true → ∃ K, K ≤ m ∧ P K = true ∧ ∀ k, k < K → P k = false := by
        intro a
        induction a using Nat.strongRecOn with
        | _ a ih =>
          intro ha pa
          by_cases q : ∃ b, b < a ∧ P b = true
          · obtain ⟨b, hb, pb⟩ := q
            exact ih b hb (by omega) pb
          · refine ⟨a, ha, pa, fun k hk => ?_⟩
            cases z : P k with
            | false => rfl
            | true => exact absurd ⟨k, hk, z⟩ q
      obtain ⟨K, h1, h2, h3⟩ := this k (by omega) hp
      exact ⟨K, by omega, h2, h3⟩
    · refine ⟨m + 1, Nat.le_refl _, h, fun k hk => ?_⟩
      cases z : P k with
      | false => rfl
      | true => exact absurd ⟨k, hk, z⟩ c
theorem fewest_of (n : Nat) (ps : List (Nat × Nat)) (many : Nat) (hm : many ≤ 10) (hp : ∀ p ∈ ps, p.1 < p.2 ∧ p.2 < many) : ∃ (k : Nat) (g : List Nat), Chi many ps k ∧ k ≤ many ∧ gw ps k many [] = some g ∧ callF T dfs (n + many + 3) 2 [.int many, .lst (ps.map pairD)] = .ok (.tup [.int k, .lst (g.map natI)]) := by
  obtain ⟨K, h1, h2, h3⟩ := least_of (fun k => (gw ps k many []).isSome) many ((col_gw hp).mpr (col_many hp))
  obtain ⟨g, hg⟩ := Option.isSome_iff_exists.mp h2
  refine ⟨K, g, ⟨(col_gw hp).mp h2, fun k hk c => ?_⟩, h1, hg, ?_⟩
  · have := h3 k hk
    rw [(col_gw hp).mpr c] at this
    cases this
  have gwn := fun (k : Nat) (hk : k ≤ 20) => groups_within n ps many k hm hk many [] (by simp)
  rw [List.map_nil] at gwn
  have g0 := gwn 0 (by omega)
  rw [show ((0 : Nat) : Int) = 0 from rfl] at g0
  obtain ⟨e', w1, w2⟩ := whileL_inv (c := testF T (callF T dfs (n + many + 2)) c_fewest_of_1) (f := exS T (callF T dfs (n + many + 2)) b_fewest_of_2)
    (fun j e => ∃ k : Nat, k + j = K ∧ e = [.v (.int many), .v (.lst (ps.map pairD)), .v (.int k), .v (optG (gw ps k many []))])
    (by
      rintro j e ⟨k, hk, rfl⟩
      have no : gw ps k many [] = none := by
        have := h3 k (by omega)
        cases q : gw ps k many [] with
        | none => rfl
        | some x => rw [q] at this; cases this
      have nx := gwn (k + 1) (by omega)
      rw [show ((k + 1 : Nat) : Int) = (k : Int) + 1 by omega] at nx
      rw [no]
      refine ⟨by simp [testF, c_fewest_of_1, optG], [.v (.int many), .v (.lst (ps.map pairD)), .v (.int ((k : Int) + 1)), .v (optG (gw ps (k + 1) many []))], ?_, k + 1, by omega, ?_⟩
      · simp [b_fewest_of_2, nx]
      · rw [show ((k + 1 : Nat) : Int) = (k : Int) + 1 by omega])
    (by
      rintro e ⟨k, hk, rfl⟩
      have : k = K := by omega
      subst this
      rw [hg]
      have nn : (D.lst (g.map natI)).isNon = false := rfl
      simp [testF, c_fewest_of_1, optG, nn]) K 1000 [.v (.int many), .v (.lst (ps.map pairD)), .v (.int 0), .v (optG (gw ps 0 many []))] ⟨0, by omega, rfl⟩ (by omega)
  obtain ⟨k, hk, rfl⟩ := w2
  have : k = K := by omega
  subst this
  rw [hg] at w1
  refine callF_rt (k := false) rfl rfl rfl ?_
  rw [show optG (some g) = .lst (g.map natI) from rfl] at w1
  simp [b_fewest_of, g0]
  rw [w1]
  simp
theorem run_min2 (a b : Nat) : Bt.run .min [.lst [.int (a : Int), .int (b : Int)]] = .ok (.int ((min a b : Nat) : Int)) := by
  show Res.ok (D.int (if (b : Int) < (a : Int) then (b : Int) else (a : Int))) = _
  congr 2
  split <;> omega
theorem run_max2 (a b : Nat) : Bt.run .max [.lst [.int (a : Int), .int (b : Int)]] = .ok (.int ((max a b : Nat) : Int)) := by
  show Res.ok (D.int (if (b : Int) > (a : Int) then (b : Int) else (a : Int))) = _
  congr 2
  split <;> omega
theorem one_in (n : Nat) (x0 x3 x4 : Sl) (i j v : Nat) (hij : i < j) (acc : List D) (ha : acc.length < 1000) (x6 : Sl) : ∃ x6', bodyF T (callF T dfs n) (.one 6) b_one_1 (.int v) [x0, .v (.int i), .v (.int j), x3, x4, .o (.lst acc), x6] = .ok (.nx [x0, .v (.int i), .v (.int j), x3, x4, .o (.lst (acc ++ [.int (oneF i j v : Nat)])), x6']) := by
  have hb := ten_big
  have l2 : acc.length < big := by omega
  by_cases c : v = j
  · subst c
    refine ⟨.v (.int i), ?_⟩
    have q : ((v : Int) == (v : Int)) = true := by simp
    have i1 : D.ix (.lst [.int (v : Int), .int (i : Int)]) (.int 1) = .ok (.int (i : Int)) := rfl
    have q2 : decide ((v : Int) < (i : Int)) = false := by simp; omega
    have fin : (oneF i v v : Nat) = i := by unfold oneF; rw [if_pos rfl, if_neg (by omega)]; rfl
    rw [fin]
    simp [bodyF, b_one_1, q, i1, q2, b2z, l2]
    split <;> omega
  · refine ⟨.v (.int v), ?_⟩
    have q : ((v : Int) == (j : Int)) = false := beq_eq_false_iff_ne.mpr (by omega)
    have i1 : D.ix (.lst [.int (v : Int), .int (i : Int)]) (.int 0) = .ok (.int (v : Int)) := rfl
    by_cases d : j < v
    · have q2 : decide ((j : Int) < (v : Int)) = true := by simp; omega
      have fin : ((oneF i j v : Nat) : Int) = (v : Int) - 1 := by unfold oneF; rw [if_neg c, if_pos d]; omega
      rw [fin]
      simp [bodyF, b_one_1, q, i1, q2, b2z, l2]
      exact d
    · have q2 : decide ((j : Int) < (v : Int)) = false := by simp; omega
      have fin : ((oneF i j v : Nat) : Int) = (v : Int) := by unfold oneF; rw [if_neg c, if_neg d]; omega
      rw [fin]
      simp [bodyF, b_one_1, q, i1, q2, b2z, l2]
      split <;> omega
theorem one_out (n : Nat) (x0 : Sl) (i j : Nat) (hij : i < j) (p : Nat × Nat) (acc : List (Nat × Nat)) (ha : acc.length < 1000) (x4 x5 x6 : Sl) : ∃ a2 : List (Nat × Nat), (∀ q, q ∈ a2 ↔ q ∈ acc ∨ q = mmV i j p) ∧ a2.length ≤ acc.length + 1 ∧ ∃ y4 y5 y6, bodyF T (callF T dfs n) (.one 4) b_one_2 (pairD p) [x0, .v (.int i), .v (.int j), .o (.lst (acc.map pairD)), x4, x5, x6] = .ok (.nx [x0, .v (.int i), .v (.int j), .o (.lst (a2.map pairD)), y4, y5, y6]) := by
  have hb := ten_big
  obtain ⟨z1, e1⟩ := one_in n x0 (.o (.lst (acc.map pairD))) (.v (pairD p)) i j p.1 hij [] (by simp) x6
  obtain ⟨z2, e2⟩ := one_in n x0 (.o (.lst (acc.map pairD))) (.v (pairD p)) i j p.2 hij [.int (oneF i j p.1 : Nat)] (by simp) z1
  have lp : forL (bodyF T (callF T dfs n) (.one 6) b_one_1) [.int (p.1 : Int), .int (p.2 : Int)] [x0, .v (.int i), .v (.int j), .o (.lst (acc.map pairD)), .v (pairD p), .o (.lst []), x6] = .ok (.nx [x0, .v (.int i), .v (.int j), .o (.lst (acc.map pairD)), .v (pairD p), .o (.lst [.int (oneF i j p.1 : Nat), .int (oneF i j p.2 : Nat)]), z2]) := by
    rw [forL_nx e1, List.nil_append, forL_nx e2]; rfl
  have e3 := run_min2 (oneF i j p.1) (oneF i j p.2)
  have e4 := run_max2 (oneF i j p.1) (oneF i j p.2)
  have e5 := notin_pairD (mmV i j p) acc
  have ps : D.items (pairD p) = .ok [.int (p.1 : Int), .int (p.2 : Int)] := rfl
  have mp : pairD (mmV i j p) = .tup [.int ((min (oneF i j p.1) (oneF i j p.2) : Nat) : Int), .int ((max (oneF i j p.1) (oneF i j p.2) : Nat) : Int)] := rfl
  have l2 : acc.length < big := by omega
  by_cases c : mmV i j p ∈ acc
  · refine ⟨acc, fun q => ⟨.inl, fun h => h.elim id fun e => e ▸ c⟩, by omega, .v (pairD p), .v (pairD (mmV i j p)), z2, ?_⟩
    rw [decide_eq_true c] at e5
    rw [mp] at e5 ⊢
    generalize (min (oneF i j p.1) (oneF i j p.2) : Nat) = mn at *
    generalize (max (oneF i j p.1) (oneF i j p.2) : Nat) = mx at *
    generalize oneF i j p.1 = u1 at *
    generalize oneF i j p.2 = u2 at *
    generalize pairD p = pd at *
    simp [bodyF, b_one_2, ps, lp, e3, e4, e5]
  · refine ⟨acc ++ [mmV i j p], fun q => by simp, by simp, .v (pairD p), .v (pairD (mmV i j p)), z2, ?_⟩
    rw [decide_eq_false c] at e5
    rw [List.map_append, List.map_singleton]
    rw [mp] at e5 ⊢
    generalize (min (oneF i j p.1) (oneF i j p.2) : Nat) = mn at *
    generalize (max (oneF i j p.1) (oneF i j p.2) : Nat) = mx at *
    generalize oneF i j p.1 = u1 at *
    generalize oneF i j p.2 = u2 at *
    generalize pairD p = pd at *
    simp [bodyF, b_one_2, ps, lp, e3, e4, e5, l2]
theorem one_loop (n : Nat) (x0 : Sl) (i j : Nat) (hij : i < j) : ∀ (ps acc : List (Nat × Nat)), acc.length + ps.length < 1000 → ∀ x4 x5 x6 : Sl, ∃ a2 : List (Nat × Nat), (∀ q, q ∈ a2 ↔ q ∈ acc ∨ ∃ p ∈ ps, q = mmV i j p) ∧ ∃ y4 y5 y6, forL (bodyF T (callF T dfs n) (.one 4) b_one_2) (ps.map pairD) [x0, .v (.int i), .v (.int j), .o (.lst (acc.map pairD)), x4, x5, x6] = .ok (.nx [x0, .v (.int i), .v (.int j), .o (.lst (a2.map pairD)), y4, y5, y6])
  | [], acc, _, x4, x5, x6 => ⟨acc, by simp, x4, x5, x6, rfl⟩
  | p :: r, acc, hl, x4, x5, x6 => by
    rw [List.length_cons] at hl
    obtain ⟨a1, m1, l1, y4, y5, y6, e1⟩ := one_out n x0 i j hij p acc (by omega) x4 x5 x6
    obtain ⟨a2, m2, z4, z5, z6, e2⟩ := one_loop n x0 i j hij r a1 (by omega) y4 y5 y6
    refine ⟨a2, fun q => ?_, z4, z5, z6, by rw [List.map_cons, forL_nx e1, e2]⟩
    rw [m2, m1]
    constructor
    · rintro ((h | h) | ⟨p', h, e⟩)
      · exact .inl h
      · exact .inr ⟨p, List.mem_cons_self, h⟩
      · exact .inr ⟨p', List.mem_cons_of_mem _ h, e⟩
    · rintro (h | ⟨p', h, e⟩)
      · exact .inl (.inl h)
      · rcases List.mem_cons.mp h with rfl | h
        · exact .inl (.inr e)
        · exact .inr ⟨p', h, e⟩
theorem law_one (n : Nat) (ps : List (Nat × Nat)) (hl : ps.length < 1000) (i j : Nat) (hij : i < j) : ∃ qs : List (Nat × Nat), (∀ q, q ∈ qs ↔ ∃ p ∈ ps, q = mmV i j p) ∧ callF T dfs (n + 1) 7 [.lst (ps.map pairD), .int i, .int j] = .ok (.lst (qs.map pairD)) := by
  obtain ⟨qs, m, y4, y5, y6, e⟩ := one_loop n (.v (.lst (ps.map pairD))) i j hij ps [] (by simpa using hl) .no .no .no
  refine ⟨qs, fun q => by rw [m]; simp, callF_rt (k := true) rfl rfl rfl ?_⟩
  rw [List.map_nil] at e
  simp [b_law_one, e]
theorem pairD_app (ps : List (Nat × Nat)) (hl : ps.length < 500) (qs : List (Nat × Nat)) (hq : qs.length < 500) : D.bin .Add (.lst (ps.map pairD)) (.lst (qs.map pairD)) = .ok (.lst ((ps ++ qs).map pairD)) := by
  have hb := ten_big
  rw [add_lsts (by simp; omega), List.map_append]
theorem one_ne {i j : Nat} {p : Nat × Nat} (hij : i < j) (hp : p.1 < p.2) (hn : p ≠ (i, j)) : oneF i j p.1 ≠ oneF i j p.2 := by
  obtain ⟨a, b⟩ := p
  have hn : ¬ (a = i ∧ b = j) := fun h => hn (by rw [h.1, h.2])
  dsimp only at hp ⊢
  unfold oneF
  repeat' split
  all_goals omega
theorem law_true (ns : List Int) (hn : ns.length ≤ 63) : callF T dfs 40 8 [.lst (ns.map D.int)] = .ok (.bl true) := by
  have hb := ten_big
  have e1 := cell_at 38 ns 0
  rw [show ((0 : Nat) : Int) = 0 from rfl] at e1
  have e2 := cell_at 38 ns 1
  rw [show ((1 : Nat) : Int) = 1 from rfl] at e2
  have e3 := cell_at 38 ns 2
  rw [show ((2 : Nat) : Int) = 2 from rfl] at e3
  obtain ⟨many, hm⟩ : ∃ many : Nat, 2 + cellV ns 0 % 6 = many := ⟨(2 + cellV ns 0 % 6).toNat, by omega⟩
  have hm8 : many ≤ 7 := by omega
  have hm2 : 2 ≤ many := by omega
  have hcut : cut (ns.map D.int) (some 3) (some 24) = (cut ns (some 3) (some 24)).map D.int := by
    unfold cut
    rw [List.map_take, List.map_drop, List.length_map]
  have hcl : (cut ns (some 3) (some 24)).length ≤ 63 := by
    unfold cut
    rw [List.length_take, List.length_drop]; omega
  obtain ⟨ps, hp, hpl, e4⟩ := law_clashes 37 (cut ns (some 3) (some 24)) hcl many (by omega) (cellV ns 1 % 13)
  generalize cut ns (some 3) (some 24) = cells at *
  obtain ⟨k, g, hk, hk1, _, f1⟩ := fewest_of (36 - many) ps many (by omega) hp
  rw [show 36 - many + many + 3 = 39 by omega] at f1
  obtain ⟨j, hj⟩ : ∃ j : Nat, 1 + cellV ns 2 % ((many : Int) - 1) = j := ⟨(1 + cellV ns 2 % ((many : Int) - 1)).toNat, by
    have := Int.emod_nonneg (cellV ns 2) (show ((many : Int) - 1) ≠ 0 by omega); omega⟩
  have hj1 : 1 ≤ j := by have := Int.emod_nonneg (cellV ns 2) (show ((many : Int) - 1) ≠ 0 by omega); omega
  have hj2 : j < many := by have := Int.emod_lt_of_pos (cellV ns 2) (show (0 : Int) < (many : Int) - 1 by omega); omega
  obtain ⟨i, hi⟩ : ∃ i : Nat, cellV ns 2 / 7 % (j : Int) = i := ⟨(cellV ns 2 / 7 % (j : Int)).toNat, by
    have := Int.emod_nonneg (cellV ns 2 / 7) (show (j : Int) ≠ 0 by omega); omega⟩
  have hij : i < j := by have := Int.emod_lt_of_pos (cellV ns 2 / 7) (show (0 : Int) < (j : Int) by omega); omega
  have m1 : D.bin .Mod (.int (cellV ns 2)) (.int ((many : Int) - 1)) = .ok (.int (cellV ns 2 % ((many : Int) - 1))) := bin_mod (by omega)
  have m2 : D.bin .Mod (.int (cellV ns 2 / 7)) (.int (j : Int)) = .ok (.int (i : Int)) := by rw [bin_mod (by omega), hi]
  have e5 := notin_pairD (i, j) ps
  obtain ⟨k3, g3, hk3, _, _, f3⟩ := fewest_of (35 - many) ps (many + 1) (by omega) (fun p h => by have := hp p h; omega)
  rw [show 35 - many + (many + 1) + 3 = 39 by omega, show ((many + 1 : Nat) : Int) = (many : Int) + 1 by omega] at f3
  have q3 : k3 = k := chi_eq hk3 hk fun q => col_more (by omega) hp q
  subst q3
  obtain ⟨k4, g4, hk4, _, _, f4⟩ := fewest_of (35 - many) (ps ++ (List.range many).map fun v => (v, many)) (many + 1) (by omega) (fun p h => by
    rcases List.mem_append.mp h with h | h
    · have := hp p h; omega
    · obtain ⟨v, hv, rfl⟩ := List.mem_map.mp h
      have : v < many := by simpa using hv
      exact ⟨this, by show many < many + 1; omega⟩)
  rw [show 35 - many + (many + 1) + 3 = 39 by omega, show ((many + 1 : Nat) : Int) = (many : Int) + 1 by omega] at f4
  have q4 : k4 = k3 + 1 := by
    have up : Chi (many + 1) (ps ++ (List.range many).map fun v => (v, many)) (k3 + 1) := by
      refine ⟨(col_all hp k3).mpr hk.1, fun k' hk' c => ?_⟩
      cases k' with
      | zero =>
        obtain ⟨f, _, h⟩ := c
        exact absurd (h 0 (by omega)) (by omega)
      | succ k' => exact hk.2 k' (by omega) ((col_all hp k').mp c)
    exact chi_eq hk4 up fun q => Iff.rfl
  subst q4
  have cp : ∀ e3 e4 e5 e6 e7 e8 : Sl, compL (compF T (callF T dfs 39) 1 [1] (.one 0) e_law_1 (.con (.bl true)) [.v (.lst (ns.map D.int)), .v (.int many), .v (.lst (ps.map pairD)), e3, e4, e5, e6, e7, e8]) ((List.range many).map natI) = .ok (((List.range many).map fun v => (v, many)).map pairD) := by
    intro e3 e4 e5 e6 e7 e8
    rw [compL_enc natI (fun v => some (pairD (v, many))) (by
      intro v hv
      simp [compF, Tr.compEnv, natI, e_law_1, pairD])]
    rw [List.map_map, List.filterMap_eq_map']
    rfl
  have ad4 := pairD_app ps (by omega) ((List.range many).map fun v => (v, many)) (by simp; omega)
  have rg := rng_nat (n := many) (by omega)
  have lb : many ≤ big := by omega
  have tx : ∀ (a : Nat) (b : D), D.ix (.tup [.int (a : Int), b]) (.int 0) = .ok (.int (a : Int)) := fun _ _ => rfl
  have ne1 : ((k3 : Int) != (k3 : Int)) = false := by simp
  generalize ((ps ++ (List.range many).map fun v => (v, many)).map pairD) = PA at *
  generalize (((List.range many).map fun v => (v, many)).map pairD) = PB at *
  refine callF_rt (k := false) rfl rfl rfl ?_
  unfold b_law
  rw [show pairD (i, j) = .tup [.int (i : Int), .int (j : Int)] from rfl] at e5
  by_cases c : (i, j) ∈ ps
  · rw [decide_eq_true c] at e5
    generalize ps.map pairD = PS at *
    simp [e1, e2, e3, hm, hcut, e4, f1, tx, hj, m1, m2, e5, f3, cp, ad4, rg, f4, lb]
  · rw [decide_eq_false c] at e5
    obtain ⟨qs, hq, e6⟩ := law_one 38 ps (by omega) i j hij
    have hqs : ∀ q ∈ qs, q.1 < q.2 ∧ q.2 < many - 1 := by
      intro q hm
      obtain ⟨p, hpm, rfl⟩ := (hq q).mp hm
      have l := hp p hpm
      have ne := one_ne hij l.1 (fun z => c (z ▸ hpm))
      have a := oneF_lt hij hj2 (show p.1 < many by omega)
      have b := oneF_lt hij hj2 l.2
      unfold mmV
      dsimp only
      omega
    obtain ⟨k5, g5, hk5, _, _, f5⟩ := fewest_of (36 - many) (ps ++ [(i, j)]) many (by omega) (fun p h => by
      rcases List.mem_append.mp h with h | h
      · exact hp p h
      · rw [List.mem_singleton.mp h]; exact ⟨hij, hj2⟩)
    rw [show 36 - many + many + 3 = 39 by omega] at f5
    obtain ⟨k6, g6, hk6, _, _, f6⟩ := fewest_of (37 - many) qs (many - 1) (by omega) hqs
    rw [show 37 - many + (many - 1) + 3 = 39 by omega, show ((many - 1 : Nat) : Int) = (many : Int) - 1 by omega] at f6
    have ad5 := pairD_app ps (by omega) [(i, j)] (by simp)
    rw [show [(i, j)].map pairD = [.tup [.int (i : Int), .int (j : Int)]] from rfl] at ad5
    have sp := col_split hij hj2 hp c hq
    have q6 : k3 = min k5 k6 := by
      have up : Chi many ps (min k5 k6) := by
        refine ⟨(sp _).mpr ?_, fun k' hk' cc => ?_⟩
        · by_cases z : k5 ≤ k6
          · rw [Nat.min_eq_left z]; exact .inl hk5.1
          · rw [Nat.min_eq_right (by omega)]; exact .inr hk6.1
        · rcases (sp k').mp cc with cc | cc
          · exact hk5.2 k' (by omega) cc
          · exact hk6.2 k' (by omega) cc
      exact chi_eq hk up fun q => Iff.rfl
    have mn : Bt.run .min [.int (k5 : Int), .int (k6 : Int)] = .ok (.int (k3 : Int)) := by
      have z : (if (k6 : Int) < (k5 : Int) then (k6 : Int) else (k5 : Int)) = (k3 : Int) := by split <;> omega
      rw [← z]; rfl
    generalize ((ps ++ [(i, j)]).map pairD) = PC at *
    generalize ps.map pairD = PS at *
    simp [e1, e2, e3, hm, hcut, e4, f1, tx, hj, m1, m2, e5, f3, cp, ad4, rg, f4, lb, ad5, f5, e6, f6, mn]
end K34
namespace K34
open PySem L2 Tr
def top (i : Nat) : Stmt := PySem.Challenge.pw_troupe_k34_one_or_apart.main.body.getD i (.Pass ⟨0, 0, 0, 0⟩)
abbrev d_may_join : DefT := ⟨"may_join", top 1, ["clashes", "groups", "group", "part"], ["clashes", "groups", "group"], b_may_join⟩
abbrev d_groups_within : DefT := ⟨"groups_within", top 2, ["many", "clashes", "k", "groups", "used", "group", "found"], ["many", "clashes", "k", "groups"], b_groups_within⟩
abbrev d_fewest_of : DefT := ⟨"fewest_of", top 3, ["many", "clashes", "k", "groups"], ["many", "clashes"], b_fewest_of⟩
abbrev d_law_cell_at : DefT := ⟨"_law_cell_at", top 5, ["_law_script", "_law_k"], ["_law_script", "_law_k"], b_law_cell_at⟩
abbrev d_law_mixed : DefT := ⟨"_law_mixed", top 6, ["_law_cell", "_law_k"], ["_law_cell", "_law_k"], b_law_mixed⟩
abbrev d_law_pairs : DefT := ⟨"_law_pairs", top 7, ["_law_many", "_law_found", "_law_i"], ["_law_many"], b_law_pairs⟩
abbrev d_law_clashes : DefT := ⟨"_law_clashes", top 8, ["_law_cells", "_law_many", "_law_share", "_law_pairs_here", "_law_found", "_law_k", "_law_m"], ["_law_cells", "_law_many", "_law_share"], b_law_clashes⟩
abbrev d_law_one : DefT := ⟨"_law_one", top 9, ["_law_clashes_here", "_law_i", "_law_j", "_law_found", "_law_pair", "_law_ends", "_law_part"], ["_law_clashes_here", "_law_i", "_law_j"], b_law_one⟩
abbrev d_law : DefT := ⟨"law", top 10, ["_law_script", "_law_many", "_law_clashes_here", "_law_k", "_law_n", "_law_j", "_law_i", "_law_apart", "_law_one_here"], ["_law_script"], b_law⟩
def defs : List DefT := [d_may_join, d_groups_within, d_fewest_of, d_law_cell_at, d_law_mixed, d_law_pairs, d_law_clashes, d_law_one, d_law]
def Tx : Txt := ⟨[], ["may_join", "groups_within", "fewest_of", "_law_cell_at", "_law_mixed", "_law_pairs", "_law_clashes", "_law_one", "law"], [], []⟩
theorem okB : defs.all (·.okB Tx) = true := by decide +kernel
end K34
open PySem PySem.W PyProof.Rows
set_option maxRecDepth 100000 in
set_option maxHeartbeats 0 in
theorem PySem.Challenge.cw_troupe_k34_one_or_apart_holds : PySem.Challenge.rw_troupe_k34_one_or_apart.Holds := by
  w_on; o_law; k_head; (case hw => w_witness2)
  k_fill
  refine Tr.walkT (l := PySem.Challenge.rw_troupe_k34_one_or_apart) (T := K34.T) (Tx := K34.Tx) (defs := K34.defs) (i := 8) (n := 40) rfl rfl rfl rfl rfl ⟨rfl, by decide, by decide⟩ K34.law_true (fun w h Y => PySem.W.kIn_of Y) ?X (fun _ _ _ _ _ _ _ => rfl)
  case X =>
    intro w mg h KX G
    refine' ⟨rfl, K34.okB, (Tr.all_cons (Tr.fun_in KX G ?a0 ?l0 ?c0 ?k0 ?b0) (Tr.all_cons (Tr.fun_in KX G ?a1 ?l1 ?c1 ?k1 ?b1) (Tr.all_cons (Tr.fun_in KX G ?a2 ?l2 ?c2 ?k2 ?b2) (Tr.all_cons (Tr.fun_in KX G ?a3 ?l3 ?c3 ?k3 ?b3) (Tr.all_cons (Tr.fun_in KX G ?a4 ?l4 ?c4 ?k4 ?b4) (Tr.all_cons (Tr.fun_in KX G ?a5 ?l5 ?c5 ?k5 ?b5) (Tr.all_cons (Tr.fun_in KX G ?a6 ?l6 ?c6 ?k6 ?b6) (Tr.all_cons (Tr.fun_in KX G ?a7 ?l7 ?c7 ?k7 ?b7) (Tr.all_cons (Tr.fun_in KX G ?a8 ?l8 ?c8 ?k8 ?b8) Tr.all_nil))))))))), Tr.gl_nil, (Tr.all_cons (Tr.blt_none KX G ?z0) (Tr.all_cons (Tr.blt_none KX G ?z1) (Tr.all_cons (Tr.blt_none KX G ?z2) (Tr.all_cons (Tr.blt_none KX G ?z3) (Tr.all_cons (Tr.blt_none KX G ?z4) (Tr.all_cons (Tr.blt_none KX G ?z5) (Tr.all_cons (Tr.blt_none KX G ?z6) (Tr.all_cons (Tr.blt_none KX G ?z7) (Tr.all_cons (Tr.blt_none KX G ?z8) (Tr.all_cons (Tr.blt_none KX G ?z9) (Tr.all_cons (Tr.blt_none KX G ?z10) (Tr.all_cons (Tr.blt_none KX G ?z11) (Tr.all_cons (Tr.blt_none KX G ?z12) (Tr.all_cons (Tr.blt_none KX G ?z13) (Tr.all_cons (Tr.blt_none KX G ?z14) (Tr.all_cons (Tr.blt_none KX G ?z15) (Tr.all_cons (Tr.blt_none KX G ?z16) Tr.all_nil))))))))))))))))), Tr.all_nil, Tr.all_nil⟩
    (case a0 => k_is); (case l0 => k_is); (case c0 => k_is); (case k0 => k_is)
    (case b0 => exact fun _ _ _ _ _ _ us hl => match us, hl with | [_, _, _], _ => rfl)
    (case a1 => k_is); (case l1 => k_is); (case c1 => k_is); (case k1 => k_is)
    (case b1 => exact fun _ _ _ _ _ _ us hl => match us, hl with | [_, _, _, _], _ => rfl)
    (case a2 => k_is); (case l2 => k_is); (case c2 => k_is); (case k2 => k_is)
    (case b2 => exact fun _ _ _ _ _ _ us hl => match us, hl with | [_, _], _ => rfl)
    (case a3 => k_is); (case l3 => k_is); (case c3 => k_is); (case k3 => k_is)
    (case b3 => exact fun _ _ _ _ _ _ us hl => match us, hl with | [_, _], _ => rfl)
    (case a4 => k_is); (case l4 => k_is); (case c4 => k_is); (case k4 => k_is)
    (case b4 => exact fun _ _ _ _ _ _ us hl => match us, hl with | [_, _], _ => rfl)
    (case a5 => k_is); (case l5 => k_is); (case c5 => k_is); (case k5 => k_is)
    (case b5 => exact fun _ _ _ _ _ _ us hl => match us, hl with | [_], _ => rfl)
    (case a6 => k_is); (case l6 => k_is); (case c6 => k_is); (case k6 => k_is)
    (case b6 => exact fun _ _ _ _ _ _ us hl => match us, hl with | [_, _, _], _ => rfl)
    (case a7 => k_is); (case l7 => k_is); (case c7 => k_is); (case k7 => k_is)
    (case b7 => exact fun _ _ _ _ _ _ us hl => match us, hl with | [_, _, _], _ => rfl)
    (case a8 => k_is); (case l8 => k_is); (case c8 => k_is); (case k8 => k_is)
    (case b8 => exact fun _ _ _ _ _ _ us hl => match us, hl with | [_], _ => rfl)
    (case z0 => k_is)
    (case z1 => k_is)
    (case z2 => k_is)
    (case z3 => k_is)
    (case z4 => k_is)
    (case z5 => k_is)
    (case z6 => k_is)
    (case z7 => k_is)
    (case z8 => k_is)
    (case z9 => k_is)
    (case z10 => k_is)
    (case z11 => k_is)
    (case z12 => k_is)
    (case z13 => k_is)
    (case z14 => k_is)
    (case z15 => k_is)
    (case z16 => k_is)
