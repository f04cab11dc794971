import PyProof.Rows.All
import Wide.All
import OpenK.AllK
import Wide.FinOn
import Lean
import PyProof.EqAt
import PyProof.EqKinds
import PyProof.TupleCall
import PySem.Challenge.RW_waymark_k56_values_refused
set_option Elab.async false
set_option linter.all false
set_option maxRecDepth 100000
namespace L2
open PySem PySem.Spec PyProof.Rows
abbrev Key := Sum Int Str
def keyIs : Key → Value → Bool
 | .inl k, v => Value.isInt k v
 | .inr x, v => Value.isStrOf x v
def keyH (w : World) : Key → Int
 | .inl k => hashInt k
 | .inr x => hashStr w x
theorem aqK : ∀ {k : Key} {v : Value}, keyIs k v = true → (∃ i t, k = Sum.inl i ∧ v = Value.int i t) ∨ (∃ x t, k = Sum.inr x ∧ v = Value.str x t)
 | .inl i, v, h => by
  obtain ⟨t, e⟩ := Value.isInt_shape (k := i) (v := v) h
  exact .inl ⟨i, t, rfl, e⟩
 | .inr x, v, h => by
  obtain ⟨t, e⟩ := Value.isStrOf_shape (x := x) (v := v) h
  exact .inr ⟨x, t, rfl, e⟩
theorem qqb (a b : Int) : decide ((Sum.inl a : Key) = Sum.inl b) = (a == b) := by
 by_cases e : a = b
 ·subst e; simp
 ·have h : ¬ (Sum.inl a : Key) = Sum.inl b := fun q => e (Sum.inl.inj q)
  rw [decide_eq_false h]
  exact (beq_eq_false_iff_ne.mpr e).symm
theorem qqs (a b : Str) : decide ((Sum.inr a : Key) = Sum.inr b) = decide (a = b) := by
 by_cases e : a = b
 ·subst e; simp
 ·have h : ¬ (Sum.inr a : Key) = Sum.inr b := fun q => e (Sum.inr.inj q)
  rw [decide_eq_false h, decide_eq_false e]
theorem pqI (a : Int) (b : Str) : decide ((Sum.inl a : Key) = Sum.inr b) = false := decide_eq_false (fun q => nomatch q)
theorem pqR (a : Str) (b : Int) : decide ((Sum.inr a : Key) = Sum.inl b) = false := decide_eq_false (fun q => nomatch q)
def mixKind (prog : Program) (w : World) : PySem.KeyKind prog w Key where
 is := keyIs
 hash := keyH w
 inj := fun v a b ha hb => by
  rcases aqK ha with ⟨i, t, rfl, rfl⟩ | ⟨x, t, rfl, rfl⟩
  ·rcases aqK hb with ⟨j, u, rfl, e⟩ | ⟨y, u, rfl, e⟩
   ·injection e with e1 _; rw [e1]
   ·exact nomatch e
  ·rcases aqK hb with ⟨j, u, rfl, e⟩ | ⟨y, u, rfl, e⟩
   ·exact nomatch e
   ·injection e with e1 _; rw [e1]
 byValue := fun k v h => by
  rcases aqK h with ⟨i, t, rfl, rfl⟩ | ⟨x, t, rfl, rfl⟩ <;> rfl
 pyHash := fun hv h => by
  rcases aqK hv with ⟨i, t, rfl, rfl⟩ | ⟨x, t, rfl, rfl⟩
  ·exact wpAny_pyHash_int h
  ·exact wpAny_pyHash_str h
 eqBool := fun hu hv h => by
  rcases aqK hu with ⟨i, t, rfl, rfl⟩ | ⟨x, t, rfl, rfl⟩
  ·rcases aqK hv with ⟨j, u, rfl, rfl⟩ | ⟨y, u, rfl, rfl⟩
   ·rw [qqb] at h; exact wpAny_eqBool_int h
   ·rw [pqI] at h; exact SeqAt.EqAt.int_str i t y u _ _ _ _ h
  ·rcases aqK hv with ⟨j, u, rfl, rfl⟩ | ⟨y, u, rfl, rfl⟩
   ·rw [pqR] at h; exact SeqAt.EqAt.str_int x t j u _ _ _ _ h
   ·rw [qqs] at h; exact wpAny_eqBool_str h
 «strs» := fun k x t v h => by
  rcases aqK h with ⟨i, u, rfl, e⟩ | ⟨y, u, rfl, e⟩
  ·exact nomatch e
  ·injection e with e1 _
   subst e1
   cases v <;> rfl
inductive V where
 | non | bl (b : Bool) | int (i : Int) | str (x : Str) | byt (b : Array UInt8) | flt (b : UInt64) | ref (a : Addr) | ty (n : String)
 deriving DecidableEq
def RelV : V → Value → Prop
 | .non, u => u = Value.none
 | .bl b, u => u = Value.bool b
 | .int i, u => ∃ t, u = Value.int i t
 | .str x, u => ∃ t, u = Value.str x t
 | .byt b, u => ∃ t, u = Value.bytes b t
 | .flt b, u => ∃ t, u = Value.float b t
 | .ref a, u => u = Value.ref a
 | .ty n, u => u = Value.type n
abbrev Vals : List V → List Value → Prop := Paired RelV
theorem Vals.length {xs : List V} {us : List Value} (r : Vals xs us) : xs.length = us.length := Paired.length r
theorem Vals.get : ∀ {xs : List V} {us : List Value} {i : Nat} {x : V}, Vals xs us → xs[i]? = some x → ∃ u, us[i]? = some u ∧ RelV x u
 | _, _, _, _, .nil, e => by simp at e
 | _, _, 0, _, .cons r _, e => by simp at e; subst e; exact ⟨_, rfl, r⟩
 | _, _, i + 1, x, .cons _ t, e => by
  obtain ⟨u, h1, h2⟩ := Vals.get (i := i) (x := x) t (by simpa using e)
  exact ⟨u, by simpa using h1, h2⟩
theorem Vals.set {x : V} {u : Value} (r : RelV x u) : ∀ {xs : List V} {us : List Value} (i : Nat), Vals xs us → Vals (xs.set i x) (us.set i u)
 | _, _, _, .nil => .nil
 | _, _, 0, .cons _ t => .cons r t
 | _, _, i + 1, .cons q t => .cons q (Vals.set r i t)
theorem Vals.append : ∀ {xs ys : List V} {us ws : List Value}, Vals xs us → Vals ys ws → Vals (xs ++ ys) (us ++ ws)
 | _, _, _, _, .nil, s => s
 | _, _, _, _, .cons r t, s => .cons r (Vals.append t s)
theorem Vals.take : ∀ {xs : List V} {us : List Value} (n : Nat), Vals xs us → Vals (xs.take n) (us.take n)
 | _, _, 0, _ => .nil
 | _, _, _ + 1, .nil => .nil
 | _, _, n + 1, .cons r t => .cons r (Vals.take n t)
theorem Vals.drop : ∀ {xs : List V} {us : List Value} (n : Nat), Vals xs us → Vals (xs.drop n) (us.drop n)
 | _, _, 0, r => r
 | _, _, _ + 1, .nil => .nil
 | _, _, n + 1, .cons _ t => Vals.drop n t
def RelO : Option V → Option Value → Prop
 | some v, some u => RelV v u
 | none, none => True
 | _, _ => False
def KV {κ : Type} : List (κ × V) → List (κ × Value) → Prop := Paired fun (p : κ × V) (q : κ × Value) => p.1 = q.1 ∧ RelV p.2 q.2
def kV : Key → V
 | .inl i => .int i
 | .inr x => .str x
inductive HO where
 | lst (xs : List V)
 | tup (xs : List V)
 | dK (kvs : List (Key × V)) | dT (kvs : List (List Key × V))
 | set (S : Int → Bool) (n : Nat)
 | ins (C dx : Addr) (fs : List (Str × V))
 | own (x : Addr)
 | xd (fs : List (Str × V))
 | met (f x : Addr)
 | rng (lo hi : Int)
 | frz (o : Obj) (u : HO)
 | tbl (ps : Array Value)
 | ext (φ : Heap → Prop)
abbrev Hp := Addr → Option HO
def upd (H : Hp) (a : Addr) (o : HO) : Hp := fun b => if b = a then some o else H b
theorem aqk {H : Hp} {a : Addr} {o : HO} : upd H a o a = some o := by unfold upd; rw [if_pos rfl]
theorem aqj {H : Hp} {a b : Addr} {o : HO} (h : b ≠ a) : upd H a o b = H b := by unfold upd; rw [if_neg h]
theorem pqh {H : Hp} {a : Addr} {o u : HO} : upd (upd H a o) a u = upd H a u := by
 funext b; unfold upd; split <;> rfl
theorem qqT {H : Hp} {a b : Addr} {o u : HO} (h : H a = some o) (h' : H b = some u) (d : o ≠ u) : a ≠ b := by
 intro e; subst e; rw [h] at h'; exact d (Option.some.inj h')
theorem aqh {H : Hp} {a b : Addr} {o : HO} (h : H a = some o) (h' : H b = none) : a ≠ b := by
 intro e; subst e; rw [h] at h'; cases h'
section
variable (P : Program) (w : World)
def ObjOk (H : Hp) (h : Heap) (a : Addr) : HO → Prop
 | .lst xs => xs.length ≤ sizeLine ∧ ∃ (its : List Value) (n : Nat), Vals xs its ∧ h.get? a = some { cls := .type "list", data := .seq its.toArray n }
 | .tup xs => xs.length ≤ sizeLine ∧ ∃ its : List Value, Vals xs its ∧ IsTup h a its.toArray
 | .dK kvs => kvs.length ≤ sizeLine ∧ (a == sysModules) = false ∧ ∃ vs, KV kvs vs ∧ h.DictOf (mixKind P w) a vs
 | .dT kvs => kvs.length ≤ sizeLine ∧ (a == sysModules) = false ∧ ∃ xs : List (List Key × Addr × Value),
   Paired (fun (p : List Key × V) (q : List Key × Addr × Value) => p.1 = q.1 ∧ H q.2.1 = some (.tup (p.1.map kV)) ∧ RelV p.2 q.2.2) kvs xs ∧
   ∃ o es ep, h.get? a = some o ∧ o.ExactDict ∧ o.data = .dict es ep ∧ es.toList = xs.map (entryOfKey (tupleKind (mixKind P w))) ∧ (xs.map (·.1)).Nodup
 | .set S n => h.SetOf (intKind P w) a S n
 | .ins C dx fs => H dx = some (.own a) ∧ fs.length ≤ 1000 ∧ dx ≠ a ∧ h.get? a = some (PySem.W.instObj C dx) ∧
   ∃ mA, h.Ns1 dx mA ∧ (∀ f, RelO (fs.lookup f) (mA f)) ∧ PySem.Within mA (fs.map (·.1))
 | .own _ => ∃ o, h.get? a = some o
 | .xd fs => ∃ mA, h.Ns1 a mA ∧ ∀ f, RelO (fs.lookup f) (mA f)
 | .rng lo hi => ∃ t u v, h.get? a = some { cls := .type "range", data := .fields #[.int lo t, .int hi u, .int 1 v] }
 | .frz o u => h.get? a = some o ∧ ObjOk H h a u
 | .tbl ps => h.get? a = some { cls := .none, data := .fields ps }
 | .met f x => h.get? a = some (PySem.W.methodObj (.ref f) (.ref x))
 | .ext φ => φ h ∧ (∃ o, h.get? a = some o) ∧ ∀ h1 h2 : Heap, φ h1 → (∀ o, h1.get? a = some o → h2.get? a = some o) → φ h2
def HOk (H : Hp) (h : Heap) : Prop := ∀ a o, H a = some o → ObjOk P w H h a o
end
section
variable {P : Program} {w : World} {H H' : Hp} {h h' : Heap} {a : Addr} {o : HO}
theorem ObjOk.lt (x : ObjOk P w H h a o) : a < h.objs.size := by
 cases o with
 | lst xs => obtain ⟨_, _, _, _, e⟩ := x; exact Heap.lt_size e
 | tup xs => obtain ⟨_, _, _, p⟩ := x; exact p.lt
 | dK kvs => obtain ⟨_, _, _, _, o, _, _, e, _⟩ := x; exact Heap.lt_size e
 | dT kvs => obtain ⟨_, _, _, _, o, _, _, e, _⟩ := x; exact Heap.lt_size e
 | set S n => obtain ⟨o, _, _, _, e, _⟩ := x; exact Heap.lt_size e
 | ins C dx fs => obtain ⟨_, _, _, e, _⟩ := x; exact Heap.lt_size e
 | own y => obtain ⟨_, e⟩ := x; exact Heap.lt_size e
 | xd fs => obtain ⟨_, ⟨_, _, _, e, _⟩, _⟩ := x; exact Heap.lt_size e
 | rng lo hi => obtain ⟨_, _, _, e⟩ := x; exact Heap.lt_size e
 | frz ob u => obtain ⟨e, _⟩ := x; exact Heap.lt_size e
 | tbl ps => exact Heap.lt_size (show h.get? a = some _ from x)
 | met f y => exact Heap.lt_size (show h.get? a = some _ from x)
 | ext φ => obtain ⟨_, ⟨_, e⟩, _⟩ := x; exact Heap.lt_size e
theorem Paired.mapP {α β : Type} {F G : α → β → Prop} : ∀ {l₁ : List α} {l₂ : List β}, Paired F l₁ l₂ → (∀ a b, F a b → G a b) → Paired G l₁ l₂
 | _, _, .nil, _ => .nil
 | _, _, .cons r t, f => .cons (f _ _ r) (Paired.mapP t f)
theorem ObjOk.stay (x : ObjOk P w H h a o) (k : ∀ b u, (b = a ∨ H b = some (.own a)) → h.get? b = some u → h'.get? b = some u)
  (ho : ∀ b, H b = some (.own a) → H' b = some (.own a)) (ht : ∀ b xs, H b = some (.tup xs) → H' b = some (.tup xs)) : ObjOk P w H' h' a o := by
 induction o with
 | lst xs => obtain ⟨z, its, n, r, e⟩ := x; exact ⟨z, its, n, r, k _ _ (.inl rfl) e⟩
 | tup xs => obtain ⟨z, its, r, ob, e, c⟩ := x; exact ⟨z, its, r, ob, k _ _ (.inl rfl) e, c⟩
 | dK kvs => obtain ⟨z, y, vs, r, ob, es, ep, e, c⟩ := x; exact ⟨z, y, vs, r, ob, es, ep, k _ _ (.inl rfl) e, c⟩
 | dT kvs =>
  obtain ⟨z, y, xs, r, ob, es, ep, e, c⟩ := x
  exact ⟨z, y, xs, Paired.mapP r fun p q z => ⟨z.1, ht _ _ z.2.1, z.2.2⟩, ob, es, ep, k _ _ (.inl rfl) e, c⟩
 | set S n => obtain ⟨ob, es, ep, t, e, c⟩ := x; exact ⟨ob, es, ep, t, k _ _ (.inl rfl) e, c⟩
 | ins C dx fs =>
  obtain ⟨d, z, ne, e, mA, ⟨od, es, ep, e2, c⟩, r⟩ := x
  exact ⟨ho _ d, z, ne, k _ _ (.inl rfl) e, mA, ⟨od, es, ep, k _ _ (.inr d) e2, c⟩, r⟩
 | own y => obtain ⟨ob, e⟩ := x; exact ⟨ob, k _ _ (.inl rfl) e⟩
 | xd fs => obtain ⟨mA, ⟨od, es, ep, e, c⟩, r⟩ := x; exact ⟨mA, ⟨od, es, ep, k _ _ (.inl rfl) e, c⟩, r⟩
 | rng lo hi => obtain ⟨t, u, v, e⟩ := x; exact ⟨t, u, v, k _ _ (.inl rfl) e⟩
 | frz ob u ih => obtain ⟨e, q⟩ := x; exact ⟨k _ _ (.inl rfl) e, ih q⟩
 | tbl ps =>
  have e : h.get? a = some { cls := .none, data := .fields ps } := x
  show h'.get? a = some { cls := .none, data := .fields ps }
  exact k a _ (.inl rfl) e
 | met f y =>
  have e : h.get? a = some (PySem.W.methodObj (.ref f) (.ref y)) := x
  show h'.get? a = some (PySem.W.methodObj (.ref f) (.ref y))
  exact k a _ (.inl rfl) e
 | ext φ => obtain ⟨p, ⟨o, e⟩, st⟩ := x; exact ⟨st _ _ p fun o q => k _ _ (.inl rfl) q, ⟨o, k _ _ (.inl rfl) e⟩, st⟩
theorem HOk.lt (x : HOk P w H h) (e : H a = some o) : a < h.objs.size := (x a o e).lt
theorem HOk.fresh (x : HOk P w H h) (e : h.objs.size ≤ a) : H a = none := by
 cases q : H a with
 | none => rfl
 | some u => exact absurd (Nat.lt_of_lt_of_le (x.lt q) e) (Nat.lt_irrefl _)
theorem HOk.kept (x : HOk P w H h) (k : ∀ b u, h.get? b = some u → h'.get? b = some u) : HOk P w H h' := fun a o e =>
 (x a o e).stay (fun b u _ q => k b u q) (fun _ q => q) fun _ _ q => q
theorem HOk.laid (x : HOk P w H h) (k : ∀ b u, h.get? b = some u → h'.get? b = some u) (hp : h.objs.size ≤ a) (new : ObjOk P w (upd H a o) h' a o) : HOk P w (upd H a o) h' := fun b u e => by
 have hn := x.fresh hp
 by_cases hb : b = a
 ·subst hb; rw [aqk] at e; cases e; exact new
 ·rw [aqj hb] at e
  exact (x b u e).stay (fun c v _ q => k c v q) (fun c q => by rw [aqj (aqh q hn)]; exact q) fun c xs q => by rw [aqj (aqh q hn)]; exact q
end
def Rd (H : Hp) (a : Addr) (u : HO) : Prop := H a = some u ∨ ∃ o, H a = some (.frz o u)
theorem Rd.ok {P : Program} {w : World} {H : Hp} {h : Heap} {a : Addr} {u : HO} (r : Rd H a u) (x : HOk P w H h) : ObjOk P w H h a u := by
 rcases r with r | ⟨o, r⟩
 ·exact x a u r
 ·obtain ⟨_, q⟩ := x a _ r
  exact q
def Mut : Option HO → Prop
 | some (.lst _) => True
 | some (.dK _) => True
 | some (.dT _) => True
 | some (.set _ _) => True
 | some (.ins _ _ _) => True
 | some (.ext _) => True
 | _ => False
section
variable {P : Program} {w : World} {H : Hp} {h h' : Heap} {x e : Addr} {o' : HO}
theorem HOk.write (ok : HOk P w H h) (mu : Mut (H x)) (he : e = x ∨ H e = some (.own x)) (k : ∀ b u, b ≠ e → h.get? b = some u → h'.get? b = some u) (heo : ∃ u, h'.get? e = some u)
  (new : ObjOk P w (upd H x o') h' x o') : HOk P w (upd H x o') h' := fun b u q => by
 have nown : ∀ c y, H c = some (.own y) → c ≠ x := fun c y r z => by subst z; rw [r] at mu; exact mu
 have ntup : ∀ c xs, H c = some (.tup xs) → c ≠ x := fun c xs r z => by subst z; rw [r] at mu; exact mu
 by_cases hb : b = x
 ·subst hb; rw [aqk] at q; cases q; exact new
 ·rw [aqj hb] at q
  by_cases hbe : b = e
  ·have q' : H b = some (.own x) := by
    rcases he with z | z
    ·exact absurd (hbe.trans z) hb
    ·rw [hbe]; exact z
   rw [q] at q'; cases q'
   obtain ⟨v, hv⟩ := heo
   exact ⟨v, by rw [hbe]; exact hv⟩
  ·refine (ok b u q).stay (fun c v hc r => k c v ?_ r) (fun c r => by rw [aqj (nown c b r)]; exact r) fun c xs r => by rw [aqj (ntup c xs r)]; exact r
   rcases hc with rfl | hc
   ·exact hbe
   ·rintro rfl
    rcases he with z | z
    ·exact nown c b hc z
    ·rw [hc] at z; cases z; exact hb rfl
end
structure Un (fs ex : List Addr) (H H' : Hp) (h h' : Heap) : Prop where
 keep : ∀ b o, h.get? b = some o → H b = none → b ∉ fs → b ∉ ex → h'.get? b = some o
 slot : ∀ b o, h.get? b = some o → H b = none → b ∈ fs → b ∉ ex → ∃ sl, h'.get? b = some { o with slots := sl }
 free : ∀ b o, h.get? b = some o → H b = none → b ∉ ex → H' b = none
 there : ∀ b o, h.get? b = some o → b ∉ ex → ∃ o', h'.get? b = some o'
 tups : ∀ b xs, H b = some (.tup xs) → H' b = some (.tup xs)
 frzs : ∀ b o u, H b = some (.frz o u) → H' b = some (.frz o u)
 tbls : ∀ b ps, H b = some (.tbl ps) → ∃ more, H' b = some (.tbl (ps ++ more))
section
variable {fs fs' ex ex' : List Addr} {H H1 H2 : Hp} {h h1 h2 h' : Heap} {a x e : Addr} {o : HO}
theorem Un.any (u : Un fs ex H H1 h h1) {b : Addr} {ob : Obj} (q : h.get? b = some ob) (n : H b = none) (hx : b ∉ ex) : ∃ sl, h1.get? b = some { ob with slots := sl } := by
 by_cases hb : b ∈ fs
 ·exact u.slot b ob q n hb hx
 ·exact ⟨ob.slots, u.keep b ob q n hb hx⟩
theorem Un.kept (k : ∀ b u, h.get? b = some u → h'.get? b = some u) : Un fs ex H H h h' :=
 ⟨fun b ob q _ _ _ => k b ob q, fun b ob q _ _ _ => ⟨ob.slots, k b ob q⟩, fun _ _ _ n _ => n, fun b ob q _ => ⟨ob, k b ob q⟩, fun _ _ q => q, fun _ _ _ q => q, fun _ ps q => ⟨#[], by rw [q]; simp⟩⟩
theorem Un.refl : Un fs ex H H h h := Un.kept fun _ _ q => q
theorem Un.laid (k : ∀ b u, h.get? b = some u → h'.get? b = some u) (hp : h.objs.size ≤ a) (hn : H a = none) : Un fs ex H (upd H a o) h h' where
 keep := fun b u q _ _ _ => k b u q
 slot := fun b u q _ _ _ => ⟨u.slots, k b u q⟩
 free := fun b u q n _ => by rw [aqj (Nat.ne_of_lt (Nat.lt_of_lt_of_le (Heap.lt_size q) hp))]; exact n
 there := fun b u q _ => ⟨u, k b u q⟩
 tups := fun b xs q => by rw [aqj (aqh q hn)]; exact q
 frzs := fun b u xs q => by rw [aqj (aqh q hn)]; exact q
 tbls := fun b ps q => ⟨#[], by rw [aqj (aqh q hn), q]; simp⟩
theorem Un.write (mu : Mut (H x)) (he : e = x ∨ H e = some (.own x)) (k : ∀ b u, b ≠ e → h.get? b = some u → h'.get? b = some u) (heo : ∃ u, h'.get? e = some u) : Un fs ex H (upd H x o) h h' := by
 have hx : ∀ b, H b = none → b ≠ x := fun b n z => by subst z; rw [n] at mu; exact mu
 have hb : ∀ b, H b = none → b ≠ e := fun b n z => by
  subst z
  rcases he with r | r
  ·exact hx b n r
  ·rw [n] at r; cases r
 have hm : ∀ b u, H b = some u → ¬ Mut (some u) → b ≠ x := fun b u q nm z => by subst z; rw [q] at mu; exact nm mu
 refine ⟨fun b u q n _ _ => k b u (hb b n) q, fun b u q n _ _ => ⟨u.slots, k b u (hb b n) q⟩, fun b u q n _ => by rw [aqj (hx b n)]; exact n, fun b u q _ => ?_,
  fun b xs q => by rw [aqj (hm b _ q fun z => z)]; exact q, fun b u xs q => by rw [aqj (hm b _ q fun z => z)]; exact q, fun b ps q => ⟨#[], by rw [aqj (hm b _ q fun z => z), q]; simp⟩⟩
 by_cases hbe : b = e
 ·subst hbe; exact heo
 ·exact ⟨u, k b u hbe q⟩
end
def trk (h : Heap) (H : Hp) : List Addr := (List.range h.objs.size).filter fun a => (H a).isSome
def hidT (h : Heap) (H : Hp) : Heap := PySem.W.hideAll h (trk h H)
theorem lqm (h : Heap) (H : Hp) : (hidT h H).objs.size = h.objs.size := PySem.W.hideAll_size _ _
theorem mqb {h : Heap} {H : Hp} {b : Addr} {o : Obj} (e : h.get? b = some o) (n : H b = none) : (hidT h H).get? b = some o :=
 PySem.W.hideAll_get _ e fun hm => by
  have q : (H b).isSome = true := (List.mem_filter.mp hm).2
  rw [n] at q; simp at q
theorem nqD {h : Heap} {H : Hp} {b : Addr} {o : Obj} (e : (hidT h H).get? b = some o) : h.get? b = some o ∧ H b = none := by
 have e' : h.get? b = some o := PySem.W.of_hideAll (trk h H) e
 refine ⟨e', ?_⟩
 cases q : H b with
 | none => rfl
 | some x =>
  have hm : b ∈ trk h H := List.mem_filter.mpr ⟨List.mem_range.mpr (Heap.lt_size e'), by simp [q]⟩
  have z : (hidT h H).get? b = none := PySem.W.hideAll_none (trk h H) hm
  rw [z] at e; cases e
def allNews (g h : Heap) (L : Addr) : List (Addr × Obj) := (List.range h.objs.size).filterMap fun a => if a = L ∨ (g.get? a).isSome = true then none else (h.get? a).map fun o => (a, o)
def rest (g h : Heap) (L d : Addr) : List (Addr × Obj) := (allNews g h L).filter fun p => decide (p.1 ≠ d)
structure Mod (K : PySem.W.Frag) (mg : Str → Option Value) (base : Heap) : Prop where
 kin : K.In base
 glob : base.Ns mainGlobals mg
 blt : ∃ mb, base.Ns builtinsNs mb ∧ ∀ x : Str, x ≠ "__name__" → mb x = bootBuiltins x
 nolimit : base.NoLimit
structure Cx where
 prog : Program
 w : World
 K : PySem.W.Frag
 mg : Str → Option Value
 base : Heap
 A : Around
 N : List Str
 s₀ : Shared
 H₀ : Hp
 env : Env
 outer : List Env
 stack : List Env
 ex : List Addr
 fn : Str → Bool
 calm : Bool
 pn : List (Addr × Obj)
 xe : Value → Shared → Prop
def frs (l : List Env) : List Addr := l.filterMap (·.frame)
abbrev Cx.fs (X : Cx) : List Addr := frs X.outer
def Vis (sc : Scope) (x : Str) : Prop := sc.names.lookup x = some .local ∨ sc.names.lookup x = some .cell ∨ sc.names.lookup x = some .free
def Loc (sc : Scope) (x : Str) : Prop := sc.names.lookup x = some .local ∨ sc.names.lookup x = some .cell
def Look (env : Env) (h : Heap) (m : Str → Option Value) (x : Str) (u : Value) : Prop :=
 (env.kindOf x = some .local ∧ m x = some u) ∨ ((env.kindOf x = some .cell ∨ env.kindOf x = some .free) ∧ ∃ c, env.cells.lookup x = some c ∧ h.IsCell c (some u))
structure Cx.Ok (X : Cx) : Prop where
 mod : Mod X.K X.mg X.base
 kind : X.env.scope.kind = .function
 glob : X.env.globals = mainGlobals
 blt : X.env.builtins = builtinsNs
 above : X.s₀.heap.objs.size ≤ X.env.locals
 inj : ∀ x y c, X.env.cells.lookup x = some c → X.env.cells.lookup y = some c → x = y
 has : ∀ x, (X.env.kindOf x = some .cell ∨ X.env.kindOf x = some .free) → ∃ c, X.env.cells.lookup x = some c
 cab : ∀ x c, X.fn x = true → X.env.cells.lookup x = some c → X.s₀.heap.objs.size ≤ c
 hd : X.calm = true → X.A.handled = none
 frames : X.A.frames = some X.stack
 stk : X.stack = X.outer ∨ (X.stack = X.env :: X.outer ∧ X.env.frame = some X.env.locals)
 exf : ∀ b ∈ X.ex, b ≠ X.env.locals ∧ ∀ x c, X.env.cells.lookup x = some c → c ≠ b
 bs : ∀ b o, X.base.get? b = some o → X.s₀.heap.get? b = some o ∧ X.H₀ b = none
 bsz : X.base.objs.size ≤ X.s₀.heap.objs.size
 noex : ∀ b o, X.base.get? b = some o → b ∉ X.ex
 exfs : ∀ b ∈ X.ex, b ∉ X.fs
 funs : X.s₀.heap.FunFrames X.base X.outer
 frf : ∀ b ∈ X.fs, X.H₀ b = none
structure Inv (X : Cx) (pins : List (Addr × Obj)) (σ : List (Option V)) (H : Hp) (s : Shared) : Prop where
 ok : X.Ok
 os : s.os = X.s₀.os
 bare : AllBare s.gens
 base : Un X.fs X.ex X.H₀ H X.s₀.heap s.heap
 loc : ∃ m, s.heap.Ns X.env.locals m ∧ ∀ (i : Nat) (x : Str) (v : V), X.N[i]? = some x → σ[i]? = some (some v) → Vis X.env.scope x → ∃ u, RelV v u ∧ Look X.env s.heap m x u
 cell : ∀ x c, X.env.cells.lookup x = some c → ∃ v, s.heap.IsCell c v
 free : H X.env.locals = none
 freeC : ∀ x c, X.env.cells.lookup x = some c → H c = none
 pin : ∀ p ∈ X.pn ++ pins, s.heap.get? p.1 = some p.2 ∧ H p.1 = none ∧ p.1 ≠ X.env.locals ∧ p.1 ∉ X.fs ∧ ∀ v, p.2.data ≠ .cell v
 hok : HOk X.prog X.w H s.heap
 len : σ.length = X.N.length
section
variable {X : Cx} {pins : List (Addr × Obj)} {σ : List (Option V)} {H H' : Hp} {s : Shared} {h' : Heap}
theorem Cx.Ok.nofr (ok : X.Ok) {b : Addr} {o : Obj} (e : X.base.get? b = some o) : b ∉ X.fs := fun hb => by
 have := (ok.funs.mem hb).1
 rw [e] at this; cases this
theorem Inv.bs (I : Inv X pins σ H s) : ∀ b o, X.base.get? b = some o → s.heap.get? b = some o ∧ H b = none := fun b o e =>
 ⟨I.base.keep b o (I.ok.bs b o e).1 (I.ok.bs b o e).2 (I.ok.nofr e) (I.ok.noex b o e), I.base.free b o (I.ok.bs b o e).1 (I.ok.bs b o e).2 (I.ok.noex b o e)⟩
theorem Inv.bk (I : Inv X pins σ H s) : ∀ b o, X.base.get? b = some o → s.heap.get? b = some o := fun b o e => (I.bs b o e).1
theorem Inv.mod (I : Inv X pins σ H s) : Mod X.K X.mg X.base := I.ok.mod
theorem Inv.kIn (I : Inv X pins σ H s) : X.K.In s.heap := I.ok.mod.kin.keeps I.bk
theorem Inv.lt (I : Inv X pins σ H s) : X.env.locals < s.heap.objs.size := let ⟨_, hn, _⟩ := I.loc; hn.lt
theorem Inv.sz (I : Inv X pins σ H s) : X.s₀.heap.objs.size ≤ s.heap.objs.size := Nat.le_trans I.ok.above (Nat.le_of_lt I.lt)
theorem Inv.nofs (I : Inv X pins σ H s) {a : Addr} (h : s.heap.objs.size ≤ a) : a ∉ X.fs := fun hb => by
 obtain ⟨_, o, ho, _⟩ := I.ok.funs.mem hb
 exact absurd (Nat.lt_of_lt_of_le (Heap.lt_size ho) (Nat.le_trans I.sz h)) (Nat.lt_irrefl _)
theorem Inv.cne (I : Inv X pins σ H s) : ∀ x c, X.env.cells.lookup x = some c → c ≠ X.env.locals := fun x c e z => by
 obtain ⟨v, o, ho, hd⟩ := I.cell x c e
 obtain ⟨m, ⟨o', es, ep, ho', hd', _⟩, _⟩ := I.loc
 rw [z, ho'] at ho; cases ho; rw [hd'] at hd; cases hd
theorem Inv.funs (I : Inv X pins σ H s) : s.heap.FunFrames X.base X.outer := by
 have all : ∀ (l : List Env), (∀ b ∈ frs l, b ∈ X.fs) → X.s₀.heap.FunFrames X.base l → s.heap.FunFrames X.base l := by
  intro l
  induction l with
  | nil => intro _ _; trivial
  | cons env r ih =>
   intro hs hl
   obtain ⟨hk, ⟨L, o, hf, hn, ho, hd⟩, hr⟩ := hl
   have hL : L ∈ X.fs := hs L (by unfold frs; rw [List.filterMap_cons, hf]; exact List.mem_cons_self)
   obtain ⟨sl, e⟩ := I.base.slot L o ho (I.ok.frf L hL) hL fun z => I.ok.exfs L z hL
   exact ⟨hk, ⟨L, _, hf, hn, e, hd⟩, ih (fun b hb => hs b (by unfold frs; rw [List.filterMap_cons, hf]; exact List.mem_cons_of_mem _ hb)) hr⟩
 exact all X.outer (fun _ hb => hb) I.ok.funs
theorem Inv.stack (I : Inv X pins σ H s) : s.heap.FunFrames X.base X.stack := by
 rcases I.ok.stk with e | ⟨e, hf⟩
 ·rw [e]; exact I.funs
 ·rw [e]
  obtain ⟨m, hn, _⟩ := I.loc
  refine .cons (by rw [I.ok.kind]; decide) hf hn ?_ I.funs
  exact Heap.get?_none_of_le (Nat.le_trans I.ok.bsz I.ok.above)
theorem Inv.stkSub (I : Inv X pins σ H s) : ∀ b ∈ frs X.stack, b ∈ X.env.locals :: X.fs := fun b hb => by
 rcases I.ok.stk with e | ⟨e, hf⟩
 ·rw [e] at hb; exact List.mem_cons_of_mem _ hb
 ·rw [e] at hb
  unfold frs at hb
  rw [List.filterMap_cons, hf] at hb
  exact hb
theorem Inv.stkFree (I : Inv X pins σ H s) : ∀ b ∈ frs X.stack, H b = none := fun b hb => by
 rcases List.mem_cons.mp (I.stkSub b hb) with e | hb
 ·rw [e]; exact I.free
 ·obtain ⟨_, o, ho, _⟩ := I.ok.funs.mem hb
  exact I.base.free b o ho (I.ok.frf b hb) fun z => I.ok.exfs b z hb
theorem Inv.step {g' : Array GenState} {t' : Nat} {d' : Drawn} {ch : List Addr} (I : Inv X pins σ H s)
  (hch : ∀ b ∈ ch, (b ∈ X.ex ∨ X.s₀.heap.objs.size ≤ b) ∧ b ≠ X.env.locals ∧ (∀ x c, X.env.cells.lookup x = some c → c ≠ b) ∧ ∀ p ∈ X.pn ++ pins, p.1 ≠ b)
  (keep : ∀ b o, b ≠ X.env.locals → b ∉ X.fs → b ∉ ch → s.heap.get? b = some o → H b = none → h'.get? b = some o)
  (slot : ∀ b o, b ≠ X.env.locals → b ∈ X.fs → b ∉ ch → s.heap.get? b = some o → H b = none → ∃ sl, h'.get? b = some { o with slots := sl }) (free : ∀ b o, b ∉ ch → s.heap.get? b = some o → H b = none → H' b = none)
  (there : ∀ b o, b ∉ ch → s.heap.get? b = some o → ∃ o', h'.get? b = some o')
  (tups : ∀ b xs, H b = some (.tup xs) → H' b = some (.tup xs)) (frzs : ∀ b o u, H b = some (.frz o u) → H' b = some (.frz o u)) (tbls : ∀ b ps, H b = some (.tbl ps) → ∃ more, H' b = some (.tbl (ps ++ more)))
  (ns : ∀ m, s.heap.Ns X.env.locals m → h'.Ns X.env.locals m) (hok : HOk X.prog X.w H' h') (hg : AllBare g') :
  Inv X pins σ H' { s with heap := h', gens := g', drawn := d', toks := t' } := by
 have neL : ∀ b o, X.s₀.heap.get? b = some o → b ≠ X.env.locals := fun b o e => Nat.ne_of_lt (Nat.lt_of_lt_of_le (Heap.lt_size e) I.ok.above)
 have neC : ∀ b o, X.s₀.heap.get? b = some o → b ∉ X.ex → b ∉ ch := fun b o e hx hb => by
  rcases (hch b hb).1 with z | z
  ·exact hx z
  ·exact absurd (Nat.lt_of_lt_of_le (Heap.lt_size e) z) (Nat.lt_irrefl _)
 have cellK : ∀ x c, X.env.cells.lookup x = some c → ∀ v, s.heap.IsCell c v → h'.IsCell c v := fun x c e v ⟨o, ho, hd⟩ => by
  have nch : c ∉ ch := fun z => (hch c z).2.2.1 x c e rfl
  by_cases hc : c ∈ X.fs
  ·obtain ⟨sl, q⟩ := slot c o (I.cne x c e) hc nch ho (I.freeC x c e)
   exact ⟨_, q, hd⟩
  ·exact ⟨o, keep c o (I.cne x c e) hc nch ho (I.freeC x c e), hd⟩
 refine ⟨I.ok, I.os, hg, ⟨fun b o e n hb hx => ?_, fun b o e n hb hx => ?_, fun b o e n hx => ?_, fun b o e hx => ?_, fun b xs e => tups b xs (I.base.tups b xs e), fun b o xs e => frzs b o xs (I.base.frzs b o xs e), fun b ps e => ?_⟩, ?_, fun x c e => ?_, ?_, fun x c e => ?_, fun p hp => ?_, hok, I.len⟩
 ·exact keep b o (neL b o e) hb (neC b o e hx) (I.base.keep b o e n hb hx) (I.base.free b o e n hx)
 ·obtain ⟨sl, e1⟩ := I.base.slot b o e n hb hx
  obtain ⟨sl', e2⟩ := slot b _ (neL b o e) hb (neC b o e hx) e1 (I.base.free b o e n hx)
  exact ⟨sl', e2⟩
 ·obtain ⟨o', e1⟩ := I.base.there b o e hx
  exact free b o' (neC b o e hx) e1 (I.base.free b o e n hx)
 ·obtain ⟨o', e1⟩ := I.base.there b o e hx
  exact there b o' (neC b o e hx) e1
 ·obtain ⟨m1, e1⟩ := I.base.tbls b ps e
  obtain ⟨m2, e2⟩ := tbls b _ e1
  exact ⟨m1 ++ m2, by rw [e2, Array.append_assoc]⟩
 ·obtain ⟨m, hn, hl⟩ := I.loc
  refine ⟨m, ns m hn, fun i x v e1 e2 e3 => ?_⟩
  obtain ⟨u, r, l⟩ := hl i x v e1 e2 e3
  refine ⟨u, r, ?_⟩
  rcases l with l | ⟨k, c, e, z⟩
  ·exact .inl l
  ·exact .inr ⟨k, c, e, cellK x c e _ z⟩
 ·obtain ⟨v, z⟩ := I.cell x c e
  exact ⟨v, cellK x c e v z⟩
 ·obtain ⟨m, ⟨o, _, _, ho, _⟩, _⟩ := I.loc
  exact free _ o (fun z => (hch _ z).2.1 rfl) ho I.free
 ·obtain ⟨v, o, ho, hd⟩ := I.cell x c e
  exact free c o (fun z => (hch c z).2.2.1 x c e rfl) ho (I.freeC x c e)
 ·obtain ⟨e, n, ne, nf, d⟩ := I.pin p hp
  have nch : p.1 ∉ ch := fun z => (hch p.1 z).2.2.2 p hp rfl
  exact ⟨keep p.1 p.2 ne nf nch e n, free p.1 p.2 nch e n, ne, nf, d⟩
theorem Inv.un {t' : Nat} (I : Inv X pins σ H s) (u : Un X.fs [] H H' s.heap h') (hok : HOk X.prog X.w H' h') : Inv X pins σ H' { s with heap := h', toks := t' } := by
 obtain ⟨m, ⟨o, es, ep, ho, r⟩, _⟩ := id I.loc
 obtain ⟨sl, hL⟩ := u.any ho I.free (by simp)
 exact I.step (g' := s.gens) (d' := s.drawn) (ch := []) (fun _ z => nomatch z) (fun b o _ hb _ e n => u.keep b o e n hb (by simp)) (fun b o _ hb _ e n => u.slot b o e n hb (by simp)) (fun b o _ e n => u.free b o e n (by simp)) (fun b o _ e => u.there b o e (by simp)) u.tups u.frzs u.tbls (fun m' hm => by
  obtain ⟨o', es', ep', ho', r'⟩ := hm
  rw [ho] at ho'; cases ho'
  exact ⟨_, es', ep', hL, r'⟩) hok I.bare
theorem Inv.call {g' : Array GenState} {t' : Nat} {d' : Drawn} {ch : List Addr} (I : Inv X pins σ H s) (u : Un (frs X.stack) ch H H' s.heap h') (hok : HOk X.prog X.w H' h') (hg : AllBare g')
  (hch : ∀ b ∈ ch, (b ∈ X.ex ∨ X.s₀.heap.objs.size ≤ b) ∧ b ≠ X.env.locals ∧ (∀ x c, X.env.cells.lookup x = some c → c ≠ b) ∧ ∀ p ∈ X.pn ++ pins, p.1 ≠ b) :
  Inv X pins σ H' { s with heap := h', gens := g', drawn := d', toks := t' } := by
 obtain ⟨m, ⟨o, es, ep, ho, r⟩, _⟩ := id I.loc
 obtain ⟨sl, hL⟩ := u.any ho I.free fun z => (hch _ z).2.1 rfl
 exact I.step (ch := ch) hch (fun b o hL hb hc e n => u.keep b o e n (fun z => (List.mem_cons.mp (I.stkSub b z)).elim hL hb) hc) (fun b o _ _ hc e n => u.any e n hc) (fun b o hc e n => u.free b o e n hc) (fun b o hc e => u.there b o e hc) u.tups u.frzs u.tbls (fun m' hm => by
  obtain ⟨o', es', ep', ho', r'⟩ := hm
  rw [ho] at ho'; cases ho'
  exact ⟨_, es', ep', hL, r'⟩) hok hg
theorem Inv.turned {t' : Nat} {it : Addr} (I : Inv X pins σ H s) (k : ∀ b o, b ≠ it → s.heap.get? b = some o → h'.get? b = some o) (hn : H it = none) (hL : it ≠ X.env.locals)
  (h1 : it ∈ X.ex ∨ X.s₀.heap.objs.size ≤ it) (h2 : ∀ x c, X.env.cells.lookup x = some c → c ≠ it) (h3 : ∀ p ∈ X.pn ++ pins, p.1 ≠ it) : Inv X pins σ H { s with heap := h', toks := t' } := by
 have nit : ∀ b u, H b = some u → b ≠ it := fun b u e z => by rw [z, hn] at e; cases e
 refine I.step (g' := s.gens) (d' := s.drawn) (ch := [it]) (fun b hb => ?_) (fun b o _ _ hc e _ => k b o (fun z => hc (by simp [z])) e) (fun b o _ _ hc e _ => ⟨o.slots, k b o (fun z => hc (by simp [z])) e⟩) (fun _ _ _ _ n => n)
  (fun b o hc e => ⟨o, k b o (fun z => hc (by simp [z])) e⟩) (fun _ _ e => e) (fun _ _ _ e => e) (fun b ps e => ⟨#[], by rw [e]; simp⟩) (fun m hm => ?_) (fun b u e => ?_) I.bare
 ·have e : b = it := by simpa using hb
  subst e
  exact ⟨h1, hL, h2, h3⟩
 ·obtain ⟨o, es, ep, ho, r⟩ := hm
  exact ⟨o, es, ep, k _ o (Ne.symm hL) ho, r⟩
 ·refine (I.hok b u e).stay (fun c v hc q => k c v ?_ q) (fun _ q => q) fun _ _ q => q
  rcases hc with z | z
  ·rw [z]; exact nit b u e
  ·exact nit c _ z
theorem Inv.tok (I : Inv X pins σ H s) (t : Nat) : Inv X pins σ H { s with toks := t } := I.un (h' := s.heap) (t' := t) Un.refl I.hok
theorem Inv.kept {t' : Nat} (I : Inv X pins σ H s) (k : ∀ b u, s.heap.get? b = some u → h'.get? b = some u) : Inv X pins σ H { s with heap := h', toks := t' } := I.un (Un.kept k) (I.hok.kept k)
theorem Inv.laid {a : Addr} {o : HO} {t' : Nat} (I : Inv X pins σ H s) (k : ∀ b u, s.heap.get? b = some u → h'.get? b = some u) (hp : s.heap.objs.size ≤ a) (new : ObjOk X.prog X.w (upd H a o) h' a o) :
  Inv X pins σ (upd H a o) { s with heap := h', toks := t' } := I.un (Un.laid k hp (I.hok.fresh hp)) (I.hok.laid k hp new)
theorem Inv.write {x e : Addr} {o : HO} {t' : Nat} (I : Inv X pins σ H s) (mu : Mut (H x)) (he : e = x ∨ H e = some (.own x)) (k : ∀ b u, b ≠ e → s.heap.get? b = some u → h'.get? b = some u) (heo : ∃ u, h'.get? e = some u)
  (new : ObjOk X.prog X.w (upd H x o) h' x o) : Inv X pins σ (upd H x o) { s with heap := h', toks := t' } := I.un (Un.write mu he k heo) (I.hok.write mu he k heo new)
theorem Inv.pins_of {pins' : List (Addr × Obj)} (I : Inv X pins σ H s) (h : ∀ p ∈ pins', s.heap.get? p.1 = some p.2 ∧ H p.1 = none ∧ p.1 ≠ X.env.locals ∧ p.1 ∉ X.fs ∧ ∀ v, p.2.data ≠ .cell v) : Inv X pins' σ H s :=
 ⟨I.ok, I.os, I.bare, I.base, I.loc, I.cell, I.free, I.freeC, fun p hp => (List.mem_append.mp hp).elim (fun z => I.pin p (List.mem_append_left _ z)) (h p), I.hok, I.len⟩
theorem hqo {N : List Str} (hN : N.Nodup) {i j : Nat} {x : Str} (a : N[i]? = some x) (b : N[j]? = some x) : i = j := by
 obtain ⟨h1, e1⟩ := List.getElem?_eq_some_iff.mp a
 obtain ⟨h2, e2⟩ := List.getElem?_eq_some_iff.mp b
 exact (List.getElem_inj hN).mp (e1.trans e2.symm)
theorem fq4 {M : Model} {A : Around} {E : Value → Shared → Prop} {i : Nat} {x : Str} {v : V} {u : Value} {Q : Unit → Shared → Prop} (I : Inv X pins σ H s) (hN : X.N.Nodup) (hi : X.N[i]? = some x) (hx : Loc X.env.scope x) (r : RelV v u)
  (h : ∀ s', Inv X pins (σ.set i (some v)) H s' → (∃ a, Heap.SameBut a s.heap s'.heap ∧ (a = X.env.locals ∨ X.env.cells.lookup x = some a)) → Q () s') (hf : X.fn x = true ∨ X.env.scope.names.lookup x = some .local := by first | exact .inl rfl | exact .inr rfl | assumption) : wpAny M A (storeName X.env x u) Q E s := by
 obtain ⟨m, hn, hl⟩ := id I.loc
 have hcls : (X.env.scope.kind == .class || (X.env.scope.kind == .module && X.env.locals != X.env.globals)) = false := by rw [I.ok.kind]; rfl
 have hiσ : i < σ.length := by rw [I.len]; exact (List.getElem?_eq_some_iff.mp hi).1
 have cne := I.cne
 have tracked : ∀ {a : Addr} {h' : Heap}, (∃ o, s.heap.get? a = some o ∧ H a = none) → Heap.SameBut a s.heap h' → HOk X.prog X.w H h' := fun {a h'} ha hs b ob e => by
  obtain ⟨_, _, hfree⟩ := ha
  refine (I.hok b ob e).stay (fun c w' hc q => (hs.2 c ?_).trans q) (fun _ q => q) fun _ _ q => q
  rintro rfl
  rcases hc with rfl | hc
  ·rw [hfree] at e; cases e
  ·rw [hfree] at hc; cases hc
 rcases hx with hk | hk
 ·refine wpAny_storeName_local hk hn (fun h' hn' hs => ?_) hcls
  obtain ⟨oL, _, _, hoL, _⟩ := id hn
  refine h _ ⟨I.ok, I.os, I.bare, ⟨fun b o e n hb hx => ?_, fun b o e n hb hx => ?_, I.base.free, fun b o e hx => ?_, I.base.tups, I.base.frzs, I.base.tbls⟩, ⟨_, hn', fun j y v' e1 e2 e3 => ?_⟩, fun y c e => ?_, I.free, I.freeC, fun p hp => ?_, tracked ⟨oL, hoL, I.free⟩ hs, by simpa using I.len⟩ ⟨_, hs, .inl rfl⟩
  ·exact (hs.2 b (Nat.ne_of_lt (Nat.lt_of_lt_of_le (Heap.lt_size e) I.ok.above))).trans (I.base.keep b o e n hb hx)
  ·obtain ⟨sl, e1⟩ := I.base.slot b o e n hb hx
   exact ⟨sl, (hs.2 b (Nat.ne_of_lt (Nat.lt_of_lt_of_le (Heap.lt_size e) I.ok.above))).trans e1⟩
  ·obtain ⟨o', e1⟩ := I.base.there b o e hx
   exact ⟨o', (hs.2 b (Nat.ne_of_lt (Nat.lt_of_lt_of_le (Heap.lt_size e) I.ok.above))).trans e1⟩
  ·by_cases hj : j = i
   ·subst hj
    rw [hi] at e1; cases e1
    rw [List.getElem?_set_self hiσ] at e2
    cases e2
    exact ⟨u, r, .inl ⟨hk, by simp⟩⟩
   ·rw [List.getElem?_set_ne (Ne.symm hj)] at e2
    obtain ⟨u', r', q⟩ := hl j y v' e1 e2 e3
    refine ⟨u', r', ?_⟩
    rcases q with ⟨k, e⟩ | ⟨k, c, e, z⟩
    ·refine .inl ⟨k, ?_⟩
     have : y ≠ x := fun e => hj (hqo hN e1 (e ▸ hi))
     simp [this, e]
    ·exact .inr ⟨k, c, e, z.sameBut hs (cne y c e)⟩
  ·obtain ⟨w', z⟩ := I.cell y c e
   exact ⟨w', z.sameBut hs (cne y c e)⟩
  ·obtain ⟨e, n, ne, nf, d⟩ := I.pin p hp
   exact ⟨(hs.2 p.1 ne).trans e, n, ne, nf, d⟩
 ·have hfn : X.fn x = true := by
   rcases hf with z | z
   ·exact z
   ·rw [z] at hk; cases hk
  obtain ⟨c, hc⟩ := I.ok.has x (.inl hk)
  obtain ⟨w', z⟩ := I.cell x c hc
  refine wpAny_storeName_cell I.ok.kind hk hc z (fun h' hc' hs => ?_)
  obtain ⟨oc, hoc, hocd⟩ := id z
  refine h { s with heap := h' } ⟨I.ok, I.os, I.bare, ⟨fun b o e n hb hx => ?_, fun b o e n hb hx => ?_, I.base.free, fun b o e hx => ?_, I.base.tups, I.base.frzs, I.base.tbls⟩, ⟨m, hn.sameBut hs (Ne.symm (cne x c hc)), fun j y v' e1 e2 e3 => ?_⟩, fun y c' e => ?_, I.free, I.freeC, fun p hp => ?_, tracked ⟨oc, hoc, I.freeC x c hc⟩ hs, by simpa using I.len⟩ ⟨c, hs, .inr hc⟩
  ·exact (hs.2 b (Nat.ne_of_lt (Nat.lt_of_lt_of_le (Heap.lt_size e) (I.ok.cab x c hfn hc)))).trans (I.base.keep b o e n hb hx)
  ·obtain ⟨sl, e1⟩ := I.base.slot b o e n hb hx
   exact ⟨sl, (hs.2 b (Nat.ne_of_lt (Nat.lt_of_lt_of_le (Heap.lt_size e) (I.ok.cab x c hfn hc)))).trans e1⟩
  ·obtain ⟨o', e1⟩ := I.base.there b o e hx
   exact ⟨o', (hs.2 b (Nat.ne_of_lt (Nat.lt_of_lt_of_le (Heap.lt_size e) (I.ok.cab x c hfn hc)))).trans e1⟩
  ·by_cases hj : j = i
   ·subst hj
    rw [hi] at e1; cases e1
    rw [List.getElem?_set_self hiσ] at e2
    cases e2
    exact ⟨u, r, .inr ⟨.inl hk, c, hc, hc'⟩⟩
   ·rw [List.getElem?_set_ne (Ne.symm hj)] at e2
    obtain ⟨u', r', q⟩ := hl j y v' e1 e2 e3
    refine ⟨u', r', ?_⟩
    rcases q with q | ⟨k, c', e, z'⟩
    ·exact .inl q
    ·refine .inr ⟨k, c', e, z'.sameBut hs ?_⟩
     rintro rfl
     exact hj (hqo hN e1 (I.ok.inj _ _ _ e hc ▸ hi))
  ·by_cases hcc : c' = c
   ·subst hcc; exact ⟨_, hc'⟩
   ·obtain ⟨w2, z2⟩ := I.cell y c' e
    exact ⟨w2, z2.sameBut hs hcc⟩
  ·obtain ⟨e, n, ne, nf, d⟩ := I.pin p hp
   refine ⟨(hs.2 p.1 ?_).trans e, n, ne, nf, d⟩
   intro q
   rw [q, hoc] at e
   have q' : oc = p.2 := Option.some.inj e
   exact d w' (by rw [← q']; exact hocd)
theorem hqR {M : Model} {A : Around} {E : Value → Shared → Prop} {i : Nat} {x : Str} {v : V} {u : Value} {Q : Unit → Shared → Prop} (I : Inv X pins σ H s) (hN : X.N.Nodup) (hi : X.N[i]? = some x) (hx : Loc X.env.scope x) (r : RelV v u)
  (h : ∀ s', Inv X pins (σ.set i (some v)) H s' → Q () s') (hf : X.fn x = true ∨ X.env.scope.names.lookup x = some .local := by first | exact .inl rfl | exact .inr rfl | assumption) : wpAny M A (storeName X.env x u) Q E s :=
 fq4 I hN hi hx r (fun s' I' _ => h s' I') hf
theorem Inv.call' {s' : Shared} {ch : List Addr} (I : Inv X pins σ H s) (ho : s'.os = s.os) (u : Un (frs X.stack) ch H H' s.heap s'.heap) (hok : HOk X.prog X.w H' s'.heap) (hg : AllBare s'.gens)
  (hch : ∀ b ∈ ch, (b ∈ X.ex ∨ X.s₀.heap.objs.size ≤ b) ∧ b ≠ X.env.locals ∧ (∀ x c, X.env.cells.lookup x = some c → c ≠ b) ∧ ∀ p ∈ X.pn ++ pins, p.1 ≠ b) : Inv X pins σ H' s' := by
 obtain ⟨h', g', d', t', o'⟩ := s'
 have e : o' = s.os := ho
 subst e
 exact I.call (g' := g') (t' := t') (d' := d') u hok hg hch
end
abbrev XK := Value → Option Addr → Hp → Prop
abbrev St := List (Option V)
abbrev VK := V → Hp → Prop
abbrev TE := St → Hp → VK → Prop
abbrev TT := St → Hp → (Bool → Hp → Prop) → Prop
abbrev TA := St → Hp → (List V → Hp → Prop) → Prop
structure Ends where
 nx : St → Hp → Prop
 rt : VK
 bk : St → Hp → Prop := fun _ _ => False
 ct : St → Hp → Prop := fun _ _ => False
abbrev TS := Ends → St → Hp → Prop
def EP (X : Cx) (pins : List (Addr × Obj)) (σ : St) (Q : VK) (u : Value) (s' : Shared) : Prop := ∃ v H', Inv X pins σ H' s' ∧ RelV v u ∧ Q v H'
def TP (X : Cx) (pins : List (Addr × Obj)) (σ : St) (Q : Bool → Hp → Prop) (b : Bool) (s' : Shared) : Prop := ∃ H', Inv X pins σ H' s' ∧ Q b H'
def AP (X : Cx) (pins : List (Addr × Obj)) (σ : St) (Q : List V → Hp → Prop) (us : List Value) (s' : Shared) : Prop := ∃ vs H', Inv X pins σ H' s' ∧ Vals vs us ∧ Q vs H'
def SP (X : Cx) (pins : List (Addr × Obj)) (D : Ends) (f : Flow) (s' : Shared) : Prop :=
 match f with
 | .next => ∃ σ' H', Inv X pins σ' H' s' ∧ D.nx σ' H'
 | .brk => ∃ σ' H', Inv X pins σ' H' s' ∧ D.bk σ' H'
 | .cont => ∃ σ' H', Inv X pins σ' H' s' ∧ D.ct σ' H'
 | .ret u => ∃ v σ' H', Inv X pins σ' H' s' ∧ RelV v u ∧ D.rt v H'
def PE (X : Cx) (e : Expr) (t : TE) : Prop :=
 ∀ (pins : List (Addr × Obj)) (s : Shared) (σ : St) (H : Hp) (Q : VK), Inv X pins σ H s → t σ H Q → wpAny (model X.prog X.w) X.A (eval e X.env) (EP X pins σ Q) X.xe s
def PT (X : Cx) (e : Expr) (t : TT) : Prop :=
 ∀ (pins : List (Addr × Obj)) (s : Shared) (σ : St) (H : Hp) (Q : Bool → Hp → Prop), Inv X pins σ H s → t σ H Q → wpAny (model X.prog X.w) X.A (isTrue e X.env (eval e X.env)) (TP X pins σ Q) X.xe s
def PW (X : Cx) (e : Expr) (t : TT) : Prop :=
 ∀ (whole : Sem Value) (pins : List (Addr × Obj)) (s : Shared) (σ : St) (H : Hp) (Q : Bool → Hp → Prop), Inv X pins σ H s → t σ H Q → wpAny (model X.prog X.w) X.A (isTrue e X.env whole) (TP X pins σ Q) X.xe s
theorem PW.pt {X : Cx} {e : Expr} {t : TT} (h : PW X e t) : PT X e t := h _
def PA (X : Cx) (es : List Expr) (t : TA) : Prop :=
 ∀ (pos : Pos) (pins : List (Addr × Obj)) (s : Shared) (σ : St) (H : Hp) (Q : List V → Hp → Prop), Inv X pins σ H s → t σ H Q → wpAny (model X.prog X.w) X.A (spliced (backTo pos (starEach es X.env))) (AP X pins σ Q) X.xe s
def PS (X : Cx) (st : Stmt) (t : TS) : Prop :=
 ∀ (pins : List (Addr × Obj)) (s : Shared) (σ : St) (H : Hp) (D : Ends), Inv X pins σ H s → t D σ H → wpAny (model X.prog X.w) X.A (exec st X.env) (SP X pins D) X.xe s
def PSs (X : Cx) (st : List Stmt) (t : TS) : Prop :=
 ∀ (pins : List (Addr × Obj)) (s : Shared) (σ : St) (H : Hp) (D : Ends), Inv X pins σ H s → t D σ H → wpAny (model X.prog X.w) X.A (execs st X.env) (SP X pins D) X.xe s
theorem thn {α : Type} {t : Sem α} {Q Q' : α → Shared → Prop} {M : Model} {A : Around} {E : Value → Shared → Prop} {s : Shared} (h : wpAny M A t Q E s) (hQ : ∀ a s, Q a s → Q' a s) : wpAny M A t Q' E s := wpAny_mono h hQ fun _ _ x => x
section
variable {X : Cx}
theorem bin {a b : Expr} {ta tb : TE} (ha : PE X a ta) (hb : PE X b tb) {pins : List (Addr × Obj)} {s : Shared} {σ : St} {H : Hp} {R : V → V → Hp → Prop} (I : Inv X pins σ H s) (h : ta σ H fun x H1 => tb σ H1 fun y H2 => R x y H2)
  {α : Type} {Q : α → Shared → Prop} {f : Value → Value → Sem α}
  (hf : ∀ v u s2 x y H2, Inv X pins σ H2 s2 → RelV x v → RelV y u → R x y H2 → wpAny (model X.prog X.w) X.A (f v u) Q X.xe s2) :
  wpAny (model X.prog X.w) X.A (eval a X.env) (fun v s₁ => wpAny (model X.prog X.w) X.A (eval b X.env) (fun u s₂ => wpAny (model X.prog X.w) X.A (f v u) Q X.xe s₂) X.xe s₁) X.xe s := by
 refine thn (ha pins s σ H _ I h) fun v s1 W' => ?_
 obtain ⟨x, H1, I1, r1, q1⟩ := W'
 refine thn (hb pins s1 σ H1 _ I1 q1) fun u s2 W' => ?_
 obtain ⟨y, H2, I2, r2, q2⟩ := W'
 exact hf v u s2 x y H2 I2 r1 r2 q2
def tVar (i : Nat) : TE := fun σ H Q => ∃ v, σ[i]? = some (some v) ∧ Q v H
def tC (v : V) : TE := fun _ H Q => Q v H
theorem pqV {i : Nat} {x : Str} {pos : Pos} (hN : X.N[i]? = some x) (hv : Vis X.env.scope x) (hd : (x == ("__debug__" : Str)) = false := by decide) (hcd : (x == ("__classdict__" : Str)) = false := by decide) : PE X (.Name x pos) (tVar i) := by
 intro pins s σ H Q I h
 obtain ⟨v, e, h⟩ := h
 obtain ⟨m, hn, hl⟩ := I.loc
 obtain ⟨u, r, l⟩ := hl i x v hN e hv
 have fin : EP X pins σ Q u s := ⟨v, H, I, r, h⟩
 rcases l with ⟨hk, hm⟩ | ⟨hk, c, hc, hcell⟩
 ·exact wpAny_Name (wpAny_loadName_local I.ok.kind hk hn hm fin) hd
 ·rcases hk with hk | hk
  ·exact wpAny_Name (wpAny_loadName_cell I.ok.kind hk hc hcell fin) hd
  ·exact wpAny_Name (wpAny_loadName_free I.ok.kind hk hc hcell fin hcd) hd
theorem aqc {i j pos} : PE X (.Constant (.int i) j pos) (tC (.int i)) := fun _ _ _ H _ I h => wpAny_Constant_int ⟨.int i, H, I.tok _, ⟨_, rfl⟩, h⟩
theorem jqi {b j pos} : PE X (.Constant (.bool b) j pos) (tC (.bl b)) := fun _ _ _ H _ I h => Constant_bool ⟨.bl b, H, I, rfl, h⟩
theorem gqJ {j pos} : PE X (.Constant .none j pos) (tC .non) := fun _ _ _ H _ I h => Constant_none ⟨.non, H, I, rfl, h⟩
theorem aqi {x j pos} : PE X (.Constant (.str x) j pos) (tC (.str x)) := fun _ _ _ H _ I h => Calls.Constant_str ⟨.str x, H, I.tok _, ⟨_, rfl⟩, h⟩
def Gl (X : Cx) (x : Str) : Prop := X.env.kindOf x = some .globalImplicit
theorem eq3 {E : Value → Shared → Prop} {pins : List (Addr × Obj)} {s : Shared} {σ : St} {H : Hp} {x : Str} {u : Value} {pos : Pos} {Q : Value → Shared → Prop} (I : Inv X pins σ H s) (hg : Gl X x) (hm : X.mg x = some u) (h : Q u s)
  (hd : (x == ("__debug__" : Str)) = false := by decide) : wpAny (model X.prog X.w) X.A (eval (.Name x pos) X.env) Q E s :=
 Calls.Name_function_global I.ok.kind hg (Calls.loadGlobal_global (by rw [I.ok.glob]; exact I.mod.glob.keeps I.bk) hm h) hd
theorem eqD {E : Value → Shared → Prop} {pins : List (Addr × Obj)} {s : Shared} {σ : St} {H : Hp} {x : Str} {u : Value} {pos : Pos} {Q : Value → Shared → Prop} (I : Inv X pins σ H s) (hg : Gl X x) (hm : X.mg x = none) (hv : bootBuiltins x = some u) (h : Q u s)
  (hn : x ≠ "__name__" := by decide) (hd : (x == ("__debug__" : Str)) = false := by decide) : wpAny (model X.prog X.w) X.A (eval (.Name x pos) X.env) Q E s := by
 obtain ⟨mb, h1, h2⟩ := I.mod.blt
 exact Calls.Name_function_global I.ok.kind hg (Calls.loadGlobal_builtin (by rw [I.ok.glob]; exact I.mod.glob.keeps I.bk) hm (by rw [I.ok.blt]; exact h1.keeps I.bk) ((h2 x hn).trans hv) h) hd
theorem bqh {x : Str} {v : V} {u : Value} {pos : Pos} (hg : Gl X x) (hm : X.mg x = some u) (r : RelV v u) (hd : (x == ("__debug__" : Str)) = false := by decide) : PE X (.Name x pos) (tC v) :=
 fun _ _ _ H _ I h => eq3 I hg hm ⟨v, H, I, r, h⟩ hd
theorem eqb {x : Str} {v : V} {u : Value} {pos : Pos} (hg : Gl X x) (hm : X.mg x = none) (hv : bootBuiltins x = some u) (r : RelV v u) (hn : x ≠ "__name__" := by decide) (hd : (x == ("__debug__" : Str)) = false := by decide) : PE X (.Name x pos) (tC v) :=
 fun _ _ _ H _ I h => eqD I hg hm hv ⟨v, H, I, r, h⟩ hn hd
variable {a b : Expr} {ta tb : TE} {pos : Pos}
def PC (X : Cx) (op : CmpOp) (a b : Expr) (t : TE) : Prop :=
 ∀ (pins : List (Addr × Obj)) (s : Shared) (σ : St) (H : Hp) (Q : VK), Inv X pins σ H s → t σ H Q →
  wpAny (model X.prog X.w) X.A (eval a X.env) (fun v s₁ => wpAny (model X.prog X.w) X.A (eval b X.env) (fun u s₂ => wpAny (model X.prog X.w) X.A (compareOp op v u) (EP X pins σ Q) X.xe s₂) X.xe s₁) X.xe s
def tB (t : TE) : TT := fun σ H Q => t σ H fun x H1 => ∃ c, x = .bl c ∧ Q c H1
theorem qq2 {op : CmpOp} {t : TE} (h : PC X op a b t) (h1 : behindInMarks op b = false := by first | exact nobehind _ (by decide) (by decide) | rfl) : PT X (.Compare a [op] [b] pos) (tB t) := by
 intro pins s σ H Q I hw
 refine wpAny_isTrue_Compare1 (thn (h pins s σ H _ I hw) fun v s1 h1 => thn h1 fun u s2 h2 => thn h2 fun c s3 W' => ?_) h1
 obtain ⟨x, H1, I1, r1, q1⟩ := W'
 obtain ⟨d, rfl, q⟩ := q1
 cases r1
 exact wpAny_truthy_bool ⟨H1, I1, q⟩
theorem dq1 {e : Expr} {t : TE} (h : PE X e t) (he : ∀ whole, isTrue e X.env whole = (do let v ← whole; standAt e.pos; holding [v] (truthy v)) := by intro _; rfl) : PT X e (tB t) := by
 intro pins s σ H Q I hw
 refine isTrue_plain (thn (h pins s σ H _ I hw) fun v s1 W' => ?_) (he _)
 obtain ⟨x, H1, I1, r1, q1⟩ := W'
 obtain ⟨d, rfl, q⟩ := q1
 cases r1
 exact wpAny_truthy_bool ⟨H1, I1, q⟩
variable {tA tB' : TT} {rest : List Expr}
def tAnd (t u : TT) : TT := fun σ H Q => t σ H fun c H1 => if c = true then u σ H1 Q else Q false H1
def tOr (t u : TT) : TT := fun σ H Q => t σ H fun c H1 => if c = true then Q true H1 else u σ H1 Q
def tNot (t : TT) : TT := fun σ H Q => t σ H fun c H1 => Q (!c) H1
theorem jqo (ha : PT X a tA) : PW X (.BoolOp .And [a] pos) tA := by
 intro wh pins s σ H Q I h
 refine isTrue_and (thn (ha pins s σ H Q I h) fun c s1 e => ?_)
 cases c with
 | true => exact isTrue_and_nil e
 | false => exact e
theorem gq6 (ha : PT X a tA) : PW X (.BoolOp .Or [a] pos) tA := by
 intro wh pins s σ H Q I h
 refine isTrue_or (thn (ha pins s σ H Q I h) fun c s1 e => ?_)
 cases c with
 | false => exact isTrue_or_nil e
 | true => exact e
theorem lqK (ha : PT X a tA) (hb : PW X (.BoolOp .And (b :: rest) pos) tB') : PW X (.BoolOp .And (a :: b :: rest) pos) (tAnd tA tB') := by
 intro wh pins s σ H Q I h
 refine isTrue_and (thn (ha pins s σ H _ I h) fun c s1 W' => ?_)
 obtain ⟨H1, I1, q1⟩ := W'
 cases c with
 | true => exact hb wh pins s1 σ H1 Q I1 q1
 | false => exact ⟨H1, I1, q1⟩
theorem iqV (ha : PT X a tA) (hb : PW X (.BoolOp .Or (b :: rest) pos) tB') : PW X (.BoolOp .Or (a :: b :: rest) pos) (tOr tA tB') := by
 intro wh pins s σ H Q I h
 refine isTrue_or (thn (ha pins s σ H _ I h) fun c s1 W' => ?_)
 obtain ⟨H1, I1, q1⟩ := W'
 cases c with
 | true => exact ⟨H1, I1, q1⟩
 | false => exact hb wh pins s1 σ H1 Q I1 q1
theorem gqP (ha : PT X a tA) : PT X (.UnaryOp .Not a pos) (tNot tA) := by
 intro pins s σ H Q I h
 exact isTrue_not (ha pins s σ H (fun c H1 => Q (!c) H1) I h)
def tAndV (ta tb : TE) : TE := fun σ H Q => ta σ H fun x H1 => ∃ c, x = .bl c ∧ if c = true then tb σ H1 Q else Q (.bl false) H1
def tOrV (ta tb : TE) : TE := fun σ H Q => ta σ H fun x H1 => ∃ c, x = .bl c ∧ if c = true then Q (.bl true) H1 else tb σ H1 Q
def tNotV (ta : TE) : TE := fun σ H Q => ta σ H fun x H1 => ∃ c, x = .bl c ∧ Q (.bl (!c)) H1
theorem dqg {op} {t : TE} (h : PE X a t) : PE X (.BoolOp op [a] pos) t := fun pins s σ H Q I hw => BoolOp_one (h pins s σ H Q I hw)
theorem dqr (ha : PE X a ta) (hb : PE X (.BoolOp .And (b :: rest) pos) tb) : PE X (.BoolOp .And (a :: b :: rest) pos) (tAndV ta tb) := by
 intro pins s σ H Q I h
 refine BoolOp_and (thn (ha pins s σ H _ I h) fun v s1 W' => ?_)
 obtain ⟨x, H1, I1, r1, q1⟩ := W'
 obtain ⟨c, rfl, q1⟩ := q1
 cases r1
 refine wpAny_truthy_bool ?_
 cases c with
 | true => exact hb pins s1 σ H1 Q I1 q1
 | false => exact ⟨.bl false, H1, I1, rfl, q1⟩
theorem pqY (ha : PE X a ta) (hb : PE X (.BoolOp .Or (b :: rest) pos) tb) : PE X (.BoolOp .Or (a :: b :: rest) pos) (tOrV ta tb) := by
 intro pins s σ H Q I h
 refine BoolOp_or (thn (ha pins s σ H _ I h) fun v s1 W' => ?_)
 obtain ⟨x, H1, I1, r1, q1⟩ := W'
 obtain ⟨c, rfl, q1⟩ := q1
 cases r1
 refine wpAny_truthy_bool ?_
 cases c with
 | false => exact hb pins s1 σ H1 Q I1 q1
 | true => exact ⟨.bl true, H1, I1, rfl, q1⟩
theorem iqs (ha : PE X a ta) : PE X (.UnaryOp .Not a pos) (tNotV ta) := by
 intro pins s σ H Q I h
 refine UnaryOp_ (thn (ha pins s σ H _ I h) fun v s1 W' => ?_)
 obtain ⟨x, H1, I1, r1, q1⟩ := W'
 obtain ⟨c, rfl, q1⟩ := q1
 cases r1
 exact not_of (wpAny_truthy_bool ⟨.bl (!c), H1, I1, rfl, q1⟩)
def tIf (t : TT) (ta tb : TE) : TE := fun σ H Q => t σ H fun c H1 => if c = true then ta σ H1 Q else tb σ H1 Q
theorem fqL {c : Expr} (hc : PT X c tA) (ha : PE X a ta) (hb : PE X b tb) : PE X (.IfExp c a b pos) (tIf tA ta tb) := by
 intro pins s σ H Q I h
 refine wpAny_IfExp (thn (hc pins s σ H _ I h) fun d s1 W' => ?_)
 obtain ⟨H1, I1, q1⟩ := W'
 cases d with
 | true => exact ha pins s1 σ H1 Q I1 q1
 | false => exact hb pins s1 σ H1 Q I1 q1
end
def SqL (K : PySem.W.Frag) (H : Hp) (a : Addr) (xs : List V) : Prop :=
 Rd H a (.lst xs) ∨
  ∃ (o : Obj) (its : Array Value) (n : Nat), K.lookup a = some o ∧ o.cls = .type "list" ∧ o.dict = none ∧ o.data = .seq its n ∧ its.size ≤ sizeLine ∧ Vals xs its.toList
def SqT (K : PySem.W.Frag) (H : Hp) (a : Addr) (xs : List V) : Prop :=
 Rd H a (.tup xs) ∨
  ∃ (o : Obj) (its : Array Value) (n : Nat), K.lookup a = some o ∧ o.cls = .type "tuple" ∧ o.data = .seq its n ∧ its.size ≤ sizeLine ∧ Vals xs its.toList
def absV : Value → Option V
 | .none => some .non
 | .bool b => some (.bl b)
 | .int i _ => some (.int i)
 | .str x _ => some (.str x)
 | .bytes b _ => some (.byt b)
 | .float b _ => some (.flt b)
 | .ref a => some (.ref a)
 | .type n => some (.ty n)
 | _ => none
theorem RelV.abs {x : V} {u : Value} (r : RelV x u) : absV u = some x := by
 cases x with
 | non => cases r; rfl
 | bl _ => cases r; rfl
 | int _ => obtain ⟨t, rfl⟩ := r; rfl
 | str _ => obtain ⟨t, rfl⟩ := r; rfl
 | byt _ => obtain ⟨t, rfl⟩ := r; rfl
 | flt _ => obtain ⟨t, rfl⟩ := r; rfl
 | ref _ => cases r; rfl
 | ty _ => cases r; rfl
theorem RelV.inj {x y : V} {u : Value} (r : RelV x u) (q : RelV y u) : x = y := Option.some.inj (r.abs.symm.trans q.abs)
theorem Vals.inj : ∀ {xs ys : List V} {us : List Value}, Vals xs us → Vals ys us → xs = ys
 | _, _, _, .nil, .nil => rfl
 | _, _, _, .cons r t, .cons r' t' => by rw [r.inj r', Vals.inj t t']
section
variable {X : Cx} {pins : List (Addr × Obj)} {σ : St} {H : Hp} {s : Shared} {a : Addr} {xs ys : List V}
theorem SqL.of {K : PySem.W.Frag} (h : H a = some (.lst xs)) : SqL K H a xs := .inl (.inl h)
theorem SqT.of {K : PySem.W.Frag} (h : H a = some (.tup xs)) : SqT K H a xs := .inl (.inl h)
theorem Inv.list (I : Inv X pins σ H s) (h : SqL X.K H a xs) : ∃ its : List Value, Vals xs its ∧ PlainL s.heap a its.toArray ∧ xs.length ≤ sizeLine := by
 rcases h with h | ⟨o, its, n, hk, hc, hd, hs, hz, r⟩
 ·obtain ⟨z, its, n, r, e⟩ := h.ok I.hok
  exact ⟨its, r, ⟨_, n, e, rfl, rfl, rfl⟩, z⟩
 ·refine ⟨its.toList, r, ⟨o, n, I.kIn a o hk, hc, hd, by simpa using hs⟩, ?_⟩
  have e := r.length
  simp only [Array.length_toList] at e
  lia
theorem Inv.tuple (I : Inv X pins σ H s) (h : SqT X.K H a xs) : ∃ its : List Value, Vals xs its ∧ IsTup s.heap a its.toArray ∧ xs.length ≤ sizeLine := by
 rcases h with h | ⟨o, its, n, hk, hc, hs, hz, r⟩
 ·obtain ⟨z, its, r, p⟩ := h.ok I.hok
  exact ⟨its, r, p, z⟩
 ·refine ⟨its.toList, r, ⟨o, I.kIn a o hk, hc, n, by simpa using hs⟩, ?_⟩
  have e := r.length
  simp only [Array.length_toList] at e
  lia
theorem Inv.list_inj (I : Inv X pins σ H s) (h : SqL X.K H a xs) (h' : SqL X.K H a ys) : xs = ys := by
 obtain ⟨its, r, ⟨o, n, e, _, _, d⟩, _⟩ := I.list h
 obtain ⟨its', r', ⟨o', n', e', _, _, d'⟩, _⟩ := I.list h'
 rw [e] at e'; cases e'
 rw [d] at d'
 injection d' with d1 _
 have : its = its' := by simpa using congrArg Array.toList d1
 subst this
 exact r.inj r'
theorem Inv.tuple_inj (I : Inv X pins σ H s) (h : SqT X.K H a xs) (h' : SqT X.K H a ys) : xs = ys := by
 obtain ⟨its, r, ⟨o, e, _, n, d⟩, _⟩ := I.tuple h
 obtain ⟨its', r', ⟨o', e', _, n', d'⟩, _⟩ := I.tuple h'
 rw [e] at e'; cases e'
 rw [d] at d'
 injection d' with d1 _
 have : its = its' := by simpa using congrArg Array.toList d1
 subst this
 exact r.inj r'
end
abbrev Cx.wish (X : Cx) (E : Value → Shared → Prop) : Cx := { X with xe := E }
abbrev Cx.nox (X : Cx) : Cx := X.wish fun _ _ => False
theorem Cx.Ok.wish {X : Cx} (ok : X.Ok) (E : Value → Shared → Prop) : (X.wish E).Ok :=
 ⟨ok.mod, ok.kind, ok.glob, ok.blt, ok.above, ok.inj, ok.has, ok.cab, ok.hd, ok.frames, ok.stk, ok.exf, ok.bs, ok.bsz, ok.noex, ok.exfs, ok.funs, ok.frf⟩
theorem Cx.Ok.unwish {X : Cx} {E : Value → Shared → Prop} (ok : (X.wish E).Ok) : X.Ok :=
 ⟨ok.mod, ok.kind, ok.glob, ok.blt, ok.above, ok.inj, ok.has, ok.cab, ok.hd, ok.frames, ok.stk, ok.exf, ok.bs, ok.bsz, ok.noex, ok.exfs, ok.funs, ok.frf⟩
section
variable {X : Cx} {pins : List (Addr × Obj)} {σ : St} {H : Hp} {s : Shared} {E : Value → Shared → Prop}
theorem Inv.wish (I : Inv X pins σ H s) (E : Value → Shared → Prop) : Inv (X.wish E) pins σ H s := ⟨I.ok.wish E, I.os, I.bare, I.base, I.loc, I.cell, I.free, I.freeC, I.pin, I.hok, I.len⟩
theorem Inv.unwish (I : Inv (X.wish E) pins σ H s) : Inv X pins σ H s := ⟨I.ok.unwish, I.os, I.bare, I.base, I.loc, I.cell, I.free, I.freeC, I.pin, I.hok, I.len⟩
theorem SP.unwish {D : Ends} {f : Flow} {s' : Shared} (h : SP (X.wish E) pins D f s') : SP X pins D f s' := by
 cases f with
 | next => obtain ⟨σ', H', I, q⟩ := h; exact ⟨σ', H', I.unwish, q⟩
 | brk => obtain ⟨σ', H', I, q⟩ := h; exact ⟨σ', H', I.unwish, q⟩
 | cont => obtain ⟨σ', H', I, q⟩ := h; exact ⟨σ', H', I.unwish, q⟩
 | ret u => obtain ⟨v, σ', H', I, r, q⟩ := h; exact ⟨v, σ', H', I.unwish, r, q⟩
theorem PSs.nox {st : List Stmt} {t : TS} (h : PSs X.nox st t) : PSs X st t := fun pins s σ H D I hw =>
 wpAny_mono (h pins s σ H D (I.wish _) hw) (fun _ _ q => q.unwish) fun _ _ z => False.elim z
end
section
variable {X : Cx} {st : Stmt} {rest : List Stmt} {t u : TS} {e : Expr} {te : TE} {pos : Pos}
def tNext : TS := fun D σ H => D.nx σ H
def tSeq (t u : TS) : TS := fun D σ H => t { D with nx := u D } σ H
theorem aqB : PSs X [] tNext := fun _ _ σ H _ I h => wpAny_execs_nil ⟨σ, H, I, h⟩
theorem aqe (h1 : PS X st t) (h2 : PSs X rest u) : PSs X (st :: rest) (tSeq t u) := by
 intro pins s σ H D I h
 refine wpAny_execs_cons (thn (h1 pins s σ H { D with nx := u D } I h) fun f s1 q => ?_)
 cases f with
 | next =>
  obtain ⟨σ', H', I', q⟩ := q
  exact h2 pins s1 σ' H' D I' q
 | ret v => exact q
 | brk => exact q
 | cont => exact q
theorem aqd (h1 : PS X st t) : PSs X [st] t := by
 intro pins s σ H D I h
 refine wpAny_execs_cons (thn (h1 pins s σ H D I h) fun f s1 q => ?_)
 cases f with
 | next => exact wpAny_execs_nil q
 | ret v => exact q
 | brk => exact q
 | cont => exact q
def tBreak : TS := fun D σ H => D.bk σ H
theorem Inv.quiet {pins : List (Addr × Obj)} {σ : St} {H : Hp} {s : Shared} (I : Inv X pins σ H s) : interactive X.env = false := by simp [interactive, I.ok.kind]
def tDrop (te : TE) : TS := fun D σ H => te σ H fun _ H1 => D.nx σ H1
theorem hqL (he : PE X e te) (hs : swapsWith e none pos.line X.env = pure false := by rfl) : PS X (.Expr e pos) (tDrop te) := by
 intro pins s σ H D I h
 exact wpAny_Expr_any (thn (he pins s σ H _ I h) fun v s1 ⟨x, H1, I1, r1, q1⟩ => ⟨σ, H1, I1, q1⟩) I.quiet hs
def tRet (te : TE) : TS := fun D σ H => te σ H D.rt
theorem aqr (he : PE X e te) : PS X (.Return (some e) pos) (tRet te) := by
 intro pins s σ H D I h
 exact wpAny_Return_some (thn (he pins s σ H _ I h) fun v s1 ⟨x, H1, I1, r1, q1⟩ => ⟨x, σ, H1, I1, r1, q1⟩)
def tIfS (c : TT) (t u : TS) : TS := fun D σ H => c σ H fun b H1 => if b = true then t D σ H1 else u D σ H1
theorem aqW {c : Expr} {a b : List Stmt} {tc : TT} (hc : PT X c tc) (ha : PSs X a t) (hb : PSs X b u) : PS X (.If c a b pos) (tIfS tc t u) := by
 intro pins s σ H D I h
 refine wpAny_If (thn (hc pins s σ H _ I h) fun d s1 W' => ?_)
 obtain ⟨H1, I1, q1⟩ := W'
 cases d with
 | true => exact ha pins s1 σ H1 D I1 q1
 | false => exact hb pins s1 σ H1 D I1 q1
def tNever : TS := fun _ _ _ => False
end
abbrev TG := V → St → Hp → (St → Hp → Prop) → Prop
abbrev TGs := List V → St → Hp → (St → Hp → Prop) → Prop
def PG (X : Cx) (target : Expr) (t : TG) : Prop :=
 ∀ (pins : List (Addr × Obj)) (s : Shared) (σ : St) (H : Hp) (v : V) (u : Value) (Q : St → Hp → Prop), Inv X pins σ H s → RelV v u → t v σ H Q →
  wpAny (model X.prog X.w) X.A (assign target X.env u) (fun _ s' => ∃ σ' H', Inv X pins σ' H' s' ∧ Q σ' H') X.xe s
def PGs (X : Cx) (ts : List Expr) (t : TGs) : Prop :=
 ∀ (pins : List (Addr × Obj)) (s : Shared) (σ : St) (H : Hp) (vs : List V) (us : List Value) (Q : St → Hp → Prop), Inv X pins σ H s → Vals vs us → t vs σ H Q →
  wpAny (model X.prog X.w) X.A (assignInOrder ((assignEach ts X.env).map (·.2)) us) (fun _ s' => ∃ σ' H', Inv X pins σ' H' s' ∧ Q σ' H') X.xe s
abbrev TSet := V → V → V → Hp → (Hp → Prop) → Prop
def PSet (X : Cx) (t : TSet) : Prop :=
 ∀ (pins : List (Addr × Obj)) (s : Shared) (σ : St) (H : Hp) (o i v : V) (ov iv u : Value) (Q : Hp → Prop), Inv X pins σ H s → RelV o ov → RelV i iv → RelV v u → t o i v H Q →
  wpAny (model X.prog X.w) X.A (setItem ov iv u) (fun _ s' => ∃ H', Inv X pins σ H' s' ∧ Q H') X.xe s
section
variable {X : Cx} {pos : Pos}
def gName (i : Nat) : TG := fun v σ H Q => Q (σ.set i (some v)) H
theorem bqb {i : Nat} {x : Str} (hN : X.N.Nodup) (hi : X.N[i]? = some x) (hx : Loc X.env.scope x) (hf : X.fn x = true ∨ X.env.scope.names.lookup x = some .local := by first | exact .inl rfl | exact .inr rfl | assumption) : PG X (.Name x pos) (gName i) := by
 intro pins s σ H v u Q I r h
 exact wpAny_assign_Name (hqR I hN hi hx r (fun s' I' => ⟨_, H, I', h⟩) hf)
def gNil : TGs := fun vs σ H Q => vs = [] ∧ Q σ H
def gCons (t : TG) (u : TGs) : TGs := fun vs σ H Q => ∃ v r, vs = v :: r ∧ t v σ H fun σ' H' => u r σ' H' Q
theorem hq4 : PGs X [] gNil := by
 intro pins s σ H vs us Q I r h
 obtain ⟨e, h⟩ := h
 subst e
 cases r
 exact assignInOrder_nil ⟨σ, H, I, h⟩
theorem cqm {e : Expr} {es : List Expr} {t : TG} {u : TGs} (h1 : PG X e t) (h2 : PGs X es u)
  (hs : (assignEach (e :: es) X.env).map (·.2) = assign e X.env :: (assignEach es X.env).map (·.2) := by rfl) : PGs X (e :: es) (gCons t u) := by
 intro pins s σ H vs us Q I r h
 obtain ⟨v, vr, e1, h⟩ := h
 subst e1
 cases r with
 | cons r rr =>
  rw [hs]
  refine assignInOrder_cons (thn (h1 pins s σ H _ _ _ I r h) fun _ s1 W' => ?_)
  obtain ⟨σ1, H1, I1, q1⟩ := W'
  exact h2 pins s1 σ1 H1 _ _ Q I1 rr q1
def gTup (K : PySem.W.Frag) (n : Nat) (t : TGs) : TG := fun v σ H Q => ∃ a xs, v = .ref a ∧ SqT K H a xs ∧ xs.length = n ∧ t xs σ H Q
theorem nqz {es : List Expr} {k : Nat} {t : TGs} {n : Nat} (hc : X.calm = true) (h : PGs X es t)
  (hn : (assignEach es X.env).length = n := by rfl) (hst : (assignEach es X.env).findIdx? (·.1) = none := by rfl) : PG X (.Tuple es k pos) (gTup X.K n t) := by
 intro pins s σ H v u Q I r hw
 obtain ⟨a, xs, e1, hq, hl, hw⟩ := hw
 subst e1
 cases r
 obtain ⟨its, rv, ht, hz⟩ := I.tuple hq
 refine assign_Tuple_tuple (I.ok.hd hc) ht (by simp [hn, ← hl, rv.length]) hst fun h' hx => ?_
 have I1 : Inv X pins σ H { s with heap := h' } := I.kept (t' := s.toks) fun b o e => hx b o (Nat.ne_of_lt (Heap.lt_size e)) e
 exact h pins _ σ H xs _ Q I1 (by simpa using rv) hw
def gSub (to ti : TE) (t : TSet) : TG := fun v σ H Q => to σ H fun o H1 => ti σ H1 fun i H2 => t o i v H2 fun H3 => Q σ H3
theorem kqL {o i : Expr} {to ti : TE} {t : TSet} (ho : PE X o to) (hi : PE X i ti) (hs : PSet X t)
  (ha : ∀ v, assign (.Subscript o i pos) X.env v = (do
   let ov ← holding [v] (eval o X.env)
   let iv ← holding [v, ov] (eval i X.env)
   standAt pos
   holding [v, ov, iv] (setItem ov iv v)
   release [v, ov, iv] []) := by intro _; rfl) : PG X (.Subscript o i pos) (gSub to ti t) := by
 intro pins s σ H v u Q I r h
 rw [ha]
 refine wpAny_bind (wpAny_holding (thn (ho pins s σ H _ I h) fun ov s1 W' => ?_))
 obtain ⟨x, H1, I1, r1, q1⟩ := W'
 refine wpAny_bind (wpAny_holding (thn (hi pins s1 σ H1 _ I1 q1) fun iv s2 W' => ?_))
 obtain ⟨y, H2, I2, r2, q2⟩ := W'
 refine wpAny_bind (wpAny_standAt (wpAny_bind (wpAny_holding (thn (hs pins s2 σ H2 x y v ov iv u _ I2 r1 r2 r q2) fun _ s3 W' => ?_))))
 obtain ⟨H3, I3, q3⟩ := W'
 exact wpAny_release ⟨σ, H3, I3, q3⟩
def tAsg (te : TE) (g : TG) : TS := fun D σ H => te σ H fun x H1 => g x σ H1 D.nx
theorem nqk {tg e : Expr} {te : TE} {g : TG} (he : PE X e te) (hg : PG X tg g) (hs : swapsWithSole [tg] e pos.line X.env = pure false := by rfl) (hw : swappedStores [tg] e X.env = pure none := by rfl)
  (h1 : (assignEach [tg] X.env).map (·.2) = [assign tg X.env] := by rfl) : PS X (.Assign [tg] e pos) (tAsg te g) := by
 intro pins s σ H D I h
 refine wpAny_Assign_stores (thn (he pins s σ H _ I h) fun v s1 W' => ?_) hs hw
 obtain ⟨x, H1, I1, r1, q1⟩ := W'
 rw [h1]
 exact thn (hg pins s1 σ H1 x v _ I1 r1 q1) fun _ s2 q => q
theorem aqs {i : Nat} {x : Str} {e : Expr} {te : TE} {pos' : Pos} (hN : X.N.Nodup) (hi : X.N[i]? = some x) (hx : Loc X.env.scope x) (he : PE X e te) (hs : swapsWith e (some (.Name x pos')) pos.line X.env = pure false := by rfl) (hf : X.fn x = true ∨ X.env.scope.names.lookup x = some .local := by first | exact .inl rfl | exact .inr rfl | assumption) :
  PS X (.Assign [.Name x pos'] e pos) (tAsg te (gName i)) := by
 intro pins s σ H D I h
 refine wpAny_Assign_Name (thn (he pins s σ H _ I h) fun v s1 W' => ?_) hs
 obtain ⟨y, H1, I1, r1, q1⟩ := W'
 exact hqR I1 hN hi hx r1 (fun s2 I2 => ⟨_, H1, I2, q1⟩) hf
def tPar (i j : Nat) (ta : TA) : TS := fun D σ H => ta σ H fun vs H1 => ∃ v w, vs = [v, w] ∧ D.nx ((σ.set i (some v)).set j (some w)) H1
end
section
variable {X : Cx} {pos : Pos}
end
structure It where
 go : Nat → Hp → Prop
 yld : Nat → Hp → V → Hp → Prop
 stop : Nat → Hp → Prop
def FpOk (X : Cx) (pins : List (Addr × Obj)) (H : Hp) (b : Addr) : Prop :=
 H b = none ∧ b ≠ X.env.locals ∧ b ∉ X.fs ∧ (b ∈ X.ex ∨ X.s₀.heap.objs.size ≤ b) ∧ (∀ x c, X.env.cells.lookup x = some c → c ≠ b) ∧ ∀ p ∈ X.pn ++ pins, p.1 ≠ b
theorem Inv.fpOk {X : Cx} {pins : List (Addr × Obj)} {σ : St} {H H' : Hp} {s : Shared} {b : Addr} (I : Inv X pins σ H s) (hb : s.heap.objs.size ≤ b) (hn : H' b = none) : FpOk X pins H' b := by
 refine ⟨hn, Nat.ne_of_gt (Nat.lt_of_lt_of_le I.lt hb), I.nofs hb, .inr (Nat.le_trans I.sz hb), fun x c e z => ?_, fun p hp z => ?_⟩
 ·obtain ⟨v, q⟩ := I.cell x c e
  exact absurd (Nat.lt_of_lt_of_le q.lt (by rw [z]; exact hb)) (Nat.lt_irrefl _)
 ·exact absurd (Nat.lt_of_lt_of_le (Heap.lt_size (I.pin p hp).1) (by rw [z]; exact hb)) (Nat.lt_irrefl _)
structure Turn (P : Program) (w : World) (K : PySem.W.Frag) (tg : Expr) (J : It) (fp : List Addr) (it : Addr) (tn : Nat → Heap → Prop) : Prop where
 mem : it ∈ fp
 obj : ∀ i h, tn i h → ∀ b ∈ fp, ∃ o, h.get? b = some o ∧ ∀ v, o.data ≠ .cell v
 keep : ∀ i h h', tn i h → (∀ b ∈ fp, ∀ o, h.get? b = some o → h'.get? b = some o) → tn i h'
 item : ∀ (X : Cx), X.prog = P → X.w = w → X.K = K → X.calm = true → ∀ (i : Nat) (pins : List (Addr × Obj)) (s : Shared) (σ : St) (H : Hp) (E : Value → Shared → Prop), Inv X pins σ H s → (∀ b ∈ fp, FpOk X pins H b) → tn i s.heap → J.go i H →
  wpAny (model P w) X.A (pyNext (.ref it)) (fun r s1 => ∃ u, r = some u ∧
   wpAny (model P w) X.A (letOwnedTupleGo tg (.ref it) u) (fun _ s2 => ∃ x H', Inv X pins σ H' s2 ∧ RelV x u ∧ J.yld i H x H' ∧ tn (i + 1) s2.heap ∧ ∀ b ∈ fp, H' b = none) E s1) E s
 done : ∀ (X : Cx), X.prog = P → X.w = w → X.K = K → X.calm = true → ∀ (i : Nat) (pins : List (Addr × Obj)) (s : Shared) (σ : St) (H : Hp) (E : Value → Shared → Prop), Inv X pins σ H s → (∀ b ∈ fp, FpOk X pins H b) → tn i s.heap → J.stop i H →
  wpAny (model P w) X.A (pyNext (.ref it)) (fun r s1 => r = none ∧ Inv X pins σ H s1) E s
 self : ∀ (A : Around) (i : Nat) (s : Shared) (Q : Value → Shared → Prop) (E : Value → Shared → Prop), tn i s.heap → Q (.ref it) s → wpAny (model P w) A (pyIter (.ref it)) Q E s
abbrev TI := St → Hp → (It → Hp → Prop) → Prop
def PIE (X : Cx) (pins : List (Addr × Obj)) (σ : St) (tg : Expr) (R : It → Hp → Prop) (itv : Value) (s2 : Shared) : Prop :=
 ∃ (it : Addr) (fp : List Addr) (tn : Nat → Heap → Prop) (J : It) (H' : Hp), itv = .ref it ∧ Inv X pins σ H' s2 ∧ Turn X.prog X.w X.K tg J fp it tn ∧ tn 0 s2.heap ∧ (∀ b ∈ fp, FpOk X pins H' b) ∧ R J H'
def PI (X : Cx) (tg iter : Expr) (wi : TI) : Prop :=
 ∀ (pins : List (Addr × Obj)) (s : Shared) (σ : St) (H : Hp) (R : It → Hp → Prop), Inv X pins σ H s → wi σ H R →
  wpAny (model X.prog X.w) X.A (eval iter X.env) (fun v s1 => wpAny (model X.prog X.w) X.A (pyIter v) (PIE X pins σ tg R) X.xe s1) X.xe s
theorem kqv {M : Model} {A : Around} {E : Value → Shared → Prop} {s : Shared} {tg : Expr} {it : Addr} {u : Value} {o : Obj} {n : String} {vs : Array Value} {Q : Unit → Shared → Prop} (ho : s.heap.get? it = some o) (hc : o.cls = .type n) (hd : o.data = .fields vs)
  (hn : ["enumerate", "zip", "dict_itemiterator", "dict_reverseitemiterator", "odict_iterator", "itertools.zip_longest", "itertools.pairwise"].contains n = false) (hQ : Q () s) : wpAny M A (letOwnedTupleGo tg (.ref it) u) Q E s := by
 unfold letOwnedTupleGo
 cases tg <;> first
  | exact wpAny_pure hQ
  | (cases u <;> first
    | exact wpAny_pure hQ
    | (refine wpAny_bind (wpAny_load ho ?_)
       rw [hc, hd]
       show wpAny M A (if (["enumerate", "zip", "dict_itemiterator", "dict_reverseitemiterator", "odict_iterator", "itertools.zip_longest", "itertools.pairwise"].contains n && vs[0]? == some (rawInt _)) = true then _ else _) Q E s
       rw [if_neg (by intro h; rw [hn, Bool.false_and] at h; cases h)]
       exact wpAny_pure hQ))
def Itl (K : PySem.W.Frag) (a : Addr) : It :=
 ⟨fun i H => ∃ xs x, SqL K H a xs ∧ xs[i]? = some x, fun i H x H' => H' = H ∧ ∀ xs, SqL K H a xs → xs[i]? = some x, fun i H => ∃ xs, SqL K H a xs ∧ xs.length ≤ i⟩
def Itt (K : PySem.W.Frag) (a : Addr) : It :=
 ⟨fun i H => ∃ xs x, SqT K H a xs ∧ xs[i]? = some x, fun i H x H' => H' = H ∧ ∀ xs, SqT K H a xs → xs[i]? = some x, fun i H => ∃ xs, SqT K H a xs ∧ xs.length ≤ i⟩
def Itr (lo : Int) (n : Nat) : It := ⟨fun i _ => i < n, fun i H x H' => H' = H ∧ x = .int (lo + i), fun i _ => n ≤ i⟩
theorem kq3 {P : Program} {w : World} {K : PySem.W.Frag} {tg : Expr} (a it : Addr) : Turn P w K tg (Itl K a) [it] it (fun i h => h.IsListIter it a i) where
 mem := by simp
 obj := fun i h st b hb => by
  have e : b = it := by simpa using hb
  subst e
  obtain ⟨o, e, c, d⟩ := st
  exact ⟨o, e, fun v z => by rw [d] at z; cases z⟩
 keep := fun i h h' st k => st.at fun o e => k it (by simp) o e
 item := by
  intro X hP hw hK hc i pins s σ H E I hf st hg
  subst hP hw hK
  obtain ⟨xs, x, hq, hx⟩ := hg
  obtain ⟨its, rv, p, hz⟩ := I.list hq
  obtain ⟨u, hu, ru⟩ := rv.get hx
  obtain ⟨f0, f1, f2, f3, f4, f5⟩ := hf it (by simp)
  refine wpAny_pyNext_list_item st p.isList (x := u) (by simpa using hu) fun h' st' sb => ?_
  have I1 : Inv X pins σ H { s with heap := h' } := I.turned (t' := s.toks) (fun b o hb e => (sb.2 b hb).trans e) f0 f1 f3 f4 f5
  obtain ⟨o, e, c, d⟩ := id st'
  exact ⟨u, rfl, kqv (s := { s with heap := h' }) e c d (by decide) ⟨x, H, I1, ru, ⟨rfl, fun ys hy => by rw [I.list_inj hy hq]; exact hx⟩, st', fun b hb => (hf b hb).1⟩⟩
 done := by
  intro X hP hw hK hc i pins s σ H E I hf st hg
  subst hP hw hK
  obtain ⟨xs, hq, hx⟩ := hg
  obtain ⟨its, rv, p, hz⟩ := I.list hq
  obtain ⟨f0, f1, f2, f3, f4, f5⟩ := hf it (by simp)
  have hl := rv.length
  exact wpAny_pyNext_list_end (I.ok.hd hc) st p.isList (by simp; lia) fun h' eb => ⟨rfl, I.turned (t' := s.toks) (fun b o hb e => eb b o hb e) f0 f1 f3 f4 f5⟩
 self := fun _ _ _ _ _ st h => wpAny_pyIter_listiter st h
theorem kqI {P : Program} {w : World} {K : PySem.W.Frag} {tg : Expr} (a it : Addr) : Turn P w K tg (Itt K a) [it] it (fun i h => h.IsTupleIter it a i) where
 mem := by simp
 obj := fun i h st b hb => by
  have e : b = it := by simpa using hb
  subst e
  obtain ⟨o, e, c, d⟩ := st
  exact ⟨o, e, fun v z => by rw [d] at z; cases z⟩
 keep := fun i h h' st k => st.at fun o e => k it (by simp) o e
 item := by
  intro X hP hw hK hc i pins s σ H E I hf st hg
  subst hP hw hK
  obtain ⟨xs, x, hq, hx⟩ := hg
  obtain ⟨its, rv, p, hz⟩ := I.tuple hq
  obtain ⟨u, hu, ru⟩ := rv.get hx
  obtain ⟨f0, f1, f2, f3, f4, f5⟩ := hf it (by simp)
  refine wpAny_pyNext_tuple_item st (show s.heap.IsTuple a its.toArray from p) (x := u) (by simpa using hu) fun h' st' sb => ?_
  have I1 : Inv X pins σ H { s with heap := h' } := I.turned (t' := s.toks) (fun b o hb e => (sb.2 b hb).trans e) f0 f1 f3 f4 f5
  obtain ⟨o, e, c, d⟩ := id st'
  exact ⟨u, rfl, kqv (s := { s with heap := h' }) e c d (by decide) ⟨x, H, I1, ru, ⟨rfl, fun ys hy => by rw [I.tuple_inj hy hq]; exact hx⟩, st', fun b hb => (hf b hb).1⟩⟩
 done := by
  intro X hP hw hK hc i pins s σ H E I hf st hg
  subst hP hw hK
  obtain ⟨xs, hq, hx⟩ := hg
  obtain ⟨its, rv, p, hz⟩ := I.tuple hq
  obtain ⟨f0, f1, f2, f3, f4, f5⟩ := hf it (by simp)
  have hl := rv.length
  exact wpAny_pyNext_tuple_end (I.ok.hd hc) st (show s.heap.IsTuple a its.toArray from p) (by simp; lia) fun h' eb => ⟨rfl, I.turned (t' := s.toks) (fun b o hb e => eb b o hb e) f0 f1 f3 f4 f5⟩
 self := fun _ _ _ _ _ st h => wpAny_pyIter_tupleiter st h
theorem kqD {P : Program} {w : World} {K : PySem.W.Frag} {tg : Expr} (it : Addr) (lo : Int) (n : Nat) : Turn P w K tg (Itr lo n) [it] it (fun i h => IsRangeIter h it (lo + (i : Nat) * 1) ((n : Int) - (i : Nat)) 1) where
 mem := by simp
 obj := fun i h st b hb => by
  have e : b = it := by simpa using hb
  subst e
  exact ⟨_, st, fun v z => by
   have z' : Data.fields _ = Data.cell v := z
   cases z'⟩
 keep := fun i h h' st k => k it (by simp) _ st
 item := by
  intro X hP hw hK hc i pins s σ H E I hf st hg
  subst hP hw hK
  obtain ⟨f0, f1, f2, f3, f4, f5⟩ := hf it (by simp)
  have W := Walks.range (prog := X.prog) (w := X.w) (I.ok.hd hc) it lo 1 n
  refine W.item i s _ _ hg st fun v h' tk hv st' kk => ?_
  obtain ⟨t, rfl⟩ := hv
  have I1 : Inv X pins σ H { s with heap := h', toks := tk } := I.turned (fun b o hb e => kk b o (by simpa using hb) e) f0 f1 f3 f4 f5
  refine ⟨_, rfl, kqv (s := { s with heap := h', toks := tk }) (n := "range_iterator") st' rfl rfl (by decide) ⟨.int (lo + i), H, I1, ⟨t, ?_⟩, ⟨rfl, rfl⟩, st', fun b hb => (hf b hb).1⟩⟩
  rw [Int.mul_one]
 done := by
  intro X hP hw hK hc i pins s σ H E I hf st hg
  subst hP hw hK
  obtain ⟨f0, f1, f2, f3, f4, f5⟩ := hf it (by simp)
  exact wpAny_pyNext_range_end (I.ok.hd hc) st (by have : n ≤ i := hg; lia) fun h' eb => ⟨rfl, I.turned (t' := s.toks) (fun b o hb e => eb b o hb e) f0 f1 f3 f4 f5⟩
 self := fun _ _ _ _ _ st h => wpAny_pyIter_rangeiter st h
section
variable {X : Cx} {tg : Expr}
def iList (K : PySem.W.Frag) (tl : TE) : TI := fun σ H R => tl σ H fun x H1 => ∃ a, x = .ref a ∧ (∃ xs, SqL K H1 a xs) ∧ R (Itl K a) H1
def iTup (K : PySem.W.Frag) (tl : TE) : TI := fun σ H R => tl σ H fun x H1 => ∃ a, x = .ref a ∧ (∃ xs, SqT K H1 a xs) ∧ R (Itt K a) H1
theorem oqs {l : Expr} {tl : TE} (hl : PE X l tl) : PI X tg l (iList X.K tl) := by
 intro pins s σ H R I h
 refine thn (hl pins s σ H _ I h) fun v s1 W' => ?_
 obtain ⟨x, H1, I1, r1, q1⟩ := W'
 obtain ⟨a, e, ⟨xs, hq⟩, q⟩ := q1
 subst e
 cases r1
 obtain ⟨its, rv, p, hz⟩ := I1.list hq
 refine wpAny_pyIter_list p.isList ?_
 refine ⟨s1.heap.objs.size, [s1.heap.objs.size], _, _, H1, rfl, I1.kept (t' := s1.toks) fun b o e => Heap.get?_push_of_some _ e, kq3 a _, ⟨_, Heap.get?_push_size _ rfl, rfl, rfl⟩, fun b hb => ?_, q⟩
 have e : b = s1.heap.objs.size := by simpa using hb
 subst e
 exact I1.fpOk (Nat.le_refl _) (I1.hok.fresh (Nat.le_refl _))
theorem pqJ {l : Expr} {tl : TE} (hl : PE X l tl) : PI X tg l (iTup X.K tl) := by
 intro pins s σ H R I h
 refine thn (hl pins s σ H _ I h) fun v s1 W' => ?_
 obtain ⟨x, H1, I1, r1, q1⟩ := W'
 obtain ⟨a, e, ⟨xs, hq⟩, q⟩ := q1
 subst e
 cases r1
 obtain ⟨its, rv, p, hz⟩ := I1.tuple hq
 refine wpAny_pyIter_tuple (show s1.heap.IsTuple a its.toArray from p) ?_
 refine ⟨s1.heap.objs.size, [s1.heap.objs.size], _, _, H1, rfl, I1.kept (t' := s1.toks) fun b o e => Heap.get?_push_of_some _ e, kqI a _, ⟨_, Heap.get?_push_size _ rfl, rfl, rfl⟩, fun b hb => ?_, q⟩
 have e : b = s1.heap.objs.size := by simpa using hb
 subst e
 exact I1.fpOk (Nat.le_refl _) (I1.hok.fresh (Nat.le_refl _))
theorem mq5 {pins : List (Addr × Obj)} {σ : St} {H : Hp} {s : Shared} {R : It → Hp → Prop} {E : Value → Shared → Prop} {lo hi : Int} {t u v : Tok} {tk : Nat} (I : Inv X pins σ H s) (h1 : -(2 ^ 62) ≤ lo) (h2 : lo < 2 ^ 62) (h3 : -(2 ^ 62) ≤ hi) (h4 : hi < 2 ^ 62)
  (q : R (Itr lo (hi - lo).toNat) H) : wpAny (model X.prog X.w) X.A (pyIter (.ref s.heap.objs.size)) (PIE X pins σ tg R) E { s with heap := s.heap.push { cls := .type "range", data := .fields #[.int lo t, .int hi u, .int 1 v] }, toks := tk } := by
 refine wpAny_pyIter_range (IsRange.new ..) (small_one h1 h2 h3 h4) ?_
 have I1 : Inv X pins σ H { s with heap := s.heap.push { cls := .type "range", data := .fields #[.int lo t, .int hi u, .int 1 v] }, toks := tk } := I.kept fun b o e => Heap.get?_push_of_some _ e
 refine ⟨(s.heap.push { cls := .type "range", data := .fields #[.int lo t, .int hi u, .int 1 v] }).objs.size, [(s.heap.push { cls := .type "range", data := .fields #[.int lo t, .int hi u, .int 1 v] }).objs.size], _, _, H, rfl,
  I1.kept (t' := tk) fun b o e => Heap.get?_push_of_some _ e, kqD _ lo (hi - lo).toNat, ?_, fun b hb => ?_, q⟩
 ·have e1 : lo + ((0 : Nat) : Int) * 1 = lo := by simp
  have e2 : (((hi - lo).toNat : Nat) : Int) - ((0 : Nat) : Int) = Builtin.Range.rangeSize lo hi 1 := by rw [rangeSize_one]; split <;> lia
  show IsRangeIter _ _ (lo + ((0 : Nat) : Int) * 1) ((((hi - lo).toNat : Nat) : Int) - ((0 : Nat) : Int)) 1
  rw [e1, e2]
  exact Heap.get?_push_size _ rfl
 ·have e : b = (s.heap.push { cls := .type "range", data := .fields #[.int lo t, .int hi u, .int 1 v] }).objs.size := by simpa using hb
  subst e
  exact I1.fpOk (Nat.le_refl _) (I1.hok.fresh (Nat.le_refl _))
def iRng1 (ta : TA) : TI := fun σ H R => ta σ H fun vs H1 => ∃ j : Int, vs = [.int j] ∧ -(2 ^ 62) ≤ j ∧ j < 2 ^ 62 ∧ R (Itr 0 j.toNat) H1
theorem bqJ {a : Expr} {ta : TA} {p pos : Pos} (hg : Gl X "range") (hm : X.mg "range" = none) (ha : PA X [a] ta) (hs : starEach [a] X.env = [(false, eval a X.env)] := by rfl) : PI X tg (.Call (.Name "range" p) [a] [] pos) (iRng1 ta) := by
 intro pins s σ H R I h
 refine Call_ (eqD I hg hm boot_range (PyProof.Rows.callWith_type1 (thn (ha pos pins s σ H _ I h) fun us s1 W' => ?_) hs rfl))
 obtain ⟨vs, H1, I1, r1, q1⟩ := W'
 obtain ⟨j, e, q1, q2, q⟩ := q1
 subst e
 cases r1 with
 | cons r rr =>
  cases rr
  obtain ⟨t, rfl⟩ := r
  exact call_range_1 (mq5 I1 (by lia) (by lia) q1 q2 (by simpa using q))
def tFor (wi : TI) (g : TG) (tb : TS) : TS := fun D σ H => wi σ H fun J H1 => ∃ W : Nat → Nat → St → Hp → Prop, (∃ m, W 0 m σ H1) ∧ ∀ i m σ H, W i m σ H →
 (J.stop i H ∧ D.nx σ H) ∨ (J.go i H ∧ ∃ N : St → Hp → Prop, (∀ σ' H', N σ' H' → ∃ m', m' < m ∧ W (i + 1) m' σ' H') ∧ ∀ x H', J.yld i H x H' → g x σ H' fun σ2 H2 => tb { D with nx := N, ct := N, bk := D.nx } σ2 H2)
def pinsAt (fp : List Addr) (h : Heap) : List (Addr × Obj) := fp.filterMap fun b => (h.get? b).map fun o => (b, o)
theorem bq2 {fp : List Addr} {h : Heap} {b : Addr} {o : Obj} (hb : b ∈ fp) (e : h.get? b = some o) : (b, o) ∈ pinsAt fp h := List.mem_filterMap.mpr ⟨b, hb, by rw [e]; rfl⟩
theorem kqX {fp : List Addr} {h : Heap} {p : Addr × Obj} (hp : p ∈ pinsAt fp h) : p.1 ∈ fp ∧ h.get? p.1 = some p.2 := by
 obtain ⟨b, hb, e⟩ := List.mem_filterMap.mp hp
 cases q : h.get? b with
 | none => rw [q] at e; cases e
 | some o =>
  rw [q] at e
  have e' : (b, o) = p := Option.some.inj e
  subst e'
  exact ⟨hb, q⟩
theorem Inv.pinned {pins : List (Addr × Obj)} {σ : St} {H : Hp} {s : Shared} {fp : List Addr} (I : Inv X pins σ H s) (hf : ∀ b ∈ fp, FpOk X pins H b) (ho : ∀ b ∈ fp, ∃ o, s.heap.get? b = some o ∧ ∀ v, o.data ≠ .cell v) : Inv X (pins ++ pinsAt fp s.heap) σ H s :=
 I.pins_of fun p hp => (List.mem_append.mp hp).elim (fun z => I.pin p (List.mem_append_right _ z)) fun z => by
  obtain ⟨hb, e⟩ := kqX z
  obtain ⟨f0, f1, f2, _⟩ := hf p.1 hb
  obtain ⟨o, e', d⟩ := ho p.1 hb
  rw [e] at e'; cases e'
  exact ⟨e, f0, f1, f2, d⟩
theorem Inv.unpinned {pins pl : List (Addr × Obj)} {σ : St} {H : Hp} {s : Shared} (I : Inv X (pins ++ pl) σ H s) : Inv X pins σ H s := I.pins_of fun p hp => I.pin p (List.mem_append_right _ (List.mem_append_left _ hp))
theorem eqt {iter : Expr} {body : List Stmt} {wi : TI} {g : TG} {tb : TS} {pos : Pos} (hp : PassesOwn (model X.prog X.w) X.A X.env X.xe) (hc : X.calm = true) (hi : PI X tg iter wi) (hg : PG X tg g) (hb : PSs X body tb)
  (hs : ∀ x, foldedSetIterable iter X.env x = pure x := by intro _; rfl) : PS X (.For tg iter body [] pos) (tFor wi g tb) := by
 intro pins s σ H D I h
 refine wpAny_For (thn (hi pins s σ H _ I h) fun v s1 h1 => thn h1 fun itv s2 h2 => ?_) hs
 obtain ⟨it, fp, tn, J, H2, e, I2, T, st2, f2, W, ⟨m0, w0⟩, turn⟩ := h2
 subst e
 have stat : ∀ {H' : Hp}, (∀ b ∈ fp, H' b = none) → ∀ b ∈ fp, FpOk X pins H' b := fun hn b hb => ⟨hn b hb, (f2 b hb).2⟩
 refine codeAny_forLoop_any (fun n s' => ∃ i σ' H', Inv X pins σ' H' s' ∧ tn i s'.heap ∧ (∀ b ∈ fp, H' b = none) ∧ W i n σ' H') ?_ m0 ⟨0, σ, H2, I2, st2, fun b hb => (f2 b hb).1, w0⟩
 rintro n s3 ⟨i, σ3, H3, I3, st3, fr3, w3⟩
 rcases turn i n σ3 H3 w3 with ⟨stop, qn⟩ | ⟨go, N, hN, step⟩
 ·refine wpAny_passesOwn hp (thn (T.done X rfl rfl rfl hc i pins s3 σ3 H3 X.xe I3 (stat fr3) st3 stop) fun r s4 W' => ?_)
  obtain ⟨hr, I4⟩ := W'
  subst hr
  exact wpAny_execs_nil ⟨σ3, H3, I4, qn⟩
 ·refine wpAny_passesOwn hp (thn (T.item X rfl rfl rfl hc i pins s3 σ3 H3 X.xe I3 (stat fr3) st3 go) fun r s4 W' => ?_)
  obtain ⟨u, hr, h4⟩ := W'
  subst hr
  refine wpAny_passesOwn hp (thn h4 fun _ s5 W' => ?_)
  obtain ⟨x, H5, I5, r5, y5, st5, fr5⟩ := W'
  have I5' := I5.pinned (stat fr5) (T.obj _ _ st5)
  refine wpAny_passesOwn hp (thn (hg _ s5 σ3 H5 x u _ I5' r5 (step x H5 y5)) fun _ s6 W' => ?_)
  obtain ⟨σ6, H6, I6, q6⟩ := W'
  refine wpAny_passesOwn hp (thn (hb _ s6 σ6 H6 _ I6 q6) fun f s7 q7 => ?_)
  have again : ∀ {σ7 : St} {H7 : Hp}, Inv X (pins ++ pinsAt fp s5.heap) σ7 H7 s7 → N σ7 H7 → ∃ m, m < n ∧ ∃ i σ' H', Inv X pins σ' H' s7 ∧ tn i s7.heap ∧ (∀ b ∈ fp, H' b = none) ∧ W i m σ' H' := fun {σ7 H7} I7 n7 => by
   obtain ⟨m', hm, w7⟩ := hN σ7 H7 n7
   refine ⟨m', hm, i + 1, σ7, H7, I7.unpinned, T.keep _ _ _ st5 fun b hb o e => (I7.pin (b, o) (List.mem_append_right _ (List.mem_append_right _ (bq2 hb e)))).1, fun b hb => ?_, w7⟩
   obtain ⟨o, e, d⟩ := T.obj _ _ st5 b hb
   exact (I7.pin (b, o) (List.mem_append_right _ (List.mem_append_right _ (bq2 hb e)))).2.1
  cases f with
  | next => obtain ⟨σ7, H7, I7, n7⟩ := q7; exact again I7 n7
  | cont => obtain ⟨σ7, H7, I7, n7⟩ := q7; exact again I7 n7
  | brk => obtain ⟨σ7, H7, I7, q7⟩ := q7; exact ⟨σ7, H7, I7.unpinned, q7⟩
  | ret v => obtain ⟨x7, σ7, H7, I7, r7, q7⟩ := q7; exact ⟨x7, σ7, H7, I7.unpinned, r7, q7⟩
end
theorem mqx {K : PySem.W.Frag} {a : Addr} {xs : List V} {g : TG} {tb : TS} {D : Ends} {σ : St} {H : Hp} (Pv : Nat → St → Hp → Prop) (h0 : Pv 0 σ H) (hl : ∀ i σ H, i ≤ xs.length → Pv i σ H → SqL K H a xs)
  (hs : ∀ i x σ H, xs[i]? = some x → Pv i σ H → g x σ H fun σ2 H2 => tb { D with nx := Pv (i + 1), ct := Pv (i + 1), bk := D.nx } σ2 H2) (hd : ∀ σ H, Pv xs.length σ H → D.nx σ H) :
  ∃ W : Nat → Nat → St → Hp → Prop, (∃ m, W 0 m σ H) ∧ ∀ i m σ H, W i m σ H →
   ((Itl K a).stop i H ∧ D.nx σ H) ∨ ((Itl K a).go i H ∧ ∃ N : St → Hp → Prop, (∀ σ' H', N σ' H' → ∃ m', m' < m ∧ W (i + 1) m' σ' H') ∧ ∀ x H', (Itl K a).yld i H x H' → g x σ H' fun σ2 H2 => tb { D with nx := N, ct := N, bk := D.nx } σ2 H2) := by
 refine ⟨fun i m σ H => m = xs.length - i ∧ i ≤ xs.length ∧ Pv i σ H, ⟨xs.length, by simp, Nat.zero_le _, h0⟩, ?_⟩
 rintro i m σ H ⟨rfl, hi, p⟩
 have q := hl i σ H hi p
 by_cases hlt : i < xs.length
 ·refine .inr ⟨⟨xs, xs[i], q, by simp [hlt]⟩, Pv (i + 1), fun σ' H' p' => ⟨xs.length - (i + 1), by lia, rfl, hlt, p'⟩, fun x H' y => ?_⟩
  obtain ⟨e, y⟩ := y
  subst e
  exact hs i x σ _ (y xs q) p
 ·have e : i = xs.length := by lia
  subst e
  exact .inl ⟨⟨xs, q, Nat.le_refl _⟩, hd σ H p⟩
theorem oqt {K : PySem.W.Frag} {a : Addr} {xs : List V} {g : TG} {tb : TS} {D : Ends} {σ : St} {H : Hp} (Pv : Nat → St → Hp → Prop) (h0 : Pv 0 σ H) (hl : ∀ i σ H, i ≤ xs.length → Pv i σ H → SqT K H a xs)
  (hs : ∀ i x σ H, xs[i]? = some x → Pv i σ H → g x σ H fun σ2 H2 => tb { D with nx := Pv (i + 1), ct := Pv (i + 1), bk := D.nx } σ2 H2) (hd : ∀ σ H, Pv xs.length σ H → D.nx σ H) :
  ∃ W : Nat → Nat → St → Hp → Prop, (∃ m, W 0 m σ H) ∧ ∀ i m σ H, W i m σ H →
   ((Itt K a).stop i H ∧ D.nx σ H) ∨ ((Itt K a).go i H ∧ ∃ N : St → Hp → Prop, (∀ σ' H', N σ' H' → ∃ m', m' < m ∧ W (i + 1) m' σ' H') ∧ ∀ x H', (Itt K a).yld i H x H' → g x σ H' fun σ2 H2 => tb { D with nx := N, ct := N, bk := D.nx } σ2 H2) := by
 refine ⟨fun i m σ H => m = xs.length - i ∧ i ≤ xs.length ∧ Pv i σ H, ⟨xs.length, by simp, Nat.zero_le _, h0⟩, ?_⟩
 rintro i m σ H ⟨rfl, hi, p⟩
 have q := hl i σ H hi p
 by_cases hlt : i < xs.length
 ·refine .inr ⟨⟨xs, xs[i], q, by simp [hlt]⟩, Pv (i + 1), fun σ' H' p' => ⟨xs.length - (i + 1), by lia, rfl, hlt, p'⟩, fun x H' y => ?_⟩
  obtain ⟨e, y⟩ := y
  subst e
  exact hs i x σ _ (y xs q) p
 ·have e : i = xs.length := by lia
  subst e
  exact .inl ⟨⟨xs, q, Nat.le_refl _⟩, hd σ H p⟩
theorem lqD {lo : Int} {n : Nat} {g : TG} {tb : TS} {D : Ends} {σ : St} {H : Hp} (Pv : Nat → St → Hp → Prop) (h0 : Pv 0 σ H)
  (hs : ∀ i σ H, i < n → Pv i σ H → g (.int (lo + i)) σ H fun σ2 H2 => tb { D with nx := Pv (i + 1), ct := Pv (i + 1), bk := D.nx } σ2 H2) (hd : ∀ σ H, Pv n σ H → D.nx σ H) :
  ∃ W : Nat → Nat → St → Hp → Prop, (∃ m, W 0 m σ H) ∧ ∀ i m σ H, W i m σ H →
   ((Itr lo n).stop i H ∧ D.nx σ H) ∨ ((Itr lo n).go i H ∧ ∃ N : St → Hp → Prop, (∀ σ' H', N σ' H' → ∃ m', m' < m ∧ W (i + 1) m' σ' H') ∧ ∀ x H', (Itr lo n).yld i H x H' → g x σ H' fun σ2 H2 => tb { D with nx := N, ct := N, bk := D.nx } σ2 H2) := by
 refine ⟨fun i m σ H => m = n - i ∧ i ≤ n ∧ Pv i σ H, ⟨n, by simp, Nat.zero_le _, h0⟩, ?_⟩
 rintro i m σ H ⟨rfl, hi, p⟩
 by_cases hlt : i < n
 ·refine .inr ⟨hlt, Pv (i + 1), fun σ' H' p' => ⟨n - (i + 1), by lia, rfl, hlt, p'⟩, fun x H' y => ?_⟩
  obtain ⟨e, y⟩ := y
  subst e y
  exact hs i σ _ hlt p
 ·have e : i = n := by lia
  subst e
  exact .inl ⟨Nat.le_refl _, hd σ H p⟩
abbrev R2 := V → V → Hp → VK → Prop
def OpR (X : Cx) (f : Value → Value → Sem Value) (r : R2) : Prop :=
 ∀ (pins : List (Addr × Obj)) (s : Shared) (σ : St) (H : Hp) (x y : V) (v u : Value) (Q : VK), Inv X pins σ H s → RelV x v → RelV y u → r x y H Q →
  wpAny (model X.prog X.w) X.A (f v u) (EP X pins σ Q) X.xe s
def UnR (X : Cx) (f : Value → Sem Value) (r : V → Hp → VK → Prop) : Prop :=
 ∀ (pins : List (Addr × Obj)) (s : Shared) (σ : St) (H : Hp) (x : V) (v : Value) (Q : VK), Inv X pins σ H s → RelV x v → r x H Q →
  wpAny (model X.prog X.w) X.A (f v) (EP X pins σ Q) X.xe s
def CallR (X : Cx) (f : Value) (r : List V → Hp → VK → Prop) : Prop :=
 ∀ (pins : List (Addr × Obj)) (s : Shared) (σ : St) (H : Hp) (xs : List V) (us : List Value) (Q : VK), Inv X pins σ H s → Vals xs us → r xs H Q →
  wpAny (model X.prog X.w) X.A (call f us) (EP X pins σ Q) X.xe s
def tOp (r : R2) (ta tb : TE) : TE := fun σ H Q => ta σ H fun x H1 => tb σ H1 fun y H2 => r x y H2 Q
def tUn (r : V → Hp → VK → Prop) (ta : TE) : TE := fun σ H Q => ta σ H fun x H1 => r x H1 Q
def rI (C : Int → Int → Prop) (g : Int → Int → V) : R2 := fun x y H Q => ∃ i j, x = .int i ∧ y = .int j ∧ C i j ∧ Q (g i j) H
def rI0 (g : Int → Int → V) : R2 := fun x y H Q => ∃ i j, x = .int i ∧ y = .int j ∧ Q (g i j) H
def rU (g : Int → V) : V → Hp → VK → Prop := fun x H Q => ∃ i, x = .int i ∧ Q (g i) H
section
variable {X : Cx} {a b c : Expr} {ta tb tc : TE} {pos : Pos}
theorem binT (ha : PE X a ta) (hb : PE X b tb) {pins : List (Addr × Obj)} {s : Shared} {σ : St} {H : Hp} {R : V → V → Hp → Prop} (I : Inv X pins σ H s)
  (h : ta σ H fun x H1 => tb σ H1 fun y H2 => R x y H2) {Q : Value → Shared → Prop} {f : Value → Value → Sem Value}
  (hf : ∀ v u s2 x y H2, Inv X pins σ H2 s2 → RelV x v → RelV y u → R x y H2 → wpAny (model X.prog X.w) X.A (f v u) Q X.xe s2) :
  wpAny (model X.prog X.w) X.A (eval a X.env) (fun v s₁ => wpAny (model X.prog X.w) X.A (eval b X.env) (fun u s₂ => wpAny (model X.prog X.w) X.A (f v u) Q X.xe s₂) X.xe s₁) X.xe s := by
 refine thn (ha pins s σ H _ I h) fun v s1 W' => ?_
 obtain ⟨x, H1, I1, r1, q1⟩ := W'
 refine thn (hb pins s1 σ H1 _ I1 q1) fun u s2 W' => ?_
 obtain ⟨y, H2, I2, r2, q2⟩ := W'
 exact hf v u s2 x y H2 I2 r1 r2 q2
theorem aqf {op : Operator} {r : R2} (ho : OpR X (binaryOp op) r) (ha : PE X a ta) (hb : PE X b tb) : PE X (.BinOp a op b pos) (tOp r ta tb) := by
 intro pins s σ H Q I h
 exact wpAny_BinOp (binT ha hb I h fun v u s2 x y H2 I2 rx ry q => ho pins s2 σ H2 x y v u Q I2 rx ry q)
theorem qqf {op : UnaryOp} {r : V → Hp → VK → Prop} (ho : UnR X (unaryOp op) r) (ha : PE X a ta) : PE X (.UnaryOp op a pos) (tUn r ta) := by
 intro pins s σ H Q I h
 exact UnaryOp_ (thn (ha pins s σ H _ I h) fun v s1 ⟨x, H1, I1, r1, q1⟩ => ho pins s1 σ H1 x v Q I1 r1 q1)
theorem opI {f : Value → Value → Sem Value} {C : Int → Int → Prop} {g : Int → Int → Int}
  (rule : ∀ (i j : Int) (t u : Tok) (s : Shared) (Q : Value → Shared → Prop) (E : Value → Shared → Prop), C i j → Q (.int (g i j) s.toks) { s with toks := s.toks + 1 } → wpAny (model X.prog X.w) X.A (f (.int i t) (.int j u)) Q E s) :
  OpR X f (rI C fun i j => .int (g i j)) := by
 intro pins s σ H x y v u Q I rx ry h
 obtain ⟨i, j, rfl, rfl, hc, q⟩ := h
 obtain ⟨t, rfl⟩ := rx
 obtain ⟨t', rfl⟩ := ry
 exact rule i j t t' s _ _ hc ⟨.int (g i j), H, I.tok _, ⟨_, rfl⟩, q⟩
theorem opI0 {f : Value → Value → Sem Value} {g : Int → Int → Int}
  (rule : ∀ (i j : Int) (t u : Tok) (s : Shared) (Q : Value → Shared → Prop) (E : Value → Shared → Prop), Q (.int (g i j) s.toks) { s with toks := s.toks + 1 } → wpAny (model X.prog X.w) X.A (f (.int i t) (.int j u)) Q E s) :
  OpR X f (rI0 fun i j => .int (g i j)) := by
 intro pins s σ H x y v u Q I rx ry h
 obtain ⟨i, j, rfl, rfl, q⟩ := h
 obtain ⟨t, rfl⟩ := rx
 obtain ⟨t', rfl⟩ := ry
 exact rule i j t t' s _ _ ⟨.int (g i j), H, I.tok _, ⟨_, rfl⟩, q⟩
theorem opB0 {f : Value → Value → Sem Value} {g : Int → Int → Bool}
  (rule : ∀ (i j : Int) (t u : Tok) (s : Shared) (Q : Value → Shared → Prop) (E : Value → Shared → Prop), Q (.bool (g i j)) s → wpAny (model X.prog X.w) X.A (f (.int i t) (.int j u)) Q E s) :
  OpR X f (rI0 fun i j => .bl (g i j)) := by
 intro pins s σ H x y v u Q I rx ry h
 obtain ⟨i, j, rfl, rfl, q⟩ := h
 obtain ⟨t, rfl⟩ := rx
 obtain ⟨t', rfl⟩ := ry
 exact rule i j t t' s _ _ ⟨.bl (g i j), H, I, rfl, q⟩
def CDiv (i j : Int) : Prop := 0 < j ∧ j < 1073741824
def CPow (i j : Int) : Prop := 0 ≤ j ∧ j ≤ 1000000 ∧ i.natAbs < 2 ^ 64
def CMul (i j : Int) : Prop := (-(2 ^ 64) < i ∧ i < 2 ^ 64) ∨ (-(2 ^ 64) < j ∧ j < 2 ^ 64)
theorem CMul.ok {i j : Int} (h : CMul i j) : IntMulOk i j := by
 rcases h with ⟨h1, h2⟩ | ⟨h1, h2⟩
 ·exact .of_left (intBits_le_64 h1 h2)
 ·exact .of_right (intBits_le_64 h1 h2)
theorem qqE : OpR X (binaryOp .Add) (rI0 fun i j => .int (i + j)) := opI0 fun _ _ _ _ _ _ _ q => add_int q
theorem lq1 : OpR X (binaryOp .Sub) (rI0 fun i j => .int (i - j)) := opI0 fun _ _ _ _ _ _ _ q => sub_int q
theorem pqt : OpR X (binaryOp .Mult) (rI CMul fun i j => .int (i * j)) := opI fun _ _ _ _ _ _ _ hc q => mul_int q hc.ok
theorem aqA : OpR X (binaryOp .FloorDiv) (rI CDiv fun i j => .int (i / j)) := opI fun i j _ _ _ _ _ hc q => by
 have h1 : (0 : Int) < j := hc.1
 have h2 : j < 1073741824 := hc.2
 exact floordiv_int (by lia) (by rw [Int.fdiv_eq_ediv_of_nonneg i (by lia)]; exact q) (.inl (PyProof.noPylong_small (by lia)))
theorem aqC : OpR X (binaryOp .Mod) (rI (fun _ j => 0 < j) fun i j => .int (i % j)) := opI fun i j _ _ _ _ _ hc q => by
 have h1 : (0 : Int) < j := hc
 exact mod_int' (by lia) (by rw [Int.fmod_eq_emod_of_nonneg i (by lia)]; exact q)
theorem gq0 : OpR X (binaryOp .Pow) (rI CPow fun i j => .int (i ^ j.toNat)) := opI fun _ _ _ _ _ _ _ hc q => pow_int_small hc.1 hc.2.1 hc.2.2 q
theorem unI {f : Value → Sem Value} {g : Int → Int}
  (rule : ∀ (i : Int) (t : Tok) (s : Shared) (Q : Value → Shared → Prop) (E : Value → Shared → Prop), Q (.int (g i) s.toks) { s with toks := s.toks + 1 } → wpAny (model X.prog X.w) X.A (f (.int i t)) Q E s) :
  UnR X f (rU fun i => .int (g i)) := by
 intro pins s σ H x v Q I rx h
 obtain ⟨i, rfl, q⟩ := h
 obtain ⟨t, rfl⟩ := rx
 exact rule i t s _ _ ⟨.int (g i), H, I.tok _, ⟨_, rfl⟩, q⟩
theorem nqx : UnR X (unaryOp .USub) (rU fun i => .int (-i)) := unI fun _ _ _ _ _ q => neg_int q
end
def scal : V → V → Bool
 | .non, .non => true | .non, .int _ => true | .int _, .non => true | .non, .bl _ => true | .bl _, .non => true | .non, .str _ => true | .str _, .non => true
 | .int _, .int _ => true | .bl _, .bl _ => true | .str _, .str _ => true | .byt _, .byt _ => true
 | .int _, .str _ => true | .str _, .int _ => true | .bl _, .str _ => true | .str _, .bl _ => true
 | _, _ => false
def rEq : R2 := fun x y H Q => scal x y = true ∧ Q (.bl (decide (x = y))) H
def rNe : R2 := fun x y H Q => scal x y = true ∧ Q (.bl (!decide (x = y))) H
theorem kqW {i j : Int} : decide (V.int i = V.int j) = (i == j) := by
 rw [Bool.eq_iff_iff]
 simp
theorem nqv {i j : Bool} : decide (V.bl i = V.bl j) = (i == j) := by
 rw [Bool.eq_iff_iff]
 simp
theorem lqk {i j : Str} : decide (V.str i = V.str j) = (i == j) := by
 rw [Bool.eq_iff_iff]
 simp
theorem lqI {i j : Array UInt8} : decide (V.byt i = V.byt j) = (i.toList == j.toList) := by
 rw [Bool.eq_iff_iff]
 cases i
 cases j
 simp
section
variable {X : Cx} {a b c : Expr} {ta tb tc : TE} {pos : Pos}
theorem aqF {pins : List (Addr × Obj)} {σ : St} {H : Hp} {s : Shared} {Q : VK} {k k' : Bool} (I : Inv X pins σ H s) (q : Q (.bl k) H) (e : k = k') : EP X pins σ Q (.bool k') s := by
 subst e
 exact ⟨.bl k, H, I, rfl, q⟩
theorem aq9 : OpR X (compareOp .Eq) rEq := by
 intro pins s σ H x y v u Q I rx ry h
 obtain ⟨hs, q⟩ := h
 cases x with
 | non =>
  cases rx
  cases y with
  | non => cases ry; exact PySem.EqNone.eq_none_none (aqF I q (by simp))
  | bl j => cases ry; exact PySem.EqNone.eq_none_bool (aqF I q (by simp))
  | int j => obtain ⟨t', rfl⟩ := ry; exact PySem.EqNone.eq_none_int (aqF I q (by simp))
  | str j => obtain ⟨t', rfl⟩ := ry; exact PySem.EqNone.eq_none_str (aqF I q (by simp))
  | _ => exact absurd (show false = true from hs) Bool.false_ne_true
 | bl i =>
  cases rx
  cases y with
  | non => cases ry; exact PySem.EqNone.eq_bool_none (aqF I q (by simp))
  | bl j => cases ry; exact eq_bool (aqF I q nqv)
  | str j => obtain ⟨t', rfl⟩ := ry; exact PySem.EqMixed.eq_bool_str (aqF I q (by simp))
  | _ => exact absurd (show false = true from hs) Bool.false_ne_true
 | int i =>
  obtain ⟨t, rfl⟩ := rx
  cases y with
  | non => cases ry; exact PySem.EqNone.eq_int_none (aqF I q (by simp))
  | int j => obtain ⟨t', rfl⟩ := ry; exact eq_int (aqF I q kqW)
  | str j => obtain ⟨t', rfl⟩ := ry; exact PySem.EqMixed.eq_int_str (aqF I q (by simp))
  | _ => exact absurd (show false = true from hs) Bool.false_ne_true
 | str i =>
  obtain ⟨t, rfl⟩ := rx
  cases y with
  | non => cases ry; exact PySem.EqNone.eq_str_none (aqF I q (by simp))
  | bl j => cases ry; exact PySem.EqMixed.eq_str_bool (aqF I q (by simp))
  | int j => obtain ⟨t', rfl⟩ := ry; exact PySem.EqMixed.eq_str_int (aqF I q (by simp))
  | str j => obtain ⟨t', rfl⟩ := ry; exact eq_str (aqF I q lqk)
  | _ => exact absurd (show false = true from hs) Bool.false_ne_true
 | byt i =>
  obtain ⟨t, rfl⟩ := rx
  cases y with
  | byt j => obtain ⟨t', rfl⟩ := ry; exact PySem.W.eq_bytes (aqF I q lqI)
  | _ => exact absurd (show false = true from hs) Bool.false_ne_true
 | _ => cases y <;> exact absurd (show false = true from hs) Bool.false_ne_true
theorem nqd : OpR X (compareOp .NotEq) rNe := by
 intro pins s σ H x y v u Q I rx ry h
 obtain ⟨hs, q⟩ := h
 cases x with
 | non =>
  cases rx
  cases y with
  | non => cases ry; exact PySem.EqNone.ne_none_none (aqF I q (by simp))
  | bl j => cases ry; exact PySem.EqNone.ne_none_bool (aqF I q (by simp))
  | int j => obtain ⟨t', rfl⟩ := ry; exact PySem.EqNone.ne_none_int (aqF I q (by simp))
  | str j => obtain ⟨t', rfl⟩ := ry; exact PySem.EqNone.ne_none_str (aqF I q (by simp))
  | _ => exact absurd (show false = true from hs) Bool.false_ne_true
 | bl i =>
  cases rx
  cases y with
  | non => cases ry; exact PySem.EqNone.ne_bool_none (aqF I q (by simp))
  | bl j => cases ry; exact ne_bool (aqF I q (congrArg not nqv))
  | str j => obtain ⟨t', rfl⟩ := ry; exact PySem.EqMixed.ne_bool_str (aqF I q (by simp))
  | _ => exact absurd (show false = true from hs) Bool.false_ne_true
 | int i =>
  obtain ⟨t, rfl⟩ := rx
  cases y with
  | non => cases ry; exact PySem.EqNone.ne_int_none (aqF I q (by simp))
  | int j => obtain ⟨t', rfl⟩ := ry; exact ne_int (aqF I q (congrArg not kqW))
  | str j => obtain ⟨t', rfl⟩ := ry; exact PySem.EqMixed.ne_int_str (aqF I q (by simp))
  | _ => exact absurd (show false = true from hs) Bool.false_ne_true
 | str i =>
  obtain ⟨t, rfl⟩ := rx
  cases y with
  | non => cases ry; exact PySem.EqNone.ne_str_none (aqF I q (by simp))
  | bl j => cases ry; exact PySem.EqMixed.ne_str_bool (aqF I q (by simp))
  | int j => obtain ⟨t', rfl⟩ := ry; exact PySem.EqMixed.ne_str_int (aqF I q (by simp))
  | str j => obtain ⟨t', rfl⟩ := ry; exact ne_str (aqF I q (congrArg not lqk))
  | _ => exact absurd (show false = true from hs) Bool.false_ne_true
 | byt i =>
  obtain ⟨t, rfl⟩ := rx
  cases y with
  | byt j => obtain ⟨t', rfl⟩ := ry; exact PySem.W.ne_bytes (aqF I q (congrArg not lqI))
  | _ => exact absurd (show false = true from hs) Bool.false_ne_true
 | _ => cases y <;> exact absurd (show false = true from hs) Bool.false_ne_true
theorem mqI : OpR X (compareOp .Lt) (rI0 fun i j => .bl (decide (i < j))) := opB0 fun _ _ _ _ _ _ _ q => lt_int q
theorem oqQ : OpR X (compareOp .LtE) (rI0 fun i j => .bl (decide (i ≤ j))) := opB0 fun _ _ _ _ _ _ _ q => le_int q
theorem nq6 : OpR X (compareOp .Gt) (rI0 fun i j => .bl (decide (j < i))) := opB0 fun _ _ _ _ _ _ _ q => gt_int q
theorem kq5 : OpR X (compareOp .In) (fun x y H Q => ∃ i j, x = .str i ∧ y = .str j ∧ Q (.bl (!(Builtin.Str.occurrences j i 0 j.length 1).isEmpty)) H) := by
 intro pins s σ H x y v u Q I rx ry h
 obtain ⟨i, j, rfl, rfl, q⟩ := h
 obtain ⟨t, rfl⟩ := rx
 obtain ⟨t', rfl⟩ := ry
 exact in_str (aqF I q rfl)
theorem pqH : OpR X (compareOp .Is) (fun x y H Q => y = .non ∧ Q (.bl (decide (x = .non))) H) := by
 intro pins s σ H x y v u Q I rx ry h
 obtain ⟨rfl, q⟩ := h
 cases ry
 refine is_none_gen (aqF I q ?_)
 cases x <;> first
  | (cases rx; rfl)
  | (obtain ⟨t, rfl⟩ := rx; rfl)
theorem oqa : OpR X (compareOp .IsNot) (fun x y H Q => y = .non ∧ Q (.bl (!decide (x = .non))) H) := by
 intro pins s σ H x y v u Q I rx ry h
 obtain ⟨rfl, q⟩ := h
 cases ry
 refine isnot_none_gen (aqF I q ?_)
 cases x <;> first
  | (cases rx; rfl)
  | (obtain ⟨t, rfl⟩ := rx; rfl)
theorem nomark (b : Expr) {op : CmpOp} (h : op ≠ .In := by decide) (h2 : op ≠ .NotIn := by decide) : behindInMarks op b = false := by
 have e1 : (op == CmpOp.In) = false := by cases op <;> first | rfl | exact absurd rfl h
 have e2 : (op == CmpOp.NotIn) = false := by cases op <;> first | rfl | exact absurd rfl h2
 cases b <;> simp [behindInMarks, e1, e2]
theorem cq6 {op : CmpOp} {r : R2} (ho : OpR X (compareOp op) r) (ha : PE X a ta) (hb : PE X b tb) (hm : behindInMarks op b = false) : PE X (.Compare a [op] [b] pos) (tOp r ta tb) := by
 intro pins s σ H Q I h
 exact wpAny_Compare1 (binT ha hb I h fun v u s2 x y H2 I2 rx ry q => ho pins s2 σ H2 x y v u Q I2 rx ry q) hm
def tTest (t : TE) : TT := fun σ H Q => t σ H fun x H' => ∃ k, x = .bl k ∧ Q k H'
theorem aqp {op : CmpOp} {r : R2} (ho : OpR X (compareOp op) r) (ha : PE X a ta) (hb : PE X b tb) (hm : behindInMarks op b = false) : PT X (.Compare a [op] [b] pos) (tTest (tOp r ta tb)) := by
 intro pins s σ H Q I h
 refine wpAny_isTrue_Compare1 (thn (ha pins s σ H _ I h) fun v s1 ⟨x, H1, I1, r1, q1⟩ => thn (hb pins s1 σ H1 _ I1 q1) fun u s2 ⟨y, H2, I2, r2, q2⟩ =>
  thn (ho pins s2 σ H2 x y v u _ I2 r1 r2 q2) fun c s3 ⟨z, H3, I3, r3, k, e, q3⟩ => ?_) hm
 subst e
 cases r3
 exact wpAny_truthy_bool ⟨H3, I3, q3⟩
def tChain (r r' : R2) (ta tb tc : TE) : TE := fun σ H Q => ta σ H fun x H1 => tb σ H1 fun y H2 => r x y H2 fun z H3 => ∃ k, z = .bl k ∧
 (if k = true then tc σ H3 fun w' H4 => r' y w' H4 Q else Q (.bl false) H3)
theorem jqB {op op' : CmpOp} {r r' : R2} (ho : OpR X (compareOp op) r) (ho' : OpR X (compareOp op') r') (ha : PE X a ta) (hb : PE X b tb) (hc : PE X c tc)
  (hm : lastMarks [op, op'] [b, c] = false := by with_unfolding_all rfl) : PE X (.Compare a [op, op'] [b, c] pos) (tChain r r' ta tb tc) := by
 intro pins s σ H Q I h
 refine Compare_chain (thn (ha pins s σ H _ I h) fun v s1 ⟨x, H1, I1, r1, q1⟩ => chain_link (thn (hb pins s1 σ H1 _ I1 q1) fun u s2 ⟨y, H2, I2, r2, q2⟩ =>
  thn (ho pins s2 σ H2 x y v u _ I2 r1 r2 q2) fun d s3 ⟨z, H3, I3, r3, k, e, q3⟩ => ?_)) hm
 subst e
 cases r3
 refine wpAny_truthy_bool ?_
 cases k with
 | false => exact ite_ff ⟨.bl false, H3, I3, rfl, q3⟩
 | true => exact ite_tt (chain_last (thn (hc pins s3 σ H3 _ I3 q3) fun w' s4 ⟨z', H4, I4, r4, q4⟩ => ho' pins s4 σ H4 y z' u w' Q I4 r2 r4 q4))
theorem line63 : (sizeLine : Nat) < 2 ^ 63 := by rw [sizeLine_eq]; decide
theorem kqj : OpR X (binaryOp .Add) (fun x y H Q => ∃ i j, x = .str i ∧ y = .str j ∧ i.length + j.length ≤ sizeLine ∧ Q (.str (i ++ j)) H) := by
 intro pins s σ H x y v u Q I rx ry h
 obtain ⟨i, j, rfl, rfl, hz, q⟩ := h
 obtain ⟨t, rfl⟩ := rx
 obtain ⟨t', rfl⟩ := ry
 exact add_str (fun t' tk => ⟨.str (i ++ j), H, I.tok _, ⟨_, rfl⟩, q⟩) hz
theorem vals1 {x : V} {us : List Value} (r : Vals [x] us) : ∃ u, us = [u] ∧ RelV x u := by
 cases r with
 | cons r1 r2 => cases r2; exact ⟨_, rfl, r1⟩
theorem vals2 {x y : V} {us : List Value} (r : Vals [x, y] us) : ∃ u w', us = [u, w'] ∧ RelV x u ∧ RelV y w' := by
 cases r with
 | cons r1 r2 =>
  cases r2 with
  | cons r3 r4 => cases r4; exact ⟨_, _, rfl, r1, r3⟩
theorem iqk : CallR X (.type "str") (fun xs H Q => ∃ i, xs = [.int i] ∧ i.natAbs.log2 < 1920 ∧ Q (.str (toString i)) H) := by
 intro pins s σ H xs us Q I r h
 obtain ⟨i, rfl, hz, q⟩ := h
 obtain ⟨u, rfl, t, rfl⟩ := vals1 r
 exact PySem.P.str_of_int hz ⟨.str _, H, I.tok _, ⟨_, rfl⟩, q⟩
end
structure ObjM (h : Heap) (x dx C : Addr) (mA : Str → Option Value) : Prop where
 obj : h.get? x = some (PySem.W.instObj C dx)
 ns : h.Ns1 dx mA
 ne : dx ≠ x
theorem iqT {h : Heap} {dx : Addr} {mA : Str → Option Value} (n : h.Ns1 dx mA) : ∃ od, h.get? dx = some od ∧ ∀ name, PySem.W.lookIn name od = some (mA name) := by
 obtain ⟨o, es, ep, ho, hd, hk, _, hm⟩ := n
 refine ⟨o, ho, fun name => ?_⟩
 have e := hm name
 unfold nsFind findBy at e
 rw [← Array.find?_toList] at e
 unfold PySem.W.lookIn
 rw [hd]
 dsimp only
 split
 ·rename_i y q
  rw [q] at e
  exact congrArg some e
 ·rename_i q
  rw [q] at e
  have a : es.toList.any (·.refKey) = false := by
   rw [List.any_eq_false]
   intro y hy
   obtain ⟨z, t, hkey⟩ := hk y (Array.mem_toList_iff.mp hy)
   simp [DictEntry.refKey, hkey]
  have a' : ¬ es.toList.any (·.refKey) = true := by rw [a]; exact Bool.false_ne_true
  rw [if_neg a']
  exact congrArg some e
theorem ObjM.look {h : Heap} {x dx C : Addr} {mA : Str → Option Value} (I : ObjM h x dx C mA) : ∃ od, PySem.W.InstAt h x (PySem.W.instObj C dx) C (some od) ∧ ∀ name, PySem.W.lookIn name od = some (mA name) :=
 let ⟨od, ho, hl⟩ := iqT I.ns
 ⟨od, ⟨I.obj, rfl, rfl, ho⟩, hl⟩
section
variable {prog : Program} {w : World} {A : Around} {E : Value → Shared → Prop} {s : Shared} {K : PySem.W.Frag} {x dx C f : Addr} {mA : Str → Option Value} {name : Str} {v : Value}
end
def putF (f : Str) (v : V) : List (Str × V) → List (Str × V)
 | [] => [(f, v)]
 | (g, x) :: r => if g = f then (g, v) :: r else (g, x) :: putF f v r
theorem RelO.some_of {v : V} {o : Option Value} (r : RelO (some v) o) : ∃ u, o = some u ∧ RelV v u := by
 cases o with
 | none => exact (show False from r).elim
 | some u => exact ⟨u, rfl, r⟩
theorem kqY {v : V} {u : Value} (r : RelV v u) : PySem.W.handedIn u = true := by
 cases v with
 | non => cases (show u = Value.none from r); rfl
 | bl b => cases (show u = Value.bool b from r); rfl
 | int i => obtain ⟨t, e⟩ := (show ∃ t, u = Value.int i t from r); cases e; rfl
 | str x => obtain ⟨t, e⟩ := (show ∃ t, u = Value.str x t from r); cases e; rfl
 | byt b => obtain ⟨t, e⟩ := (show ∃ t, u = Value.bytes b t from r); cases e; rfl
 | flt b => obtain ⟨t, e⟩ := (show ∃ t, u = Value.float b t from r); cases e; rfl
 | ref a => cases (show u = Value.ref a from r); rfl
 | ty n => cases (show u = Value.type n from r); rfl
section
variable {P : Program} {w : World} {H H' : Hp} {h h' : Heap} {a C dx : Addr} {fs fs' : List (Str × V)}
theorem nqE (hok : HOk P w H h) (e : H a = some (.ins C dx fs)) : ∃ mA, ObjM h a dx C mA ∧ (∀ f, RelO (fs.lookup f) (mA f)) ∧ PySem.Within mA (fs.map (·.1)) ∧ fs.length ≤ 1000 ∧ H dx = some (.own a) := by
 obtain ⟨d, z, ne, ob, mA, n, r, q⟩ := (show ObjOk P w H h a (.ins C dx fs) from hok a _ e)
 exact ⟨mA, ⟨ob, n, ne⟩, r, q, z, d⟩
end
structure Cls (K : PySem.W.Frag) (C : Addr) : Prop where
 pg : PySem.W.plainGet K C Str.empty = true
 hd : PySem.W.hasDictIn K C = true
 po : PySem.W.plainOver K C = true
 sa : PySem.W.findIn K (.ref C) "__setattr__" = some (some (.builtin "object.__setattr__"))
theorem Cls.get {K : PySem.W.Frag} {C : Addr} (c : Cls K C) (f : Str) : PySem.W.plainGet K C f = true := c.pg
def NoAttr (K : PySem.W.Frag) (C : Addr) (f : Str) : Prop := PySem.W.findIn K (.ref C) f = some none
theorem NoAttr.taker {K : PySem.W.Frag} {C : Addr} {f : Str} (n : NoAttr K C f) : PySem.W.takerIn K C f = some none := by
 unfold PySem.W.takerIn
 rw [show PySem.W.findIn K (.ref C) f = some none from n]
 rfl
structure Con (K : PySem.W.Frag) (C : Addr) (f : Str) (v : V) (u : Value) : Prop where
 at_ : PySem.W.findIn K (.ref C) f = some (some u)
 rel : RelV v u
 get : PySem.W.specialIn K u "__get__" = some none
 cp : PySem.W.copiedNames.contains f = false
structure Meth (K : PySem.W.Frag) (C : Addr) (m : Str) (f : Addr) : Prop where
 at_ : PySem.W.findIn K (.ref C) m = some (some (.ref f))
 fn : PySem.W.isFn K (.ref f) = true
 kp : PySem.W.keepIn K (.ref f) = true
section
variable {X : Cx} {pins : List (Addr × Obj)} {σ : St} {H : Hp} {s : Shared} {a C dx : Addr} {fs : List (Str × V)} {f : Str} {v : V} {A : Around} {E : Value → Shared → Prop}
theorem oqz {prog : Program} {w : World} {env : Env} {e : Expr} {f : Str} {pos : Pos} {s : Shared} {Q : Value → Shared → Prop} (hb : attributeBase e f env (eval e env) = eval e env)
  (h : wpAny (model prog w) A (eval e env) (fun o s₁ => wpAny (model prog w) A (getAttr o f true) Q E s₁) E s) : wpAny (model prog w) A (eval (.Attribute e f pos) env) Q E s :=
 Attribute_any_ h (by rw [arm_eval_Attribute, hb])
end
def tFld (K : PySem.W.Frag) (ta : TE) (f : Str) : TE := fun σ H Q => ta σ H fun x H1 => ∃ a C dx fs v, x = .ref a ∧ H1 a = some (.ins C dx fs) ∧ Cls K C ∧ NoAttr K C f ∧ fs.lookup f = some v ∧ Q v H1
def sFld (K : PySem.W.Frag) (ta tv : TE) (f : Str) : TS := fun D σ H => tv σ H fun y H1 => ta σ H1 fun x H2 => ∃ a C dx fs, x = .ref a ∧ H2 a = some (.ins C dx fs) ∧ Cls K C ∧ NoAttr K C f ∧ fs.length < 1000 ∧
 D.nx σ (upd H2 a (.ins C dx (putF f y fs)))
section
variable {X : Cx} {o e value : Expr} {f : Str} {pos pos' tpos : Pos} {ta tv : TE}
end
section
variable {X : Cx} {pins : List (Addr × Obj)} {σ : St} {H : Hp} {s : Shared} {A : Around} {E : Value → Shared → Prop} {Q : Value → Shared → Prop} {c : Value} {b : Bool}
inductive TyOf (K : PySem.W.Frag) (H : Hp) : V → Value → Prop where
 | non : TyOf K H .non (.type "NoneType")
 | bl (x : Bool) : TyOf K H (.bl x) (.type "bool")
 | int (i : Int) : TyOf K H (.int i) (.type "int")
 | str (x : Str) : TyOf K H (.str x) (.type "str")
 | flt (x : UInt64) : TyOf K H (.flt x) (.type "float")
 | lst {a : Addr} {xs : List V} (e : H a = some (.lst xs)) : TyOf K H (.ref a) (.type "list")
 | frz {a : Addr} {o : Obj} {xs : List V} (e : H a = some (.frz o (.lst xs))) : TyOf K H (.ref a) (.type "list")
 | tup {a : Addr} {xs : List V} (e : H a = some (.tup xs)) : TyOf K H (.ref a) (.type "tuple")
 | dK {a : Addr} {kvs : List (Key × V)} (e : H a = some (.dK kvs)) : TyOf K H (.ref a) (.type "dict")
 | dT {a : Addr} {kvs : List (List Key × V)} (e : H a = some (.dT kvs)) : TyOf K H (.ref a) (.type "dict")
 | ins {a C dx : Addr} {fs : List (Str × V)} (e : H a = some (.ins C dx fs)) (cl : Cls K C) (ha : PySem.W.findIn K (.ref C) "__class__" = some (some (.builtin "object.__class__")))
   (hn : PySem.W.specialIn K (.builtin "object.__class__") "__get__" = some (some (.builtin "getset_descriptor.__get__"))) (htk : PySem.W.takesIn K (.builtin "object.__class__") = some true)
   (hm : PySem.W.mroIn K C (.type "object") = some true) : TyOf K H (.ref a) (.ref C)
theorem kq8 {x : V} {u t : Value} (I : Inv X pins σ H s) (rx : RelV x u) (ty : TyOf X.K H x t) (e : PySem.W.kitOne X.K t c = some b) (h : ∀ tk, Q (.bool b) { s with toks := tk }) :
  wpAny (model X.prog X.w) A (call (.builtin "isinstance") [u, c]) Q E s := by
 cases ty with
 | non => cases (show u = Value.none from rx); exact PySem.W.kia_one PySem.W.kitx_none I.kIn True.intro e (fun z => nomatch z) h
 | bl y => cases (show u = Value.bool y from rx); exact PySem.W.kia_one PySem.W.kitx_bool I.kIn True.intro e (fun z => nomatch z) h
 | int i => obtain ⟨t, q⟩ := (show ∃ t, u = Value.int i t from rx); cases q; exact PySem.W.kia_one PySem.W.kitx_int I.kIn True.intro e (fun z => nomatch z) h
 | str y => obtain ⟨t, q⟩ := (show ∃ t, u = Value.str y t from rx); cases q; exact PySem.W.kia_one PySem.W.kitx_str I.kIn True.intro e (fun z => nomatch z) h
 | flt y => obtain ⟨t, q⟩ := (show ∃ t, u = Value.float y t from rx); cases q; exact PySem.W.kia_one PySem.W.kitx_float I.kIn True.intro e (fun z => nomatch z) h
 | @lst a xs ea =>
  cases (show u = Value.ref a from rx)
  obtain ⟨_, _, n, _, h1⟩ := (show ObjOk X.prog X.w H s.heap a (.lst xs) from I.hok a _ ea)
  exact PySem.W.kia_one PySem.W.kitx_list I.kIn ⟨_, h1, rfl⟩ e (fun z => nomatch z) h
 | @frz a ob xs ea =>
  cases (show u = Value.ref a from rx)
  obtain ⟨_, _, _, n, _, h1⟩ := (show ObjOk X.prog X.w H s.heap a (.frz ob (.lst xs)) from I.hok a _ ea)
  exact PySem.W.kia_one PySem.W.kitx_list I.kIn ⟨_, h1, rfl⟩ e (fun z => nomatch z) h
 | @tup a xs ea =>
  cases (show u = Value.ref a from rx)
  obtain ⟨_, _, _, p⟩ := (show ObjOk X.prog X.w H s.heap a (.tup xs) from I.hok a _ ea)
  obtain ⟨o, h1, h2, _⟩ := p
  exact PySem.W.kia_one PySem.W.kitx_tuple I.kIn ⟨o, h1, h2⟩ e (fun z => nomatch z) h
 | @dK a kvs ea =>
  cases (show u = Value.ref a from rx)
  obtain ⟨_, _, vs, _, p⟩ := (show ObjOk X.prog X.w H s.heap a (.dK kvs) from I.hok a _ ea)
  obtain ⟨o, es, ep, h1, h2, _⟩ := p
  exact PySem.W.kia_one PySem.W.kitx_dict I.kIn ⟨o, h1, h2.1⟩ e (fun z => nomatch z) h
 | @dT a kvs ea =>
  cases (show u = Value.ref a from rx)
  obtain ⟨_, _, xs, _, o, es, ep, h1, h2, _⟩ := (show ObjOk X.prog X.w H s.heap a (.dT kvs) from I.hok a _ ea)
  exact PySem.W.kia_one PySem.W.kitx_dict I.kIn ⟨o, h1, h2.1⟩ e (fun z => nomatch z) h
 | @ins a C dx fs ea cl ha hn htk hm =>
  cases (show u = Value.ref a from rx)
  obtain ⟨mA, O, _⟩ := nqE I.hok ea
  obtain ⟨od, J, _⟩ := O.look
  exact PySem.W.kia_one (PySem.W.kitx_own (cl.get _) cl.hd ha hn htk hm) I.kIn J e (fun z => nomatch z) h
end
structure Room (k : Nat) (A : Around) : Prop where
 hd : A.handled = none
 dp : A.depth + 3 * k + 5 < recursionLimit
 un : A.units + 16 * k + 200 < cLine
theorem Room.mono {j k : Nat} {A : Around} (r : Room k A) (h : j ≤ k) : Room j A := ⟨r.hd, by have := r.dp; lia, by have := r.un; lia⟩
theorem Room.deeper {k : Nat} {A : Around} (r : Room (k + 1) A) (env : Env) : Room k (A.deeper env) :=
 ⟨r.hd, by have := r.dp; show A.depth + 1 + 3 * k + 5 < _; lia, by have := r.un; show A.units + 3 + 16 * k + 200 < _; lia⟩
theorem kqH {A : Around} {C : Addr} {us : List Value} {kw : List (Str × Value)} : (A.under (.builtin "type.__call__" ⟨.ref C :: us, kw⟩)).depth = A.depth + 1 := by
 first | rfl | simp [Around.under, Code.weight, Code.isCreation, Code.isGuard, Code.isCaller, Code.frames, Code.isFrame, guardIds]
theorem kqn {A : Around} {C : Addr} {us : List Value} {kw : List (Str × Value)} : (A.under (.builtin "type.__call__" ⟨.ref C :: us, kw⟩)).units = A.units + 1 := by
 first | rfl | simp [Around.under, Code.cUnits, Code.frames, Code.isFrame]
theorem Room.make {k : Nat} {A : Around} (r : Room (k + 1) A) (C : Addr) (us : List Value) (kw : List (Str × Value)) : Room k (A.under (.builtin "type.__call__" ⟨.ref C :: us, kw⟩)) :=
 ⟨r.hd, by have := r.dp; rw [kqH]; lia, by have := r.un; rw [kqn]; lia⟩
theorem Room.depth {k : Nat} {A : Around} (r : Room k A) : A.depth < recursionLimit := by have := r.dp; lia
theorem Room.units {k : Nat} {A : Around} (r : Room k A) : A.units + 64 < cLine := by have := r.un; lia
def tNil : TA := fun _ H Q => Q [] H
def tCons (ta : TE) (tr : TA) : TA := fun σ H Q => ta σ H fun x H1 => tr σ H1 fun xs H2 => Q (x :: xs) H2
section
variable {X : Cx} {e : Expr} {es : List Expr} {te : TE} {t : TA} {pos : Pos}
theorem aqb : PA X [] tNil := fun _ _ _ _ H Q I h => Calls.spliced_nil ⟨[], H, I, .nil, h⟩
theorem aqa (ha : PE X e te) (hr : PA X es t) (hs : starEach (e :: es) X.env = (false, eval e X.env) :: starEach es X.env := by rfl) : PA X (e :: es) (tCons te t) := by
 intro pos pins s σ H Q I h
 rw [hs]
 show wpAny _ _ (spliced ((false, eval e X.env) :: backTo pos (starEach es X.env))) _ _ s
 refine Calls.spliced_cons (thn (ha pins s σ H _ I h) fun u s1 W' => ?_)
 obtain ⟨x, H1, I1, r1, q1⟩ := W'
 exact thn (hr pos pins s1 σ H1 _ I1 q1) fun us s2 ⟨xs, H2, I2, r2, q2⟩ => ⟨x :: xs, H2, I2, .cons r1 r2, q2⟩
def tTup (t : TA) : TE := fun σ H Q => t σ H fun xs H1 => xs.length ≤ sizeLine ∧ ∀ p, H1 p = none → Q (.ref p) (upd H1 p (.tup xs))
def tLst (t : TA) : TE := fun σ H Q => t σ H fun xs H1 => xs.length ≤ sizeLine ∧ ∀ p, H1 p = none → Q (.ref p) (upd H1 p (.lst xs))
end
abbrev Sp := List V → Hp → VK → XK → Prop
abbrev CXT := List Env → Hp → Shared → XK → Value → Shared → Prop
structure Env0 (P : Program) (w : World) (K : PySem.W.Frag) (mg : Str → Option Value) (base : Heap) (A : Around) (outer : List Env) (s : Shared) (H : Hp) : Prop where
 frames : A.frames = some outer
 mod : Mod K mg base
 bs : ∀ b o, base.get? b = some o → s.heap.get? b = some o ∧ H b = none
 bsz : base.objs.size ≤ s.heap.objs.size
 funs : s.heap.FunFrames base outer
 frf : ∀ b ∈ frs outer, H b = none
 hok : HOk P w H s.heap
 bare : AllBare s.gens
def CE (outer : List Env) (P : Program) (w : World) (H : Hp) (s : Shared) (Q : VK) (u : Value) (s' : Shared) : Prop :=
 ∃ v H', s'.os = s.os ∧ AllBare s'.gens ∧ Un (frs outer) [] H H' s.heap s'.heap ∧ HOk P w H' s'.heap ∧ RelV v u ∧ Q v H'
def CR (CX : CXT) (outer : List Env) (P : Program) (w : World) (H : Hp) (s : Shared) (Q : VK) (E : XK) (r : Result) (s' : Shared) : Prop :=
 match r with
 | .ok (.ret u) => CE outer P w H s Q u s'
 | .ok _ => False
 | .error e => CX outer H s E e s'
structure FnOk (P : Program) (w : World) (K : PySem.W.Frag) (mg : Str → Option Value) (base : Heap) (CX : CXT) (k : Nat) (f : Addr) (fd : FuncData) (ps : List Str) (sp : Sp) : Prop where
 len : ∀ vs H Q E, sp vs H Q E → vs.length = ps.length
 run : ∀ (A : Around) (outer : List Env) (s : Shared) (H : Hp) (args : Args) (us : List Value) (vs : List V) (Q : VK) (E : XK), Room k A → Env0 P w K mg base A outer s H → BindsTo s fd args (ps.zip us) → Vals vs us → sp vs H Q E →
  codeAny (model P w) A (.call (.ref f) args) (CR CX outer P w H s Q E) s
theorem Env0.make {P : Program} {w : World} {K : PySem.W.Frag} {mg : Str → Option Value} {base : Heap} {A : Around} {outer : List Env} {s : Shared} {H : Hp} (e : Env0 P w K mg base A outer s H) (C : Addr) (us : List Value) (kw : List (Str × Value)) :
  Env0 P w K mg base (A.under (.builtin "type.__call__" ⟨.ref C :: us, kw⟩)) outer s H := ⟨by first | exact e.frames | (simpa [Around.under, Code.envs, Code.isFrame, pushEnvs] using e.frames), e.mod, e.bs, e.bsz, e.funs, e.frf, e.hok, e.bare⟩
section
variable {X : Cx} {pins : List (Addr × Obj)} {σ : St} {H : Hp} {s s' : Shared}
theorem Inv.env0 (I : Inv X pins σ H s) : Env0 X.prog X.w X.K X.mg X.base X.A X.stack s H :=
 ⟨I.ok.frames, I.ok.mod, I.bs, Nat.le_trans I.ok.bsz I.sz, I.stack, I.stkFree, I.hok, I.bare⟩
theorem Inv.after {Q : VK} {u : Value} (I : Inv X pins σ H s) (h : CE X.stack X.prog X.w H s Q u s') : EP X pins σ Q u s' := by
 obtain ⟨v, H', os, bare, un, hok, r, q⟩ := h
 obtain ⟨hh, g, d, t, os'⟩ := s'
 obtain rfl : os' = s.os := os
 exact ⟨v, H', I.call (h' := hh) (g' := g) (d' := d) (t' := t) (ch := []) un hok bare (fun b z => absurd z (by simp)), r, q⟩
end
def tCall (sp : Sp) (dvs : List V) (E : XK) (t : TA) : TE := fun σ H Q => t σ H fun vs H1 => sp (vs ++ dvs) H1 Q E
def tMeth (C : Addr) (m : Str) (sp : Sp) (dvs : List V) (E : XK) (ta : TE) (t : TA) : TE := fun σ H Q => ta σ H fun x H1 => ∃ a dx fs, x = .ref a ∧ H1 a = some (.ins C dx fs) ∧ fs.lookup m = none ∧
 t σ H1 fun vs H2 => sp (x :: (vs ++ dvs)) H2 Q E
def tMake (C : Addr) (sp : Sp) (dvs : List V) (E : XK) (t : TA) : TE := fun σ H Q => t σ H fun vs H1 => ∀ x dx, H1 x = none → H1 dx = none → dx ≠ x →
 sp (.ref x :: (vs ++ dvs)) (upd (upd H1 dx (.own x)) x (.ins C dx [])) (fun v H2 => v = .non ∧ Q (.ref x) H2) E
def Binds (K : PySem.W.Frag) (fd : FuncData) (ps : List Str) (ds : List Value) : Prop :=
 ∀ (s : Shared) (us : List Value), K.In s.heap → (us ++ ds).length = ps.length → BindsTo s fd ⟨us, []⟩ (ps.zip (us ++ ds))
theorem Binds.all {K : PySem.W.Frag} {fd : FuncData} {ps : List Str} (h : ∀ us : List Value, us.length = ps.length → bindArgs fd ⟨us, []⟩ = pure (ps.zip us)) : Binds K fd ps [] := fun s us _ hl => by
 rw [List.append_nil] at hl ⊢
 exact .of_eq (h us hl)
def Passes (CX : CXT) (X : Cx) (E : XK) : Prop := ∀ (pins : List (Addr × Obj)) (σ : St) (H : Hp) (s : Shared) (e : Value) (s' : Shared), Inv X pins σ H s → CX X.stack H s E e s' → X.xe e s'
section
variable {X : Cx} {CX : CXT} {k : Nat} {f C : Addr} {fd : FuncData} {ps : List Str} {sp : Sp} {dvs : List V} {ds : List Value} {E : XK} {x m : Str} {p pos apos : Pos} {e o : Expr} {es : List Expr} {ta : TE} {t : TA}
theorem nqp {pins : List (Addr × Obj)} {σ : St} {H : Hp} {s : Shared} {Q : VK} {us : List Value} {vs : List V} (F : FnOk X.prog X.w X.K X.mg X.base CX k f fd ps sp) (hr : Room k X.A) (hb : Binds X.K fd ps ds) (hd : Vals dvs ds) (hx : Passes CX X E)
  (I : Inv X pins σ H s) (r : Vals vs us) (h : sp (vs ++ dvs) H Q E) : wpAny (model X.prog X.w) X.A (call (.ref f) us) (EP X pins σ Q) X.xe s := by
 have r2 : Vals (vs ++ dvs) (us ++ ds) := r.append hd
 have hl : (us ++ ds).length = ps.length := by rw [← r2.length]; exact F.len _ _ _ _ h
 refine wpAny_call (codeAny_mono (F.run X.A X.stack s H ⟨us, []⟩ (us ++ ds) (vs ++ dvs) Q E hr I.env0 (hb s us I.kIn hl) r2 h) fun r s' hq => ?_)
 cases r with
 | error e => exact hx pins σ H s e s' I hq
 | ok fl =>
  cases fl with
  | ret u => exact I.after hq
  | next => exact False.elim hq
  | brk => exact False.elim hq
  | cont => exact False.elim hq
theorem aql (F : FnOk X.prog X.w X.K X.mg X.base CX k f fd ps sp) (hr : Room k X.A) (hg : Gl X x) (hm : X.mg x = some (.ref f)) (hk : PySem.W.keepIn X.K (.ref f) = true) (hb : Binds X.K fd ps ds) (hd : Vals dvs ds) (hx : Passes CX X E)
  (ha : PA X (e :: es) t) (hdb : (x == ("__debug__" : Str)) = false := by decide) (he : starEach (e :: es) X.env = (false, eval e X.env) :: starEach es X.env := by rfl) (hpl : (backTo pos (starEach es X.env)).any (·.1) = false := by rfl) :
  PE X (.Call (.Name x p) (e :: es) [] pos) (tCall sp dvs E t) := by
 intro pins s σ H Q I h
 refine wpAny_Call_Name_kw (eq3 I hg hm ?_ hdb)
 refine PySem.W.callWith_K (h₀ := X.base) I.ok.mod.kin hk (thn (ha pos pins s σ H _ I h) fun us s1 ⟨vs, H1, I1, r, q⟩ => ⟨I1.kIn, ?_⟩) he hpl
 exact nqp F hr hb hd hx I1 r q
theorem mqa (F : FnOk X.prog X.w X.K X.mg X.base CX k f fd ps sp) (hr : Room k X.A) (hg : Gl X x) (hm : X.mg x = some (.ref f)) (hk : PySem.W.keepIn X.K (.ref f) = true) (hb : Binds X.K fd ps ds) (hd : Vals dvs ds) (hx : Passes CX X E)
  (hdb : (x == ("__debug__" : Str)) = false := by decide) : PE X (.Call (.Name x p) [] [] pos) (tCall sp dvs E tNil) := by
 intro pins s σ H Q I h
 refine wpAny_Call_Name_kw (eq3 I hg hm ?_ hdb)
 exact PySem.W.callWith_K0 I.kIn hk (nqp (us := []) F hr hb hd hx I .nil h)
structure Mk (K : PySem.W.Frag) (C f : Addr) : Prop where
 makes : PySem.W.makesIn K C = true
 init : PySem.W.findIn K (.ref C) "__init__" = some (some (.ref f))
 fn : PySem.W.isFn K (.ref f) = true
 kp : PySem.W.keepIn K (.ref C) = true
end
section
variable {X : Cx} {CX : CXT} {k : Nat} {f C : Addr} {fd : FuncData} {ps ks : List Str} {sp : Sp} {E : XK} {x m : Str} {p pos apos kpos : Pos} {e o : Expr} {es : List Expr} {kws : List Keyword} {te ta : TE} {t tk : TA} {nm : Option Str}
structure KBinds (K : PySem.W.Frag) (fd : FuncData) (ps ks : List Str) (g : List Value → List Value → List Value) (gV : List V → List V → List V) : Prop where
 to : ∀ (s : Shared) (us ws : List Value), K.In s.heap → (g us ws).length = ps.length → BindsTo s fd ⟨us, ks.zip ws⟩ (ps.zip (g us ws))
 rel : ∀ {vs : List V} {us : List Value} {zs : List V} {ws : List Value}, Vals vs us → Vals zs ws → Vals (gV vs zs) (g us ws)
variable {g : List Value → List Value → List Value} {gV : List V → List V → List V}
end
structure FnScope (N P : List Str) (sc : Scope) : Prop where
 kind : sc.kind = .function
 co : sc.isCoroutine = false
 gen : sc.isGenerator = false
 nd : N.Nodup
 pre : N.take P.length = P
 par : ∀ x ∈ P, sc.names.lookup x = some .local ∨ sc.names.lookup x = some .cell
 nofree : ∀ y ∈ sc.names, y.2 ≠ .free
theorem iqa {kindOf : Str → Option NameKind} {x : Str} : ∀ {binds : List (Str × Value)} {m : Str → Option Value}, (∀ v, (x, v) ∉ binds) → bindL kindOf binds m x = m x
 | [], _, _ => rfl
 | (n, v) :: r, m, h => by
  unfold bindL
  rw [iqa fun w hw => h w (List.mem_cons_of_mem _ hw)]
  split
  ·have : x ≠ n := by rintro rfl; exact h v List.mem_cons_self
   simp [this]
  ·rfl
theorem iqJ {kindOf : Str → Option NameKind} {x : Str} : ∀ {binds : List (Str × Value)} {m : Str → Option Value}, (∀ v, (x, v) ∉ binds) → bindC kindOf binds m x = m x
 | [], _, _ => rfl
 | (n, v) :: r, m, h => by
  unfold bindC
  rw [iqJ fun w hw => h w (List.mem_cons_of_mem _ hw)]
  split
  ·rfl
  ·have : x ≠ n := by rintro rfl; exact h v List.mem_cons_self
   simp [this]
theorem iqw {kindOf : Str → Option NameKind} {x : Str} {v : Value} : ∀ {P : List Str} {vs : List Value} {i : Nat} {m : Str → Option Value}, P.Nodup → P[i]? = some x → vs[i]? = some v → kindOf x = some .local →
  bindL kindOf (P.zip vs) m x = some v
 | [], _, _, _, _, h, _, _ => by simp at h
 | _ :: _, [], _, _, _, _, h, _ => by simp at h
 | p :: P, w :: vs, 0, m, nd, h1, h2, hk => by
  simp at h1 h2; subst h1; subst h2
  show bindL kindOf ((p, w) :: P.zip vs) m p = _
  unfold bindL
  rw [iqa fun v hv => (List.nodup_cons.mp nd).1 (List.of_mem_zip hv).1, if_pos hk]
  simp
 | p :: P, w :: vs, i + 1, m, nd, h1, h2, hk => by
  show bindL kindOf ((p, w) :: P.zip vs) m x = _
  unfold bindL
  exact iqw (i := i) (List.nodup_cons.mp nd).2 (by simpa using h1) (by simpa using h2) hk
theorem iqB {kindOf : Str → Option NameKind} {x : Str} {v : Value} : ∀ {P : List Str} {vs : List Value} {i : Nat} {m : Str → Option Value}, P.Nodup → P[i]? = some x → vs[i]? = some v → kindOf x ≠ some .local →
  bindC kindOf (P.zip vs) m x = some v
 | [], _, _, _, _, h, _, _ => by simp at h
 | _ :: _, [], _, _, _, _, h, _ => by simp at h
 | p :: P, w :: vs, 0, m, nd, h1, h2, hk => by
  simp at h1 h2; subst h1; subst h2
  show bindC kindOf ((p, w) :: P.zip vs) m p = _
  unfold bindC
  rw [iqJ fun v hv => (List.nodup_cons.mp nd).1 (List.of_mem_zip hv).1, if_neg hk]
  simp
 | p :: P, w :: vs, i + 1, m, nd, h1, h2, hk => by
  show bindC kindOf ((p, w) :: P.zip vs) m x = _
  unfold bindC
  exact iqB (i := i) (List.nodup_cons.mp nd).2 (by simpa using h1) (by simpa using h2) hk
def start (N : List Str) (vs : List V) : St := vs.map some ++ List.replicate (N.length - vs.length) none
def cxOf (CX : CXT) (P : Program) (w : World) (K : PySem.W.Frag) (mg : Str → Option Value) (base : Heap) (N : List Str) (qual : Str) (scope : Scope) (f : Addr) (cd : Value) (A : Around) (outer : List Env) (s : Shared) (H : Hp) (E : XK) : Cx where
 prog := P
 w := w
 K := K
 mg := mg
 base := base
 A := A.deeper (envOfC qual scope s.heap.objs.size f cd)
 N := N
 s₀ := s
 H₀ := H
 env := envOfC qual scope s.heap.objs.size f cd
 outer := outer
 stack := envOfC qual scope s.heap.objs.size f cd :: outer
 ex := []
 calm := true
 fn := fun _ => true
 pn := []
 xe := fun e s' => wpAny (model P w) (A.deeper (envOfC qual scope s.heap.objs.size f cd)) (leaving (envOfC qual scope s.heap.objs.size f cd) e) (fun _ s'' => CX outer H s E e s'') (fun e' s'' => CX outer H s E e' s'') s'
theorem jq0 {sc : Scope} {n : Nat} {x : Str} (h : sc.names.lookup x = some .cell) : ∃ c, (cellsFrom n sc.names []).lookup x = some c := by
 have q := PySem.W.cellsFrom_some sc.names n [] (.inl h)
 exact Option.isSome_iff_exists.mp q
theorem lq0 {CX : CXT} {P : Program} {w : World} {K : PySem.W.Frag} {mg : Str → Option Value} {base : Heap} {N ps : List Str} {qual : Str} {scope : Scope} {f : Addr} {cd : Value} {A : Around} {outer : List Env} {s s1 : Shared} {H : Hp} {E : XK} {us : List Value} {vs : List V}
  (S : FnScope N ps scope) (hd : A.handled = none) (e0 : Env0 P w K mg base A outer s H) (hl : vs.length = ps.length) (r : Vals vs us)
  (x : InCallC s s.heap.objs.size (bindL (envOfC qual scope s.heap.objs.size f cd).kindOf (ps.zip us) fun _ => none) (cellsFrom (s.heap.objs.size + 1) scope.names []) (bindC (envOfC qual scope s.heap.objs.size f cd).kindOf (ps.zip us) fun _ => none) s1) :
  Inv (cxOf CX P w K mg base N qual scope f cd A outer s H E) [] (start N vs) H s1 := by
 have hpl : ps.length ≤ N.length := by have := congrArg List.length S.pre; rw [List.length_take] at this; lia
 obtain ⟨h1, tk, rfl, hk⟩ := x.done
 have noA : ∀ b : Addr, b ∉ (cxOf CX P w K mg base N qual scope f cd A outer s H E).ex := fun b z => absurd (show b ∈ ([] : List Addr) from z) (by simp)
 refine ⟨⟨e0.mod, S.kind, rfl, rfl, Nat.le_refl _, fun y z c h1 h2 => ?_, fun y hy => ?_, fun y c _ h => ?_, fun _ => hd, Around.frames_deeper e0.frames, .inr ⟨rfl, rfl⟩, fun b z => absurd z (noA b), e0.bs, e0.bsz, fun b _ _ => noA b, fun b z => absurd z (noA b), e0.funs, e0.frf⟩,
  rfl, e0.bare, Un.kept hk, ⟨_, x.toInCall.ns, fun i y v h1 h2 h3 => ?_⟩, fun y c h => ⟨_, x.cell y c h⟩, e0.hok.fresh (Nat.le_refl _), fun y c h => ?_, fun p hp => absurd (show p ∈ ([] : List (Addr × Obj)) from hp) (by simp), e0.hok.kept hk, ?_⟩
 ·exact name_of_addr x.apart (PySem.mem_of_lookup h1) (PySem.mem_of_lookup h2)
 ·have hy : scope.names.lookup y = some .cell ∨ scope.names.lookup y = some .free := hy
  rcases hy with hy | hy
  ·exact jq0 hy
  ·exact absurd rfl (S.nofree _ (PySem.mem_of_lookup hy))
 ·exact Nat.le_of_lt (x.above y c (PySem.mem_of_lookup h))
 ·have hi : i < vs.length := by
   unfold start at h2
   by_cases hi : i < vs.length
   ·exact hi
   ·rw [List.getElem?_append_right (by simpa using hi)] at h2
    rw [List.getElem?_replicate] at h2
    split at h2 <;> cases h2
  have ha : vs[i]? = some v := by
   unfold start at h2
   rw [List.getElem?_append_left (by simpa using hi), List.getElem?_map] at h2
   cases e : vs[i]? with
   | none => rw [e] at h2; cases h2
   | some a => rw [e] at h2; cases h2; rfl
  obtain ⟨u, hu, rv⟩ := r.get ha
  have hp : ps[i]? = some y := by
   rw [← S.pre, List.getElem?_take_of_lt (by lia)]; exact h1
  have ndP : ps.Nodup := by rw [← S.pre]; exact S.nd.sublist (List.take_sublist _ _)
  refine ⟨u, rv, ?_⟩
  rcases S.par y (List.mem_of_getElem? hp) with k | k
  ·exact .inl ⟨k, iqw ndP hp hu k⟩
  ·obtain ⟨c, e⟩ := jq0 (n := s.heap.objs.size + 1) k
   refine .inr ⟨.inl k, c, e, ?_⟩
   have q := x.cell y c e
   rw [iqB ndP hp hu (by show scope.names.lookup y ≠ _; rw [k]; decide)] at q
   exact q
 ·exact e0.hok.fresh (Nat.le_of_lt (x.above y c (PySem.mem_of_lookup h)))
 ·unfold start
  show _ = N.length
  rw [List.length_append, List.length_map, List.length_replicate]
  lia
theorem qqj {CX : CXT} {P : Program} {w : World} {K : PySem.W.Frag} {mg : Str → Option Value} {base : Heap} {k : Nat} {f : Addr} {name qual : Str} {params : Arguments} {body : List Stmt} {scope : Scope} {dV kV doc pm cdv ct oc : Value} {an od : Option Addr}
  {osl : Array (Option Value)} {N ps : List Str} {sp : Sp} (lk : K.lookup f = some ⟨oc, od, .func (PySem.W.fnOf name qual params body scope dV kV doc pm an cdv ct), osl⟩) (hcd : PySem.W.codeIn K cdv qual = true) (S : FnScope N ps scope)
  (len : ∀ vs H Q E, sp vs H Q E → vs.length = ps.length)
  (hbody : ∀ (A : Around) (outer : List Env) (s : Shared) (H : Hp) (vs : List V) (Q : VK) (E : XK), Room k (A.deeper (envOfC qual scope s.heap.objs.size f cdv)) → sp vs H Q E →
   ∃ t, PSs (cxOf CX P w K mg base N qual scope f cdv A outer s H E) body t ∧ t { nx := fun _ H' => Q .non H', rt := Q } (start N vs) H) :
  FnOk P w K mg base CX (k + 1) f (PySem.W.fnOf name qual params body scope dV kV doc pm an cdv ct) ps sp := by
 refine ⟨len, fun A outer s H args us vs Q E hr e0 hb r hsp => ?_⟩
 have hl := len _ _ _ _ hsp
 have KX : K.In s.heap := e0.mod.kin.keeps fun b o e => (e0.bs b o e).1
 have lim : s.heap.NoLimit := e0.mod.nolimit.keeps fun b o e => (e0.bs b o e).1
 have hkind : ∀ y ∈ ps.zip us, scope.names.lookup y.1 = some .local ∨ (scope.names.lookup y.1 = some .cell ∧ ((cellsFrom (s.heap.objs.size + 1) scope.names []).lookup y.1).isSome = true) := fun ⟨n, v⟩ hy => by
  rcases S.par n (List.of_mem_zip hy).1 with q | q
  ·exact .inl q
  ·exact .inr ⟨q, PySem.W.cellsFrom_some _ _ _ (.inl q)⟩
 refine codeAny_call_function hr.depth (KX _ _ lk) rfl S.co S.gen rfl (PySem.W.codeRec_of KX hcd) (hb _ _ _ _ ?_)
 refine wpAny_newFunctionEnv_cells S.kind hkind fun env he s1 x => ?_
 subst he
 refine ⟨lim.keeps x.toInCall.keep, codeAny_func ?_⟩
 obtain ⟨t, ht, hq⟩ := hbody A outer s H vs Q E (hr.deeper _) hsp
 have I : Inv (cxOf CX P w K mg base N qual scope f cdv A outer s H E) [] (start N vs) H s1 := lq0 S hr.hd e0 hl r x
 refine wpAny_mono (ht [] s1 (start N vs) H _ I hq) (fun fl s' hs => ?_) fun e s' hs => hs
 have fin : ∀ {σ' : St} {H' : Hp} {v : V} {u : Value}, Inv (cxOf CX P w K mg base N qual scope f cdv A outer s H E) [] σ' H' s' → RelV v u → Q v H' → CE outer P w H s Q u s' :=
  fun {σ' H' v u} J rv q => ⟨v, H', J.os, J.bare, J.base, J.hok, rv, q⟩
 cases fl with
 | ret u =>
  obtain ⟨v, σ', H', J, rv, q⟩ := hs
  exact fin J rv q
 | next =>
  obtain ⟨σ', H', J, q⟩ := hs
  exact fin (v := V.non) (u := Value.none) J rfl q
 | brk =>
  obtain ⟨_, _, _, q⟩ := hs
  exact False.elim q
 | cont =>
  obtain ⟨_, _, _, q⟩ := hs
  exact False.elim q
section
variable {X : Cx} {x : Str} {p pos : Pos} {e : Expr} {es : List Expr} {t : TA} {id T : String} {r : List V → Hp → VK → Prop}
def tCB (r : List V → Hp → VK → Prop) (t : TA) : TE := fun σ H Q => t σ H fun vs H1 => r vs H1 Q
theorem aqt (hc : CallR X (.builtin id) r) (hg : Gl X x) (hm : X.mg x = none) (hv : bootBuiltins x = some (.builtin id)) (ha : PA X (e :: es) t) (hn : x ≠ "__name__" := by decide) (hdb : (x == ("__debug__" : Str)) = false := by decide)
  (he : starEach (e :: es) X.env = (false, eval e X.env) :: starEach es X.env := by rfl) (hpl : (backTo pos (starEach es X.env)).any (·.1) = false := by rfl) : PE X (.Call (.Name x p) (e :: es) [] pos) (tCB r t) := by
 intro pins s σ H Q I h
 refine wpAny_Call_Name_kw (eqD I hg hm hv ?_ hn hdb)
 exact PyProof.Rows.callWith_builtin1 (thn (ha pos pins s σ H _ I h) fun us s1 ⟨vs, H1, I1, r1, q1⟩ => hc pins s1 σ H1 vs us Q I1 r1 q1) he hpl
theorem dqE (hc : CallR X (.type T) r) (hg : Gl X x) (hm : X.mg x = none) (hv : bootBuiltins x = some (.type T)) (ha : PA X (e :: es) t) (hn : x ≠ "__name__" := by decide) (hdb : (x == ("__debug__" : Str)) = false := by decide)
  (he : starEach (e :: es) X.env = (false, eval e X.env) :: starEach es X.env := by rfl) (hpl : (backTo pos (starEach es X.env)).any (·.1) = false := by rfl) : PE X (.Call (.Name x p) (e :: es) [] pos) (tCB r t) := by
 intro pins s σ H Q I h
 refine wpAny_Call_Name_kw (eqD I hg hm hv ?_ hn hdb)
 exact PyProof.Rows.callWith_type1 (thn (ha pos pins s σ H _ I h) fun us s1 ⟨vs, H1, I1, r1, q1⟩ => hc pins s1 σ H1 vs us Q I1 r1 q1) he hpl
end
end L2
namespace HT
open PySem PyProof.Rows
def lexLt : List Int → List Int → Bool
 | [], [] => false
 | [], _ :: _ => true
 | _ :: _, [] => false
 | x :: xs, y :: ys => if x = y then lexLt xs ys else decide (x < y)
section
open PySem.SeqAt
open PySem.AutoSeq1 (wpAny_loadPart')
open PySem.MeetsSeq PySem.MeetsSeq2 PySem.MeetsSeq3
end
section
variable {prog : Program} {w : World} {A : Around} {E : Value → Shared → Prop} {s : Shared}
theorem cat_tup {t b : Addr} {vs ws : List Value} {Q : Value → Shared → Prop} (ht : IsTup s.heap t vs.toArray) (hb : IsTup s.heap b ws.toArray) (hv : vs ≠ [])
  (h1 : ws = [] → Q (.ref t) s) (h2 : ws ≠ [] → Q (.ref s.heap.objs.size) { s with heap := s.heap.push { cls := .type "tuple", data := .seq (vs ++ ws).toArray } })
  (hsz : vs.length + ws.length ≤ sizeLine) : wpAny (model prog w) A (binaryOp .Add (.ref t) (.ref b)) Q E s := by
 obtain ⟨⟨cls, dd, data, sl⟩, ho, hc, n, hd⟩ := id ht
 obtain ⟨⟨cls2, dd2, data2, sl2⟩, ho2, hc2, n2, hd2⟩ := id hb
 simp only at hc hd hc2 hd2
 subst hc hd hc2 hd2
 have e : vs.toArray ++ ws.toArray = (vs ++ ws).toArray := by simp
 by_cases hw : ws = []
 ·exact concat_meets ⟨_, ho, rfl⟩ ⟨_, ho2, rfl⟩ noFill_tuple_add seq_tuple_add PySem.F.slot_tuple_add PySem.F.entry_tuple_add (PySem.F.args_tuple_add_2 _ _)
   (tuple_addW1 t b vs.toArray ws.toArray n n2 dd dd2 sl sl2 (by simpa using hv) (by simp [hw])) ⟨ho, ho2, h1 hw⟩
 ·refine concat_meets ⟨_, ho, rfl⟩ ⟨_, ho2, rfl⟩ noFill_tuple_add seq_tuple_add PySem.F.slot_tuple_add PySem.F.entry_tuple_add (PySem.F.args_tuple_add_2 _ _)
   (tuple_addW2 t b vs.toArray ws.toArray n n2 dd dd2 sl sl2 (by simpa using hv) (by simpa using hw) (by rw [List.size_toArray, List.size_toArray]; exact hsz)) ⟨ho, ho2, ?_⟩
  rw [e]
  exact h2 hw
def sIx (n d : Nat) : Option Int → Nat
 | none => d
 | some v => if v < 0 then (v + (n : Int)).toNat else min v.toNat n
theorem sIx_none (n d : Nat) : sIx n d none = d := rfl
theorem sIx_nat (n d k : Nat) : sIx n d (some (k : Int)) = min k n := by
 show (if (k : Int) < 0 then ((k : Int) + (n : Int)).toNat else min (k : Int).toNat n) = min k n
 rw [if_neg (by lia), Int.toNat_natCast]
end
end HT
namespace L2
open PySem PySem.Spec PyProof.Rows
abbrev TO := St → Hp → (Option Int → Hp → Prop) → Prop
def PO (X : Cx) (e : Option Expr) (t : TO) : Prop :=
 ∀ (pins : List (Addr × Obj)) (s : Shared) (σ : St) (H : Hp) (Q : Option Int → Hp → Prop), Inv X pins σ H s → t σ H Q →
  wpAny (model X.prog X.w) X.A (evalPart e X.env) (fun u s' => ∃ o H', Inv X pins σ H' s' ∧ IsPart u o ∧ Q o H') X.xe s
def tNoPart : TO := fun _ H Q => Q none H
def tPart (t : TE) : TO := fun σ H Q => t σ H fun x H1 => ∃ i, x = .int i ∧ Q (some i) H1
section
variable {X : Cx} {e : Expr} {te : TE} {lo hi : Option Expr} {tl th : TO} {pos p2 : Pos}
theorem cqV : PO X none tNoPart := by
 intro pins s σ H Q I h
 rw [evalPart_none]
 exact wpAny_pure ⟨none, H, I, .none, h⟩
theorem bq4 (h : PE X e te) : PO X (some e) (tPart te) := by
 intro pins s σ H Q I hw
 rw [evalPart_some]
 refine thn (h pins s σ H _ I hw) fun u s1 W' => ?_
 obtain ⟨x, H1, I1, r1, q1⟩ := W'
 obtain ⟨i, rfl, q⟩ := q1
 obtain ⟨t, rfl⟩ := r1
 exact ⟨some i, H1, I1, .int i t, q⟩
def SlR (X : Cx) (r : V → Option Int → Option Int → Hp → VK → Prop) : Prop :=
 ∀ (pins : List (Addr × Obj)) (s : Shared) (σ : St) (H : Hp) (x : V) (v vl vu : Value) (lo hi : Option Int) (sl : Addr) (Q : VK), Inv X pins σ H s → RelV x v → s.heap.IsSliceOf sl vl vu .none → IsPart vl lo → IsPart vu hi → r x lo hi H Q →
  ∃ T id, typeLookup (.type T) "__getitem__" = pure (some (.builtin id)) ∧ s.TypeIs v T ∧ wpAny (model X.prog X.w) X.A (getItem v (.ref sl)) (EP X pins σ Q) X.xe s
def tSl (r : V → Option Int → Option Int → Hp → VK → Prop) (te : TE) (tl th : TO) : TE := fun σ H Q => te σ H fun x H1 => tl σ H1 fun l H2 => th σ H2 fun u H3 => r x l u H3 Q
theorem bqq {r : V → Option Int → Option Int → Hp → VK → Prop} (hr : SlR X r) (he : PE X e te) (hl : PO X lo tl) (hu : PO X hi th) : PE X (.Subscript e (.Slice lo hi none p2) pos) (tSl r te tl th) := by
 intro pins s σ H Q I h
 refine Subscript_ (thn (he pins s σ H _ I h) fun v s1 W' => ?_)
 obtain ⟨x, H1, I1, r1, q1⟩ := W'
 refine wpAny_Slice (thn (hl pins s1 σ H1 _ I1 q1) fun vl s2 ⟨l, H2, I2, pl, q2⟩ => thn (hu pins s2 σ H2 _ I2 q2) fun vu s3 W' => ?_)
 obtain ⟨u, H3, I3, pu, q3⟩ := W'
 rw [evalPart_none]
 refine wpAny_pure ?_
 have I4 : Inv X pins σ H3 { s3 with heap := s3.heap.push { cls := .type "slice", data := .fields #[vl, vu, .none] } } := I3.kept (t' := s3.toks) fun b ob q => Heap.get?_push_of_some _ q
 obtain ⟨T, id, hT, ht, hg⟩ := hr pins { s3 with heap := s3.heap.push { cls := .type "slice", data := .fields #[vl, vu, .none] } } σ H3 x v vl vu l u s3.heap.objs.size Q I4 r1 (Heap.IsSliceOf.new ..) pl pu q3
 show wpAny (model X.prog X.w) X.A (subscriptTail e (.Slice lo hi none p2) v (.ref s3.heap.objs.size)) (EP X pins σ Q) X.xe { s3 with heap := s3.heap.push { cls := .type "slice", data := .fields #[vl, vu, .none] } }
 exact tail_any (ops := [.ref s3.heap.objs.size, v]) ht hT hg (by with_unfolding_all rfl)
def cutV (xs : List V) (lo hi : Option Int) : List V := (xs.drop (HT.sIx xs.length 0 lo)).take (HT.sIx xs.length xs.length hi - HT.sIx xs.length 0 lo)
theorem jqr (xs : List V) (lo hi : Option Int) : (cutV xs lo hi).length ≤ xs.length := by
 unfold cutV
 rw [List.length_take, List.length_drop]
 lia
def rSlT (K : PySem.W.Frag) : V → Option Int → Option Int → Hp → VK → Prop := fun x lo hi H Q => ∃ a xs, x = .ref a ∧ SqT K H a xs ∧
 ¬ (HT.sIx xs.length 0 lo = 0 ∧ HT.sIx xs.length xs.length hi = xs.length) ∧ ∀ p, H p = none → Q (.ref p) (upd H p (.tup (cutV xs lo hi)))
def rCatT (K : PySem.W.Frag) : R2 := fun x y H Q => ∃ a b xs ys, x = .ref a ∧ y = .ref b ∧ SqT K H a xs ∧ SqT K H b ys ∧ xs ≠ [] ∧ xs.length + ys.length ≤ sizeLine ∧
 (ys = [] → Q (.ref a) H) ∧ (ys ≠ [] → ∀ p, H p = none → Q (.ref p) (upd H p (.tup (xs ++ ys))))
theorem Vals.nil_iff {xs : List V} {us : List Value} (r : Vals xs us) : us = [] ↔ xs = [] := by
 cases r with
 | nil => simp
 | cons _ _ => simp
theorem oqP : OpR X (binaryOp .Add) (rCatT X.K) := by
 intro pins s σ H x y v u Q I rx ry h
 obtain ⟨a, b, xs, ys, rfl, rfl, ha, hb, hx, hz, q1, q2⟩ := h
 cases rx
 cases ry
 obtain ⟨its, r1, p1, _⟩ := I.tuple ha
 obtain ⟨its2, r2, p2, _⟩ := I.tuple hb
 refine HT.cat_tup p1 p2 (fun z => hx (r1.nil_iff.mp z)) (fun z => ⟨.ref a, H, I, rfl, q1 (r2.nil_iff.mp z)⟩) (fun z => ?_) (by rw [← r1.length, ← r2.length]; exact hz)
 refine ⟨.ref s.heap.objs.size, _, I.laid (t' := s.toks) (o := .tup (xs ++ ys)) (fun b ob q => Heap.get?_push_of_some _ q) (Nat.le_refl _) ?_, rfl, q2 (fun w => z (r2.nil_iff.mpr w)) _ (I.hok.fresh (Nat.le_refl _))⟩
 exact ⟨by rw [List.length_append]; exact hz, _, r1.append r2, IsTup.new _ _⟩
end
def ixN (n : Nat) (i : Int) : Option Nat := if 0 ≤ i then (if i < n then some i.toNat else none) else if -(n : Int) ≤ i then some (i + n).toNat else none
def atI {α : Type} (xs : List α) (i : Int) : Option α := (ixN xs.length i).bind fun j => xs[j]?
theorem kqP {n : Nat} {i : Int} {j : Nat} (h : ixN n i = some j) : seqIndex? i n = some j ∧ j < n ∧ -(n : Int) ≤ i ∧ i < n := by
 unfold ixN at h
 by_cases h0 : 0 ≤ i
 ·rw [if_pos h0] at h
  by_cases h1 : i < n
  ·rw [if_pos h1] at h
   have e : i.toNat = j := Option.some.inj h
   exact ⟨by rw [seqIndex_of h0 h1, e], by lia, by lia, h1⟩
  ·rw [if_neg h1] at h; cases h
 ·rw [if_neg h0] at h
  by_cases h1 : -(n : Int) ≤ i
  ·rw [if_pos h1] at h
   have e : (i + n).toNat = j := Option.some.inj h
   exact ⟨by rw [seqIndex_neg (by lia) h1, e], by lia, h1, by lia⟩
  ·rw [if_neg h1] at h; cases h
theorem iq4 {α : Type} {xs : List α} {i : Int} {v : α} (h : atI xs i = some v) : ∃ j, seqIndex? i xs.length = some j ∧ xs[j]? = some v ∧ j < xs.length ∧ -(xs.length : Int) ≤ i ∧ i < xs.length := by
 unfold atI at h
 cases e : ixN xs.length i with
 | none => rw [e] at h; cases h
 | some j =>
  rw [e] at h
  obtain ⟨h1, h2, h3, h4⟩ := kqP e
  exact ⟨j, h1, h, h2, h3, h4⟩
theorem aqn {α : Type} {xs : List α} {j : Nat} {v : α} (h : xs[j]? = some v) : atI xs (j : Int) = some v := by
 have hj : j < xs.length := (List.getElem?_eq_some_iff.mp h).1
 have e : ixN xs.length (j : Int) = some j := by
  unfold ixN
  rw [if_pos (by lia), if_pos (by lia)]; simp
 unfold atI; rw [e]; exact h
def PlainIx (b : Expr) : Prop := ∀ o i, subscripted b false o i = operate [o, i] (getItem o i)
def IxR (X : Cx) (r : R2) : Prop :=
 ∀ (value slice : Expr) (pins : List (Addr × Obj)) (s : Shared) (σ : St) (H : Hp) (x y : V) (v u : Value) (Q : VK), Inv X pins σ H s → RelV x v → RelV y u → r x y H Q →
  subscripted slice false v u = operate [v, u] (getItem v u) → wpAny (model X.prog X.w) X.A (subscriptTail value slice v u) (EP X pins σ Q) X.xe s
def MtR (X : Cx) (id : String) (r : V → List V → Hp → VK → Prop) : Prop :=
 ∀ (pins : List (Addr × Obj)) (s : Shared) (σ : St) (H : Hp) (x : V) (xs : List V) (v : Value) (us : List Value) (Q : VK), Inv X pins σ H s → RelV x v → Vals xs us → r x xs H Q →
  wpAny (model X.prog X.w) X.A (call (.builtin id) (v :: us)) (EP X pins σ Q) X.xe s
section
variable {X : Cx} {a b : Expr} {ta tb : TE} {pos : Pos}
theorem IxR.or {r r' : R2} (h : IxR X r) (h' : IxR X r') : IxR X (fun x y H Q => r x y H Q ∨ r' x y H Q) := by
 intro value slice pins s σ H x y v u Q I rx ry q hs
 rcases q with q | q
 ·exact h value slice pins s σ H x y v u Q I rx ry q hs
 ·exact h' value slice pins s σ H x y v u Q I rx ry q hs
theorem aqz {r : R2} (hr : IxR X r) (ha : PE X a ta) (hb : PE X b tb) (hs : PlainIx b) : PE X (.Subscript a b pos) (tOp r ta tb) := by
 intro pins s σ H Q I h
 exact Subscript_ (binT ha hb I h fun v u s2 x y H2 I2 rx ry q => hr a b pins s2 σ H2 x y v u Q I2 rx ry q (hs _ _))
def rIxL (K : PySem.W.Frag) : R2 := fun x y H Q => ∃ p xs i v, x = .ref p ∧ y = .int i ∧ SqL K H p xs ∧ atI xs i = some v ∧ Q v H
def rIxT (K : PySem.W.Frag) : R2 := fun x y H Q => ∃ p xs i v, x = .ref p ∧ y = .int i ∧ SqT K H p xs ∧ atI xs i = some v ∧ Q v H
def rIxS : R2 := fun x y H Q => ∃ z i c, x = .str z ∧ y = .int i ∧ z.length ≤ sizeLine ∧ atI z.cps.toList i = some c ∧ Q (.str ⟨#[c]⟩) H
theorem pqi : IxR X (rIxL X.K) := by
 intro value slice pins s σ H x y v u Q I rx ry h hs
 obtain ⟨p, xs, i, z, rfl, rfl, hq, he, q⟩ := h
 cases rx
 obtain ⟨t, rfl⟩ := ry
 obtain ⟨its, r, pl, hz⟩ := I.list hq
 obtain ⟨j, h1, h2, h3, h4, h5⟩ := iq4 he
 obtain ⟨w, ew, rw'⟩ := r.get h2
 have hl := r.length
 have hn := line63
 have fin : EP X pins σ Q w s := ⟨z, H, I, rw', q⟩
 by_cases h0 : 0 ≤ i
 ·have hj : i.toNat = j := by
   rw [seqIndex_of h0 h5] at h1
   exact Option.some.inj h1
  exact item_listR pl.isList h0 (by lia) (by rw [hj]; simpa using ew) fin hs
 ·have hj : (i + (its.toArray.size : Int)).toNat = j := by
   rw [seqIndex_neg (by lia) h4] at h1
   rw [List.size_toArray, ← hl]
   exact Option.some.inj h1
  exact subscriptTail_builtinR (x := w) pl.isList.typeIs slot_list_getitem.lookup
   (wpAny_getItem_list_neg (Q := fun r s' => r = w ∧ EP X pins σ Q r s') pl.isList (by lia) (by rw [List.size_toArray] <;> lia) (by lia) (by rw [hj]; simpa using ew) ⟨rfl, fin⟩) hs
theorem pqw : IxR X (rIxT X.K) := by
 intro value slice pins s σ H x y v u Q I rx ry h hs
 obtain ⟨p, xs, i, z, rfl, rfl, hq, he, q⟩ := h
 cases rx
 obtain ⟨t, rfl⟩ := ry
 obtain ⟨its, r, pl, hz⟩ := I.tuple hq
 obtain ⟨j, h1, h2, h3, h4, h5⟩ := iq4 he
 obtain ⟨w, ew, rw'⟩ := r.get h2
 have hl := r.length
 have hn := line63
 have fin : EP X pins σ Q w s := ⟨z, H, I, rw', q⟩
 exact subscriptTail_builtinR (x := w) pl.typeIs slot_tuple_getitem.lookup
  (getItem_tuple (j := j) (Q := fun r s' => r = w ∧ EP X pins σ Q r s') pl (by lia) (by lia) (by rw [List.size_toArray, ← hl]; exact h1) (by simpa using ew) ⟨rfl, fin⟩) hs
theorem qqw : IxR X rIxS := by
 intro value slice pins s σ H x y v u Q I rx ry h hs
 obtain ⟨z, i, c, rfl, rfl, hz, he, q⟩ := h
 obtain ⟨t, rfl⟩ := rx
 obtain ⟨t', rfl⟩ := ry
 obtain ⟨j, h1, h2, h3, h4, h5⟩ := iq4 he
 have hl : z.cps.toList.length = z.length := by simp [Str.length]
 rw [hl] at h1 h4 h5
 have hn := line63
 exact tail_any (typeIs_str s z t) slot_str_getitem.lookup (getItem_str (c := c) (by
  have e1 : decide (i < -(2 ^ 63 : Int)) = false := decide_eq_false (by lia)
  have e2 : decide (i ≥ 2 ^ 63) = false := decide_eq_false (by lia)
  rw [e1, e2, Bool.or_false]) (by rw [h1]; simpa using h2) ⟨.str ⟨#[c]⟩, H, I.tok _, ⟨_, rfl⟩, q⟩) hs
def rIx (K : PySem.W.Frag) : R2 := fun x y H Q => rIxL K x y H Q ∨ rIxT K x y H Q ∨ rIxS x y H Q
theorem qqy : IxR X (rIx X.K) := pqi.or (pqw.or qqw)
theorem kqF (its : List Value) (n j : Nat) (u : Value) : Obj.mapSeq (·.setIfInBounds j u) { cls := .type "list", data := .seq its.toArray n } = { cls := .type "list", data := .seq (its.set j u).toArray n } := by
 simp [Obj.mapSeq]
theorem Inv.lst {pins : List (Addr × Obj)} {σ : St} {H : Hp} {s : Shared} {p : Addr} {xs : List V} (I : Inv X pins σ H s) (h : H p = some (.lst xs)) :
  ∃ (its : List Value) (n : Nat), Vals xs its ∧ s.heap.get? p = some { cls := .type "list", data := .seq its.toArray n } ∧ xs.length ≤ sizeLine := by
 obtain ⟨z, its, n, r, e⟩ := I.hok p _ h
 exact ⟨its, n, r, e, z⟩
theorem Inv.lstUpd {pins : List (Addr × Obj)} {σ : St} {H : Hp} {s : Shared} {p : Addr} {xs ys : List V} {its its' : List Value} {n n' : Nat} {f : Obj → Obj} (I : Inv X pins σ H s) (h : H p = some (.lst xs))
  (ho : s.heap.get? p = some { cls := .type "list", data := .seq its.toArray n }) (hf : f { cls := .type "list", data := .seq its.toArray n } = { cls := .type "list", data := .seq its'.toArray n' }) (r : Vals ys its') (hz : ys.length ≤ sizeLine) (t : Nat) :
  Inv X pins σ (upd H p (.lst ys)) { s with heap := s.heap.update p f, toks := t } := by
 have e : (s.heap.update p f).get? p = some { cls := .type "list", data := .seq its'.toArray n' } := by
  rw [Heap.get?_update_self f ho (by rw [hf] <;> rfl), hf]
 refine I.write (x := p) (e := p) (by rw [h]; trivial) (.inl rfl) (fun b u hb q => (Heap.get?_update_other _ _ (Ne.symm hb)).trans q) ⟨_, e⟩ ?_
 exact ⟨hz, its', n', r, e⟩
def rSetL : V → V → V → Hp → (Hp → Prop) → Prop := fun o i v H Q => ∃ p xs k j, o = .ref p ∧ i = .int k ∧ H p = some (.lst xs) ∧ ixN xs.length k = some j ∧ Q (upd H p (.lst (xs.set j v)))
theorem hqY : PSet X rSetL := by
 intro pins s σ H o i v ov iv u Q I ro ri rv h
 obtain ⟨p, xs, k, j, rfl, rfl, hp, hj, q⟩ := h
 cases ro
 obtain ⟨t, rfl⟩ := ri
 obtain ⟨its, n, r, ho, hz⟩ := I.lst hp
 obtain ⟨h1, h2, h3, h4⟩ := kqP hj
 have hl := r.length
 have hn := line63
 have I' : Inv X pins σ (upd H p (.lst (xs.set j v))) { s with heap := s.heap.update p (Obj.mapSeq (·.setIfInBounds j u)) } :=
  I.lstUpd hp ho (kqF its n j u) (r.set rv j) (by rw [List.length_set]; exact hz) s.toks
 by_cases h0 : 0 ≤ k
 ·have hk : k.toNat = j := by
   rw [seqIndex_of h0 h4] at h1
   exact Option.some.inj h1
  exact PySem.W.ki_setAt ho h0 (by lia) (by rw [List.size_toArray, ← hl]; exact h4) (by rw [hk]; exact ⟨_, I', q⟩)
 ·have hk : (k + (its.toArray.size : Int)).toNat = j := by
   rw [seqIndex_neg (by lia) h3] at h1
   rw [List.size_toArray, ← hl]
   exact Option.some.inj h1
  exact PySem.W.ki_setBack ho (by lia) (by rw [List.size_toArray, ← hl]; exact h3) (by lia) (by rw [hk]; exact ⟨_, I', q⟩)
theorem iqp (lo hi : Option Int) (n : Nat) : (sliceBounds lo hi none n).1 = ((HT.sIx n 0 lo : Nat) : Int) ∧ (sliceBounds lo hi none n).2.1 = ((HT.sIx n n hi : Nat) : Int) ∧ (sliceBounds lo hi none n).2.2 = 1 := by
 refine ⟨?_, ?_, rfl⟩
 ·cases lo with
  | none => simp [sliceBounds, HT.sIx]
  | some i =>
   simp only [sliceBounds, HT.sIx, Option.getD_none, show (1 : Int) > 0 by decide, if_true]
   by_cases h : i < 0
   ·simp only [h, if_true] <;> lia
   ·simp only [h, if_false] <;> lia
 ·cases hi with
  | none => simp [sliceBounds, HT.sIx]
  | some i =>
   simp only [sliceBounds, HT.sIx, Option.getD_none, show (1 : Int) > 0 by decide, if_true]
   by_cases h : i < 0
   ·simp only [h, if_true] <;> lia
   ·simp only [h, if_false] <;> lia
theorem hqH (its : List Value) (lo hi : Option Int) : slicePick its.toArray lo hi none = ((its.drop (HT.sIx its.length 0 lo)).take (HT.sIx its.length its.length hi - HT.sIx its.length 0 lo)).toArray := by
 obtain ⟨h1, h2, h3⟩ := iqp lo hi its.toArray.size
 unfold slicePick
 rw [h1, h2, h3]
 simp only [sliceRange_one, pick_run, List.size_toArray] <;> rfl
def rSlL (K : PySem.W.Frag) : V → Option Int → Option Int → Hp → VK → Prop := fun x lo hi H Q => ∃ a xs, x = .ref a ∧ SqL K H a xs ∧ ∀ p, H p = none → Q (.ref p) (upd H p (.lst (cutV xs lo hi)))
theorem nqB : SlR X (rSlL X.K) := by
 intro pins s σ H x v vl vu lo hi sl Q I rx hs pl pu h
 obtain ⟨a, xs, rfl, hx, q⟩ := h
 cases rx
 obtain ⟨its, r, ht, hz⟩ := I.list hx
 have hlen := r.length
 refine ⟨"list", _, slot_list_getitem.lookup, ht.isList.typeIs, ?_⟩
 refine wpAny_getItem_list_slice ht.isList hs pl pu .none (by simp) ?_ (by rw [List.size_toArray] <;> lia)
 rw [hqH, ← hlen]
 refine ⟨.ref s.heap.objs.size, _, I.laid (t' := s.toks) (o := .lst (cutV xs lo hi)) (fun b ob q => Heap.get?_push_of_some _ q) (Nat.le_refl _) ?_, rfl, q _ (I.hok.fresh (Nat.le_refl _))⟩
 exact ⟨Nat.le_trans (jqr xs lo hi) hz, _, 0, (r.drop (HT.sIx xs.length 0 lo)).take (HT.sIx xs.length xs.length hi - HT.sIx xs.length 0 lo), Heap.get?_push_size _ rfl⟩
def flatV : V → Bool
 | .non => true
 | .bl _ => true
 | .int _ => true
 | .str _ => true
 | _ => false
def eqV : V → V → Bool
 | .non, .non => true
 | .bl a, .bl b => a == b
 | .bl a, .int b => (if a then 1 else 0) == b
 | .int a, .bl b => a == (if b then 1 else 0)
 | .int a, .int b => a == b
 | .str a, .str b => a == b
 | _, _ => false
theorem qqC {A : Around} {s : Shared} {y x : V} {u v : Value} (ry : RelV y u) (rx : RelV x v) (fy : flatV y = true) (fx : flatV x = true) : SeqAt.EqAt A s u v (eqV y x) := by
 cases y with
 | non =>
  cases ry
  cases x with
  | non => cases rx; exact SeqAt.EqAt.same _
  | bl b => cases rx; exact SeqAt.EqAt.none_bool b
  | int b => obtain ⟨t, rfl⟩ := rx; exact SeqAt.EqAt.none_int b t
  | str b => obtain ⟨t, rfl⟩ := rx; exact SeqAt.EqAt.none_str b t
  | _ => exact absurd (show false = true from fx) Bool.false_ne_true
 | bl a =>
  cases ry
  cases x with
  | non => cases rx; exact SeqAt.EqAt.bool_none a
  | bl b => cases rx; exact SeqAt.EqAt.bool_bool a b
  | int b => obtain ⟨t, rfl⟩ := rx; exact SeqAt.EqAt.bool_int a b t
  | str b => obtain ⟨t, rfl⟩ := rx; exact SeqAt.EqAt.bool_str a b t
  | _ => exact absurd (show false = true from fx) Bool.false_ne_true
 | int a =>
  obtain ⟨t', rfl⟩ := ry
  cases x with
  | non => cases rx; exact SeqAt.EqAt.int_none a t'
  | bl b => cases rx; exact SeqAt.EqAt.int_bool a t' b
  | int b => obtain ⟨t, rfl⟩ := rx; exact SeqAt.EqAt.int_int a t' b t
  | str b => obtain ⟨t, rfl⟩ := rx; exact SeqAt.EqAt.int_str a t' b t
  | _ => exact absurd (show false = true from fx) Bool.false_ne_true
 | str a =>
  obtain ⟨t', rfl⟩ := ry
  cases x with
  | non => cases rx; exact SeqAt.EqAt.str_none a t'
  | bl b => cases rx; exact SeqAt.EqAt.str_bool a t' b
  | int b => obtain ⟨t, rfl⟩ := rx; exact SeqAt.EqAt.str_int a t' b t
  | str b => obtain ⟨t, rfl⟩ := rx; exact SeqAt.EqAt.str_str a t' b t
  | _ => exact absurd (show false = true from fx) Bool.false_ne_true
 | _ => exact absurd (show false = true from fy) Bool.false_ne_true
def eqU (x : V) (u : Value) : Bool := match u with
 | .none => eqV .non x
 | .bool b => eqV (.bl b) x
 | .int i _ => eqV (.int i) x
 | .str z _ => eqV (.str z) x
 | _ => false
theorem nqw {x y : V} {u : Value} (r : RelV y u) (f : flatV y = true) : eqU x u = eqV y x := by
 cases y with
 | non => cases r; rfl
 | bl b => cases r; rfl
 | int i => obtain ⟨t, rfl⟩ := r; rfl
 | str z => obtain ⟨t, rfl⟩ := r; rfl
 | _ => exact absurd (show false = true from f) Bool.false_ne_true
theorem fq3 {x : V} : ∀ {xs : List V} {us : List Value}, Vals xs us → xs.all flatV = true → us.any (eqU x) = xs.any fun y => eqV y x
 | _, _, .nil, _ => rfl
 | y :: xs, u :: us, .cons r t, f => by
  rw [List.all_cons, Bool.and_eq_true] at f
  rw [List.any_cons, List.any_cons, nqw r f.1, fq3 t f.2]
theorem eqX {A : Around} {s : Shared} {x : V} {v : Value} (rx : RelV x v) (fx : flatV x = true) : ∀ {xs : List V} {us : List Value}, Vals xs us → xs.all flatV = true → ∀ u ∈ us, SeqAt.EqAt A s u v (eqU x u)
 | _, _, .nil, _ => fun u hu => by cases hu
 | y :: xs, u :: us, .cons r t, f => fun u' hu => by
  rw [List.all_cons, Bool.and_eq_true] at f
  rcases List.mem_cons.mp hu with rfl | hu
  ·rw [nqw r f.1]; exact qqC r rx f.1 fx
  ·exact eqX rx fx t f.2 u' hu
def inV (x : V) (xs : List V) : Bool := xs.any fun y => eqV y x
def rIn (K : PySem.W.Frag) (neg : Bool) : R2 := fun x y H Q => ∃ p xs, y = .ref p ∧ (SqL K H p xs ∨ SqT K H p xs) ∧ flatV x = true ∧ xs.all flatV = true ∧ Q (.bl (if neg then !inV x xs else inV x xs)) H
theorem lqp : OpR X (compareOp .In) (rIn X.K false) := by
 intro pins s σ H x y v u Q I rx ry h
 obtain ⟨p, xs, rfl, hq, fx, fs, q⟩ := h
 cases ry
 rcases hq with hq | hq
 ·obtain ⟨its, r, pl, hz⟩ := I.list hq
  refine SeqAt.in_listAt (eqU x) pl.isList (fun w hw => eqX rx fx r fs w (by simpa using hw)) ⟨.bl _, H, I, rfl, ?_⟩
  rw [show its.toArray.any (eqU x) = its.any (eqU x) by simp, fq3 r fs]
  exact q
 ·obtain ⟨its, r, pl, hz⟩ := I.tuple hq
  refine SeqAt.in_tupleAt (eqU x) pl (fun w hw => eqX rx fx r fs w (by simpa using hw)) ⟨.bl _, H, I, rfl, ?_⟩
  rw [show its.toArray.any (eqU x) = its.any (eqU x) by simp, fq3 r fs]
  exact q
theorem hq7 : OpR X (compareOp .NotIn) (rIn X.K true) := by
 intro pins s σ H x y v u Q I rx ry h
 obtain ⟨p, xs, rfl, hq, fx, fs, q⟩ := h
 cases ry
 rcases hq with hq | hq
 ·obtain ⟨its, r, pl, hz⟩ := I.list hq
  refine SeqAt.notIn_listAt (eqU x) pl.isList (fun w hw => eqX rx fx r fs w (by simpa using hw)) ⟨.bl _, H, I, rfl, ?_⟩
  rw [show its.toArray.any (eqU x) = its.any (eqU x) by simp, fq3 r fs]
  exact q
 ·obtain ⟨its, r, pl, hz⟩ := I.tuple hq
  refine SeqAt.notIn_tupleAt (eqU x) pl (fun w hw => eqX rx fx r fs w (by simpa using hw)) ⟨.bl _, H, I, rfl, ?_⟩
  rw [show its.toArray.any (eqU x) = its.any (eqU x) by simp, fq3 r fs]
  exact q
theorem iqq : CallR X (.builtin "len") (fun xs H Q => ∃ p ys, xs = [.ref p] ∧ (SqL X.K H p ys ∨ SqT X.K H p ys) ∧ Q (.int ys.length) H) := by
 intro pins s σ H xs us Q I r h
 obtain ⟨p, ys, rfl, hq, q⟩ := h
 obtain ⟨u, rfl, rx⟩ := vals1 r
 cases rx
 have hn := line63
 rcases hq with hq | hq
 ·obtain ⟨its, r', pl, hz⟩ := I.list hq
  have hlen := r'.length
  exact Calls.call_len_list pl.isList (by simp only [List.size_toArray] <;> lia) ⟨.int ys.length, H, I.tok _, ⟨s.toks + 1, by rw [List.size_toArray, hlen]⟩, q⟩
 ·obtain ⟨its, r', pl, hz⟩ := I.tuple hq
  have hlen := r'.length
  exact len_tuple pl (by simp only [List.size_toArray] <;> lia) ⟨.int ys.length, H, I.tok _, ⟨s.toks + 1, by rw [List.size_toArray, hlen]⟩, q⟩
theorem iqF : CallR X (.builtin "len") (fun xs H Q => ∃ z, xs = [.str z] ∧ z.length ≤ sizeLine ∧ Q (.int z.length) H) := by
 intro pins s σ H xs us Q I r h
 obtain ⟨z, rfl, hz, q⟩ := h
 obtain ⟨u, rfl, t, rfl⟩ := vals1 r
 have hn := line63
 exact len_str (by lia) ⟨.int z.length, H, I.tok _, ⟨_, rfl⟩, q⟩
theorem iqR : CallR X (.type "list") (fun xs H Q => ∃ p ys, xs = [.ref p] ∧ (SqL X.K H p ys ∨ SqT X.K H p ys) ∧ ∀ l, H l = none → Q (.ref l) (upd H l (.lst ys))) := by
 intro pins s σ H xs us Q I r h
 obtain ⟨p, ys, rfl, hq, q⟩ := h
 obtain ⟨u, rfl, rx⟩ := vals1 r
 cases rx
 have fin : ∀ (its : List Value), Vals ys its → ys.length ≤ sizeLine → ∀ (h' : Heap) (c' : Nat), (∀ b o', s.heap.get? b = some o' → h'.get? b = some o') →
   h'.get? s.heap.objs.size = some { cls := .type "list", dict := none, data := .seq its.toArray c', slots := #[] } → EP X pins σ Q (.ref s.heap.objs.size) { s with heap := h' } := fun its r' hz h' c' kp e =>
  ⟨.ref s.heap.objs.size, _, I.laid (t' := s.toks) kp (Nat.le_refl _) (show ObjOk X.prog X.w _ h' _ (.lst ys) from ⟨hz, its, c', r', e⟩), rfl, q _ (I.hok.fresh (Nat.le_refl _))⟩
 rcases hq with hq | hq
 ·obtain ⟨its, r', pl, hz⟩ := I.list hq
  have hlen := r'.length
  obtain ⟨o, ho, hc, n, hd⟩ := pl.isList
  exact call_list_seq p (.inl rfl) ho hc hd (fun h' c' kp e => fin its r' hz h' c' kp e) (by simp only [List.size_toArray] <;> lia)
 ·obtain ⟨its, r', pl, hz⟩ := I.tuple hq
  have hlen := r'.length
  obtain ⟨o, ho, hc, n, hd⟩ := pl
  exact call_list_seq p (.inr rfl) ho hc hd (fun h' c' kp e => fin its r' hz h' c' kp e) (by simp only [List.size_toArray] <;> lia)
theorem eqm : CallR X (.type "tuple") (fun xs H Q => ∃ p ys, xs = [.ref p] ∧ ((SqL X.K H p ys ∧ ∀ l, H l = none → Q (.ref l) (upd H l (.tup ys))) ∨ (SqT X.K H p ys ∧ Q (.ref p) H))) := by
 intro pins s σ H xs us Q I r h
 obtain ⟨p, ys, rfl, h⟩ := h
 obtain ⟨u, rfl, rx⟩ := vals1 r
 cases rx
 rcases h with ⟨hq, q⟩ | ⟨hq, q⟩
 ·obtain ⟨its, r', pl, hz⟩ := I.list hq
  have hlen := r'.length
  refine call_tuple_list pl.isList (fun h' kp => ?_) (by simp only [List.size_toArray] <;> lia)
  have I1 : Inv X pins σ H { s with heap := h' } := I.kept (t' := s.toks) kp
  have I2 : Inv X pins σ (upd H h'.objs.size (.tup ys)) { s with heap := h'.push { cls := .type "tuple", data := .seq its.toArray } } :=
   I1.laid (t' := s.toks) (fun b o e => Heap.get?_push_of_some _ e) (Nat.le_refl _) (show ObjOk X.prog X.w _ _ _ (.tup ys) from ⟨hz, its, r', IsTup.new _ _⟩)
  exact ⟨.ref h'.objs.size, _, I2, rfl, q _ (I1.hok.fresh (Nat.le_refl _))⟩
 ·obtain ⟨its, r', pl, hz⟩ := I.tuple hq
  exact call_tuple_same pl ⟨.ref p, H, I, rfl, q⟩
def tyV (K : PySem.W.Frag) (T : String) (x : V) (H : Hp) : Prop := match x with
 | .str _ => T = "str"
 | .int _ => T = "int"
 | .ref p => (T = "list" ∧ ∃ xs, SqL K H p xs) ∨ (T = "tuple" ∧ ∃ o, K.lookup p = some o ∧ o.cls = .type "tuple" ∧ o.dict = none) ∨
   (T = "dict" ∧ ((∃ kvs, H p = some (.dK kvs)) ∨ ∃ kvs, H p = some (.dT kvs))) ∨ (T = "set" ∧ ∃ S n, H p = some (.set S n))
 | _ => False
theorem pqN {pins : List (Addr × Obj)} {σ : St} {H : Hp} {s : Shared} {T : String} {x : V} {v : Value} (I : Inv X pins σ H s) (r : RelV x v) (ty : tyV X.K T x H) :
  s.TypeIs v T ∧ ∀ a, v = .ref a → ∃ ob, s.heap.get? a = some ob ∧ ob.dict = none := by
 cases x with
 | str z =>
  obtain ⟨t, rfl⟩ := r
  cases (show T = "str" from ty)
  exact ⟨typeIs_str s z t, fun _ e => nomatch e⟩
 | int i =>
  obtain ⟨t, rfl⟩ := r
  cases (show T = "int" from ty)
  exact ⟨typeIs_int s i t, fun _ e => nomatch e⟩
 | ref p =>
  cases r
  rcases ty with ⟨rfl, xs, hq⟩ | ⟨rfl, o, hk, hc, hd⟩ | ⟨rfl, hk⟩ | ⟨rfl, S, n, hk⟩
  ·obtain ⟨its, _, pl, _⟩ := I.list hq
   refine ⟨pl.isList.typeIs, fun a e => ?_⟩
   cases e
   obtain ⟨o, n, e, c, hd, _⟩ := pl
   exact ⟨o, e, hd⟩
  ·refine ⟨⟨o, I.kIn p o hk, hc⟩, fun a e => ?_⟩
   cases e
   exact ⟨o, I.kIn _ o hk, hd⟩
  ·have z : ∃ o, s.heap.get? p = some o ∧ o.ExactDict := by
    rcases hk with ⟨kvs, hk⟩ | ⟨kvs, hk⟩
    ·obtain ⟨_, _, _, _, o, _, _, e, ex, _⟩ := I.hok p _ hk
     exact ⟨o, e, ex⟩
    ·obtain ⟨_, _, _, _, o, _, _, e, ex, _⟩ := I.hok p _ hk
     exact ⟨o, e, ex⟩
   obtain ⟨o, e, ex⟩ := z
   refine ⟨⟨o, e, ex.1⟩, fun a e2 => ?_⟩
   cases e2
   exact ⟨o, e, ex.2.1⟩
  ·obtain ⟨o, _, _, _, e, ex, _⟩ := I.hok p _ hk
   refine ⟨⟨o, e, ex.1⟩, fun a e2 => ?_⟩
   cases e2
   exact ⟨o, e, ex.2.1⟩
 | _ => exact False.elim ty
def tBM0 (K : PySem.W.Frag) (T : String) (r : V → List V → Hp → VK → Prop) (to : TE) : TE := fun σ H Q => to σ H fun x H1 => tyV K T x H1 ∧ r x [] H1 Q
def tBM (K : PySem.W.Frag) (T : String) (r : V → List V → Hp → VK → Prop) (to : TE) (t : TA) : TE := fun σ H Q => to σ H fun x H1 => tyV K T x H1 ∧ t σ H1 fun xs H2 => r x xs H2 Q
variable {o e : Expr} {es : List Expr} {to : TE} {t : TA} {name : Str} {apos cpos : Pos} {T id : String} {r : V → List V → Hp → VK → Prop}
theorem qqX (pa : PlainAttrs T) (slot : Slot T name id) (hty : typeOf (.builtin id) = pure (.type "method_descriptor")) (hm : MtR X id r) (ho : PE X o to) (ha : PA X (e :: es) t)
  (hbase : attributeBase o name X.env (eval o X.env) = eval o X.env := by rfl)
  (hfew : ((backTo cpos (starEach (e :: es) X.env)).all (fun x => !x.1) && (backToKw cpos (keywordEach [] X.env)).all (fun x => x.1.isSome)
   && decide ((e :: es).length + ([] : List Keyword).length + (if ([] : List Keyword).isEmpty then 0 else 1) < 30)) = true := by rfl)
  (hline : (apos.endLine == cpos.line) = true := by rfl) (hs : starEach (e :: es) X.env = (false, eval e X.env) :: starEach es X.env := by rfl) (hplain : (backTo cpos (starEach es X.env)).any (·.1) = false := by rfl) :
  PE X (.Call (.Attribute o name apos) (e :: es) [] cpos) (tBM X.K T r to t) := by
 intro pins s σ H Q I h
 refine wpAny_Call_method_late hbase hfew hline rfl (thn (ho pins s σ H _ I h) fun v s1 W' => ?_)
 obtain ⟨x, H1, I1, r1, ty, q1⟩ := W'
 obtain ⟨h1, h2⟩ := pqN I1 r1 ty
 refine ⟨T, id, pa, slot, hty, h1, h2, ?_⟩
 have hA := ha cpos pins s1 σ H1 _ I1 q1
 rw [hs] at hA ⊢
 refine Calls.callWith_builtin (by show (false || (backTo cpos (starEach es X.env)).any (·.1)) = false; rw [hplain] <;> rfl) (Calls.evalArgs_plain ?_)
 exact thn hA fun us s2 ⟨vs, H2, I2, r2, q2⟩ => hm pins s2 σ H2 x vs v us Q I2 r1 r2 q2
end
def MtM (X : Cx) (id : String) (r : V → List V → Hp → VK → Prop) : Prop :=
 ∀ (pins : List (Addr × Obj)) (s : Shared) (σ : St) (H : Hp) (x : V) (xs : List V) (v : Value) (us : List Value) (Q : VK), Inv X pins σ H s → RelV x v → Vals xs us → r x xs H Q →
  wpAny (model X.prog X.w) X.A (call (.builtin id) (v :: us)) (EP X pins σ Q) X.xe s
theorem Vals.one : ∀ {x : V} {us : List Value}, Vals [x] us → ∃ u, us = [u] ∧ RelV x u
 | _, _, .cons r .nil => ⟨_, rfl, r⟩
section
variable {X : Cx} {pins : List (Addr × Obj)} {σ : St} {H : Hp} {s : Shared} {l b : Addr} {xs ys zs : List V}
theorem Inv.lset {its its' : List Value} {n : Nat} {f : Array Value → Array Value} {t' : Nat} (I : Inv X pins σ H s) (hH : H l = some (.lst xs))
  (e : s.heap.get? l = some { cls := .type "list", data := .seq its.toArray n }) (hf : f its.toArray = its'.toArray) (hv : Vals ys its') (hz : ys.length ≤ sizeLine) :
  Inv X pins σ (upd H l (.lst ys)) { s with heap := s.heap.update l (Obj.mapSeq f), toks := t' } := by
 have q := PySem.IsL.update e f
 rw [hf] at q
 refine I.write (x := l) (e := l) (by rw [hH]; exact trivial) (.inl rfl) (fun b' u hb hu => (Heap.get?_update_other s.heap (Obj.mapSeq f) (Ne.symm hb)).trans hu) ⟨_, q⟩ ?_
 exact ⟨hz, its', _, hv, q⟩
theorem Inv.lnew {its : List Value} {t' : Nat} (I : Inv X pins σ H s) (hv : Vals ys its) (hz : ys.length ≤ sizeLine) :
  Inv X pins σ (upd H s.heap.objs.size (.lst ys)) { s with heap := s.heap.push { cls := .type "list", data := .seq its.toArray }, toks := t' } :=
 I.laid (fun _ _ q => Heap.get?_push_of_some _ q) (Nat.le_refl _) ⟨hz, its, 0, hv, Heap.get?_push_size _ rfl⟩
theorem Inv.fresh (I : Inv X pins σ H s) : H s.heap.objs.size = none := I.hok.fresh (Nat.le_refl _)
theorem Inv.lstM (I : Inv X pins σ H s) (hH : H l = some (.lst xs)) : xs.length ≤ sizeLine ∧ ∃ (its : List Value) (n : Nat), Vals xs its ∧ xs.length = its.length ∧ s.heap.get? l = some { cls := .type "list", data := .seq its.toArray n } := by
 obtain ⟨z, its, n, r, e⟩ := I.hok l _ hH
 exact ⟨z, its, n, r, r.length, e⟩
theorem notLongL {n : Nat} (h : n ≤ sizeLine) : Builtin.List.listTooLong n = false := by
 unfold Builtin.List.listTooLong
 exact decide_eq_false (by lia)
end
section
variable {X : Cx}
def rAppend : V → List V → Hp → VK → Prop := fun x vs H Q => ∃ l xs y, x = .ref l ∧ vs = [y] ∧ H l = some (.lst xs) ∧ xs.length < sizeLine ∧ Q .non (upd H l (.lst (xs ++ [y])))
theorem eqH : MtM X "list.append" rAppend := by
 intro pins s σ H x vs v us Q I rx rv h
 obtain ⟨l, xs, y, rfl, rfl, hH, hz, q⟩ := h
 cases rx
 obtain ⟨u, rfl, ru⟩ := rv.one
 obtain ⟨z, its, n, r, hl, e⟩ := I.lstM hH
 refine call_meets F.slot_list_append ⟨_, e, rfl⟩ F.entry_list_append (F.args_list_append_2 _ _) (PySem.list_append l its.toArray n u (by rw [List.size_toArray]; lia)) ⟨e, ?_⟩
 refine ⟨.non, _, I.lset (its' := its ++ [u]) hH e (by simp) (r.append (.cons ru .nil)) ?_, rfl, q⟩
 rw [List.length_append, List.length_singleton]
 lia
def rExtend : V → List V → Hp → VK → Prop := fun x vs H Q => ∃ l b xs zs, x = .ref l ∧ vs = [.ref b] ∧ H l = some (.lst xs) ∧ H b = some (.lst zs) ∧ xs.length + zs.length ≤ sizeLine ∧ Q .non (upd H l (.lst (xs ++ zs)))
theorem lqh : MtM X "list.extend" rExtend := by
 intro pins s σ H x vs v us Q I rx rv h
 obtain ⟨l, b, xs, zs, rfl, rfl, hH, hB, hz, q⟩ := h
 cases rx
 obtain ⟨u, rfl, ru⟩ := rv.one
 cases ru
 obtain ⟨z, its, n, r, hl, e⟩ := I.lstM hH
 obtain ⟨z2, its2, n2, r2, hl2, e2⟩ := I.lstM hB
 have hsz : its.toArray.size + its2.toArray.size ≤ sizeLine := by rw [List.size_toArray, List.size_toArray]; lia
 have hlong : ¬ (!its.toArray.isEmpty && Builtin.List.listTooLong (its.toArray.size + its2.toArray.size)) = true := by
  rw [notLongL hsz, Bool.and_false]
  exact Bool.false_ne_true
 refine call_meets F.slot_list_extend ⟨_, e, rfl⟩ F.entry_list_extend (F.args_list_extend_2 _ _)
  (AutoSeq1.list_extend_list_list_0 l its.toArray n b its2.toArray n2 hlong (by rw [List.size_toArray]; lia) (by lia)) ⟨e, e2, ?_⟩
 refine ⟨.non, _, I.lset (its' := its ++ its2) hH e (by simp) (r.append r2) ?_, rfl, q⟩
 rw [List.length_append]
 lia
def rPop : V → List V → Hp → VK → Prop := fun x vs H Q => ∃ l xs y, x = .ref l ∧ vs = [] ∧ H l = some (.lst xs) ∧ xs[xs.length - 1]? = some y ∧ Q y (upd H l (.lst xs.dropLast))
def rPopAt : V → List V → Hp → VK → Prop := fun x vs H Q => ∃ l xs i k y, x = .ref l ∧ vs = [.int i] ∧ H l = some (.lst xs) ∧ -(2 ^ 63) ≤ i ∧ i < 2 ^ 63 ∧ seqIndex? i xs.length = some k ∧ xs[k]? = some y ∧ Q y (upd H l (.lst (xs.eraseIdx k)))
def rReverse : V → List V → Hp → VK → Prop := fun x vs H Q => ∃ l xs, x = .ref l ∧ vs = [] ∧ H l = some (.lst xs) ∧ Q .non (upd H l (.lst xs.reverse))
def rCat : R2 := fun x y H Q => ∃ l b xs zs, x = .ref l ∧ y = .ref b ∧ H l = some (.lst xs) ∧ H b = some (.lst zs) ∧ xs.length + zs.length ≤ sizeLine ∧ ∀ p, H p = none → Q (.ref p) (upd H p (.lst (xs ++ zs)))
theorem pqF : OpR X (binaryOp .Add) rCat := by
 intro pins s σ H x y v u Q I rx ry h
 obtain ⟨l, b, xs, zs, rfl, rfl, hH, hB, hz, q⟩ := h
 cases rx
 cases ry
 obtain ⟨z, its, n, r, hl, e⟩ := I.lstM hH
 obtain ⟨z2, its2, n2, r2, hl2, e2⟩ := I.lstM hB
 refine PySem.P.add_list e e2 ?_ (by rw [List.size_toArray, List.size_toArray]; lia)
 have ea : its.toArray ++ its2.toArray = (its ++ its2).toArray := by simp
 rw [ea]
 exact ⟨.ref _, _, I.lnew (t' := s.toks) (r.append r2) (by rw [List.length_append]; lia), rfl, q _ I.fresh⟩
end
section
variable {prog : Program} {w : World} {A : Around} {E : Value → Shared → Prop} {s : Shared}
set_option maxRecDepth 100000 in
end
section
variable {X : Cx}
end
end L2
namespace Att
open PySem PySem.W PySem.Calls PyProof.Rows
theorem gql {P : Params} {h : Heap} : ∀ (ns : List Int) (vs : List Value), WellAll P h vs (ns.map WData.int) → IntsAre vs ns := by
 intro ns
 induction ns with
 | nil =>
  intro vs w
  rw [List.map_nil] at w
  cases w
  exact .nil
 | cons n ns ih =>
  intro vs w
  rw [List.map_cons] at w
  cases w with
  | cons a b =>
   cases a
   exact .cons _ _ (ih _ b)
theorem kqU {l : OpenLaw} {n : Nat} (hn : l.most = some n) {P : Params} {h : Heap} {args : List WData} {vals : List Value}
  (hpre : l.row.toRowW.claim.pre args = true) (hwl : WellAll P h vals args) :
  ∃ a vs ns, vals = [Value.ref a] ∧ args = [WData.list (ns.map WData.int)] ∧ h.get? a = some { cls := .type "list", data := .seq vs.toArray } ∧ IntsAre vs ns ∧ ns.length ≤ n := by
 have hsh : WShape.hasAll [] args [.list .int] = true := (pre_splitW hpre).1
 have hc : l.pre.holds [] { args := args } = true := (pre_splitW hpre).2
 obtain ⟨d, r, rfl, h1, h2⟩ := hasAllW_cons hsh
 obtain rfl := hasAllW_nil h2
 obtain ⟨xs, rfl, h3⟩ := hasW_list h1
 obtain ⟨ns, rfl⟩ := items_int h3
 have hlen : ns.length ≤ n := by
  unfold OpenLaw.pre at hc
  have h4 : (WTm.not (.lt (.lit (.int (n : Int))) (.len (.arg 0)))).holds [] { args := [.list (ns.map .int)] } = true := by
   have h4 := (holds_andW hc).1
   rw [hn] at h4
   exact h4
  have h5 := condW_of h4 (w_not (w_lt w_lit (w_len_list (w_arg rfl))))
  rw [List.length_map] at h5
  refine Nat.le_of_not_lt fun q => ?_
  have q' : (n : Int) < ((ns.length : Nat) : Int) := by lia
  first
   | (rw [decide_eq_true q'] at h5; exact absurd h5 (by decide))
   | (simp at h5; lia)
 cases hwl with
 | cons w1 w2 =>
  cases w2
  cases w1 with
  | list ho hall => exact ⟨_, _, ns, rfl, rfl, ho, gql ns _ hall, hlen⟩
theorem kq4 (l : OpenLaw) (args : List WData) : l.row.toRowW.claim.post args (.bool true) args = true :=
 postW_of (r := l.row.toRowW) (X := (true == true))
  (show WShape.has [] (.bool true) .bool = true by first | rfl | decide | simp [WShape.has, WShape.arms, WShape.armsAll])
  (show (WTm.eq .res (.lit (.bool true))).value [] { args := args, res := some (.bool true), after := args } = some (.bool (true == true)) from w_eq_bool (w_res rfl) w_lit) rfl
theorem attach_call {l : OpenLaw} {n : Nat} {q : Program} {loose : List Str} {XP : (Str → Option Value) → Heap → Prop} {YP : World → Heap → Prop} {d : DefRec}
  (hn : l.most = some n) (hdf : d.params.defaults = [])
  (call : ∀ (w : World) (s₀ s₁ : Shared) (mg mb : Str → Option Value) (fa : Addr) (o : Obj) (pm cd doc : Value) (a : Addr) (vs : List Value) (ns : List Int),
   Ground q loose [] XP w s₀ mg mb s₁.heap → YP w s₁.heap →
   s₁.heap.get? fa = some o → o.data = .func (docDef d.name d.params d.body d.scope pm cd doc) → s₁.heap.CodeRec cd d.name → mg d.name = some (.ref fa) →
   s₁.heap.get? a = some { cls := .type "list", data := .seq vs.toArray } → IntsAre vs ns → ns.length ≤ n → s₁.gens = #[] →
   codeAny (model l.prog w) callerA (.call (.ref fa) ⟨[.ref a], []⟩) (fun r s' => r = .ok (.ret (.bool true)) ∧ OldK s₁.heap s'.heap ∧ s'.os = s₁.os ∧ AllBare s'.gens) s₁) :
  WalkO q loose XP YP l.row.toRowW d [] (fun f vs => PySem.call f vs) := by
 intro w s₀ s₁ mg mb G Y fa o pm cd doc dV kV ho hd hcd hD hmg hg args vals as hpre hlay hrd hwl hlo
 obtain rfl : dV = .none := Dflts.none hD hdf
 obtain rfl : kV = .none := Dflts.noKw hD
 obtain ⟨a, vs, ns, rfl, rfl, hobj, hints, hlen⟩ := kqU hn hpre hwl
 refine enter_call (codeAny_mono (call w s₀ s₁ mg mb fa o pm cd doc a vs ns G Y ho (fd_plain hd) hcd hmg hobj hints hlen hg) fun r s' hq => ?_)
 obtain ⟨rfl, h2, h3, h4⟩ := hq
 exact ⟨.inl ⟨.bool true, .bool true, [], rfl, fun _ => rfl, .bool true, kq4 l _, fun _ => ⟨List.Pairwise.nil, fun _ hm => (nomatch hm)⟩⟩, h2, h3, h4⟩
section
variable {prog : Program} {w : World} {A : Around} {E : Value → Shared → Prop} {s : Shared} {K : Frag}
def ledger (h : Heap) (L d : Addr) : List (Addr × Obj) := (List.range h.objs.size).filterMap fun a => if a = L ∨ a = d then none else (h.get? a).map fun o => (a, o)
end
end Att
namespace L2
open PySem PySem.Spec PyProof.Rows
theorem hq8 : ∀ {vs : List Value} {ns : List Int}, IntsAre vs ns → Vals (ns.map V.int) vs
 | _, _, .nil => .nil
 | _, _, .cons n t h => .cons ⟨t, rfl⟩ (hq8 h)
def Only (H : Hp) : Prop := ∀ b, H b = none ∨ ∃ o xs, H b = some (.frz o (.lst xs))
theorem mqw {P : Program} {w : World} {K : PySem.W.Frag} {mg mb : Str → Option Value} {CX : CXT} {k : Nat} {fa a : Addr} {fd : FuncData} {x : Str} {sp : Sp} {s₁ : Shared} {vs : List Value} {ns : List Int}
  (KX : K.In s₁.heap) (hns : s₁.heap.Ns mainGlobals mg) (hb : s₁.heap.Ns builtinsNs mb) (hbb : ∀ x : Str, x ≠ "__name__" → mb x = bootBuiltins x) (hlim : s₁.heap.NoLimit) (hg : s₁.gens = #[])
  (ha : s₁.heap.get? a = some { cls := .type "list", data := .seq vs.toArray }) (hi : IntsAre vs ns) (hl : ns.length ≤ sizeLine) (hr : Room k callerA)
  (F : ∀ base : Heap, K.In base → base.Ns mainGlobals mg → FnOk P w K mg base CX k fa fd [x] sp) (hbind : ∀ (s : Shared) (u : Value), BindsTo s fd ⟨[u], []⟩ [(x, u)])
  (hsp : ∀ H : Hp, Only H → SqL K H a (ns.map V.int) → sp [.ref a] H (fun v _ => v = .bl true) fun _ _ _ => False)
  (hCX : ∀ H e s', CX [] H s₁ (fun _ _ _ => False) e s' → False) :
  codeAny (model P w) callerA (.call (.ref fa) ⟨[.ref a], []⟩) (fun r s' => r = .ok (.ret (.bool true)) ∧ OldK s₁.heap s'.heap ∧ s'.os = s₁.os ∧ AllBare s'.gens) s₁ := by
 have rv := hq8 hi
 have lenV := hi.length
 have core : ∀ H : Hp, Only H → SqL K H a (ns.map V.int) → HOk P w H s₁.heap → (∀ b, H b ≠ none → b = a) → (H a ≠ none → K.lookup a = none) →
   codeAny (model P w) callerA (.call (.ref fa) ⟨[.ref a], []⟩) (fun r s' => r = .ok (.ret (.bool true)) ∧ OldK s₁.heap s'.heap ∧ s'.os = s₁.os ∧ AllBare s'.gens) s₁ := by
  intro H hO hS hok hA hK
  have base_of : ∀ {b : Addr} {o : Obj}, s₁.heap.get? b = some o → H b = none → (hidT s₁.heap H).get? b = some o := fun e n => mqb e n
  have noA : ∀ {b : Addr} {o : Obj} {es : Array DictEntry} {ep : Nat}, s₁.heap.get? b = some o → o.data = .dict es ep → H b = none := fun {b o es ep} e d => by
   cases q : H b with
   | none => rfl
   | some u =>
    have e' : b = a := hA b (by rw [q]; simp)
    subst e'
    rw [ha] at e; cases e
    have d' : Data.seq vs.toArray _ = Data.dict es ep := d
    cases d'
  have nsK : ∀ {b : Addr} {m : Str → Option Value}, s₁.heap.Ns b m → (hidT s₁.heap H).Ns b m := fun {b m} ⟨o, es, ep, e, d, r⟩ => ⟨o, es, ep, base_of e (noA e d), d, r⟩
  have hKb : K.In (hidT s₁.heap H) := fun b o e => base_of (KX b o e) (by
   cases q : H b with
   | none => rfl
   | some u =>
    have e' : b = a := hA b (by rw [q]; simp)
    subst e'
    rw [hK (by rw [q]; simp)] at e; cases e)
  have hM : Mod K mg (hidT s₁.heap H) := ⟨hKb, nsK hns, ⟨mb, nsK hb, hbb⟩, let ⟨mc, h1, h2⟩ := hlim; ⟨mc, nsK h1, h2⟩⟩
  have e0 : Env0 P w K mg (hidT s₁.heap H) callerA [] s₁ H := ⟨rfl, hM, fun b o e => nqD e, Nat.le_of_eq (lqm _ _), trivial, fun b hb => absurd (show b ∈ ([] : List Addr) from hb) (by simp), hok, .of_eq hg⟩
  refine codeAny_mono ((F _ hKb (nsK hns)).run callerA [] s₁ H ⟨[.ref a], []⟩ [.ref a] [.ref a] _ _ hr e0 (hbind s₁ (.ref a)) (.cons rfl .nil) (hsp H hO hS)) fun r s' h => ?_
  cases r with
  | error e => exact (hCX H e s' h).elim
  | ok fl =>
   cases fl with
   | next => exact False.elim h
   | brk => exact False.elim h
   | cont => exact False.elim h
   | ret u =>
    obtain ⟨v, H', os, bare, un, hok', r', q⟩ := h
    have q' : v = .bl true := q
    subst q'
    obtain rfl : u = Value.bool true := r'
    refine ⟨rfl, OldK.of_keep fun b o e => ?_, os, bare⟩
    cases q : H b with
    | none => exact un.keep b o e q (by intro z; exact absurd (show b ∈ ([] : List Addr) from z) (by simp)) (by simp)
    | some u =>
     rcases hO b with z | ⟨ob, xs, z⟩
     ·rw [q] at z; cases z
     ·have z2 := un.frzs b ob _ z
      obtain ⟨e1, _⟩ := hok b _ z
      obtain ⟨e2, _⟩ := hok' b _ z2
      rw [e] at e1; cases e1
      exact e2
 cases hk : K.lookup a with
 | some o =>
  have e := KX a o hk
  rw [ha] at e
  cases e
  refine core (fun _ => none) (fun _ => .inl rfl) (.inr ⟨_, vs.toArray, _, hk, rfl, rfl, rfl, by rw [List.size_toArray, lenV]; exact hl, by simpa using rv⟩) (fun b u z => by have z' : (none : Option HO) = some u := z; cases z') (fun b z => absurd rfl z) fun z => absurd rfl z
 | none =>
  refine core (fun b => if b = a then some (.frz { cls := .type "list", data := .seq vs.toArray } (.lst (ns.map V.int))) else none) (fun b => ?_) (.inl (.inr ⟨{ cls := .type "list", data := .seq vs.toArray }, if_pos rfl⟩)) (fun b u z => ?_) (fun b z => ?_) fun _ => hk
  ·by_cases hb : b = a
   ·exact .inr ⟨_, _, if_pos hb⟩
   ·exact .inl (if_neg hb)
  ·by_cases hb : b = a
   ·have z' := (if_pos hb).symm.trans z
    cases z'
    subst hb
    exact ⟨ha, by rw [List.length_map]; exact hl, vs, _, rv, ha⟩
   ·have z' := (if_neg hb).symm.trans z
    cases z'
  ·by_cases hb : b = a
   ·exact hb
   ·exact absurd (if_neg hb) z
abbrev KOf {K : PySem.W.Frag} {h : Heap} (_ : K.In h) : PySem.W.Frag := K
theorem oqN {l : PySem.W.OpenLaw} {n k : Nat} {q : Program} {loose : List Str} {XP : (Str → Option Value) → Heap → Prop} {YP : World → Heap → Prop} {d : DefRec} {K : Params → PySem.W.Frag} {CX : World → CXT} {sp : World → Sp} {x : Str}
  (hn : l.most = some n) (hn2 : n ≤ sizeLine) (hdf : d.params.defaults = []) (hr : Room k callerA)
  (hY : ∀ (w : World) (h : Heap), YP w h → (K w.params).In h)
  (F : ∀ (w : World) (mg : Str → Option Value) (fa : Addr) (h : Heap), (K w.params).In h → h.Ns mainGlobals mg → mg d.name = some (.ref fa) →
   ∃ fd : FuncData, (∀ (s : Shared) (u : Value), BindsTo s fd ⟨[u], []⟩ [(x, u)]) ∧
    ∀ base : Heap, (K w.params).In base → base.Ns mainGlobals mg → FnOk l.prog w (K w.params) mg base (CX w) k fa fd [x] (sp w))
  (hsp : ∀ (w : World) (H : Hp) (a : Addr) (ns : List Int), ns.length ≤ n → Only H → SqL (K w.params) H a (ns.map V.int) → sp w [.ref a] H (fun v _ => v = .bl true) fun _ _ _ => False)
  (hCX : ∀ (w : World) (H : Hp) (s : Shared) (e : Value) (s' : Shared), CX w [] H s (fun _ _ _ => False) e s' → False) :
  PySem.W.WalkO q loose XP YP l.row.toRowW d [] (fun f vs => PySem.call f vs) := by
 refine Att.attach_call hn hdf fun w s₀ s₁ mg mb fa o pm cd doc a vs ns G Y ho hd hcd hmg hobj hints hlen hg => ?_
 have KX := hY w _ Y
 obtain ⟨fd, hb, hF⟩ := F w mg fa _ KX G.T.g hmg
 exact mqw KX G.T.g G.T.b G.T.builtins G.T.nolimit hg hobj hints (Nat.le_trans hlen hn2) hr hF hb (fun H hO hS => hsp w H a ns hlen hO hS) fun H e s' => hCX w H s₁ e s'
def inClass (s : Stmt) (j : Nat) : Stmt := match s with
 | .ClassDef _ _ _ body _ _ _ _ _ _ _ => body.getD j (.Pass ⟨0, 0, 0, 0⟩)
 | _ => .Pass ⟨0, 0, 0, 0⟩
def defArgs (s : Stmt) : Arguments := match s with
 | .FunctionDef _ a _ _ _ _ _ _ _ _ => a
 | _ => { posonlyargs := [], args := [], vararg := none, kwonlyargs := [], kw_defaults := [], kwarg := none, defaults := [] }
def defBody (s : Stmt) : List Stmt := match s with
 | .FunctionDef _ _ b _ _ _ _ _ _ _ => b
 | _ => []
def defScope (s : Stmt) : Scope := match s with
 | .FunctionDef _ _ _ _ _ _ sc _ _ _ => sc
 | _ => { kind := .function, names := [], isGenerator := false, isCoroutine := false }
abbrev CX0 : CXT := fun _ _ _ _ _ _ => False
abbrev E0 : XK := fun _ _ _ => False
theorem pass0 {X : Cx} : Passes CX0 X E0 := fun _ _ _ _ _ _ _ h => h.elim
structure Fun (K : PySem.W.Frag) (x qual : Str) (st : Stmt) (f : Addr) (fd : FuncData) : Prop where
 ex : ∃ (oc : Value) (od : Option Addr) (kV doc pm : Value) (an : Option Addr) (cdv ct : Value) (osl : Array (Option Value)),
  fd = PySem.W.fnOf x qual (defArgs st) (defBody st) (defScope st) .none kV doc pm an cdv ct ∧ K.lookup f = some ⟨oc, od, .func fd, osl⟩ ∧ PySem.W.codeIn K cdv qual = true
 kp : PySem.W.keepIn K (.ref f) = true
section
variable {P : Program} {w : World} {K : PySem.W.Frag} {mg : Str → Option Value} {base : Heap}
theorem Fun.ok {x qual : Str} {st : Stmt} {f : Addr} {fd : FuncData} {N ps : List Str} {k : Nat} {sp : Sp} (F : Fun K x qual st f fd) (S : FnScope N ps (defScope st)) (len : ∀ vs H Q E, sp vs H Q E → vs.length = ps.length)
  (hbody : ∀ (cdv : Value) (A : Around) (outer : List Env) (s : Shared) (H : Hp) (vs : List V) (Q : VK) (E : XK), Room k (A.deeper (envOfC qual (defScope st) s.heap.objs.size f cdv)) → sp vs H Q E →
   ∃ t, PSs (cxOf CX0 P w K mg base N qual (defScope st) f cdv A outer s H E).nox (defBody st) t ∧ t { nx := fun _ H' => Q .non H', rt := Q } (start N vs) H) : FnOk P w K mg base CX0 (k + 1) f fd ps sp := by
 obtain ⟨oc, od, kV, doc, pm, an, cdv, ct, osl, rfl, lk, hcd⟩ := F.ex
 refine qqj lk hcd S len fun A outer s H vs Q E hr hsp => ?_
 obtain ⟨t, h, q⟩ := hbody cdv A outer s H vs Q E hr hsp
 exact ⟨t, h.nox, q⟩
theorem Fun.binds {x qual : Str} {st : Stmt} {f : Addr} {fd : FuncData} {ps : List Str} (F : Fun K x qual st f fd)
  (h : ∀ (kV doc pm : Value) (an : Option Addr) (cdv ct : Value) (us : List Value), us.length = ps.length → bindArgs (PySem.W.fnOf x qual (defArgs st) (defBody st) (defScope st) .none kV doc pm an cdv ct) ⟨us, []⟩ = pure (ps.zip us)) : Binds K fd ps [] := by
 obtain ⟨oc, od, kV, doc, pm, an, cdv, ct, osl, rfl, lk, hcd⟩ := F.ex
 exact .all (h kV doc pm an cdv ct)
theorem aqD {x qual : Str} {st : Stmt} {f : Addr} {oc : Value} {od an : Option Addr} {osl : Array (Option Value)} {kV doc pm cdv ct : Value} (l : K.lookup f = some ⟨oc, od, .func (PySem.W.fnOf x qual (defArgs st) (defBody st) (defScope st) .none kV doc pm an cdv ct), osl⟩)
  (c : PySem.W.codeIn K cdv qual = true) (k : PySem.W.keepIn K (.ref f) = true) : Fun K x qual st f (PySem.W.fnOf x qual (defArgs st) (defBody st) (defScope st) .none kV doc pm an cdv ct) := ⟨⟨oc, od, kV, doc, pm, an, cdv, ct, osl, rfl, l, c⟩, k⟩
end
section
variable {X : Cx}
theorem pv (i : Nat) {x : Str} {pos : Pos} (hN : X.N[i]? = some x := by rfl) (hv : Vis X.env.scope x := by first | exact Or.inl rfl | exact Or.inr (Or.inl rfl) | exact Or.inr (Or.inr rfl)) (hd : (x == ("__debug__" : Str)) = false := by decide)
  (hcd : (x == ("__classdict__" : Str)) = false := by decide) : PE X (.Name x pos) (tVar i) := pqV hN hv hd hcd
end
theorem ite2 {c A B : Prop} [Decidable c] (h1 : c → A) (h2 : ¬ c → B) : if c then A else B := by
 by_cases h : c
 ·rw [if_pos h]
  exact h1 h
 ·rw [if_neg h]
  exact h2 h
def Same (H H' : Hp) : Prop := ∀ b o, H b = some o → H' b = some o
theorem Same.refl (H : Hp) : Same H H := fun _ _ h => h
theorem Same.trans {H H1 H2 : Hp} (a : Same H H1) (b : Same H1 H2) : Same H H2 := fun c o h => b c o (a c o h)
theorem Same.seq {K : PySem.W.Frag} {H H' : Hp} {a : Addr} {xs : List V} (e : Same H H') (h : SqL K H a xs) : SqL K H' a xs := by
 rcases h with (h | ⟨o, h⟩) | h
 ·exact .inl (.inl (e _ _ h))
 ·exact .inl (.inr ⟨o, e _ _ h⟩)
 ·exact .inr h
end L2
set_option maxHeartbeats 4000000
namespace L2
open PySem PySem.Spec PyProof.Rows
def Its (z : Str) : It := ⟨fun i _ => i < z.length, fun i H x H' => H' = H ∧ ∃ c, z.cps.toList[i]? = some c ∧ x = .str ⟨#[c]⟩, fun i _ => z.length ≤ i⟩
theorem lqj {z : Str} {i : Nat} (h : i < z.length) : ∃ c, z.cps[i]? = some c ∧ z.cps.toList[i]? = some c := by
 have h' : i < z.cps.size := h
 exact ⟨z.cps[i], by simp [h'], by simp [h']⟩
theorem jqL {z : Str} {i : Nat} (h : z.length ≤ i) : z.cps[i]? = none := by
 have h' : z.cps.size ≤ i := h
 simp [h']
theorem kq2 {P : Program} {w : World} {K : PySem.W.Frag} {tg : Expr} (it : Addr) (z : Str) (t : Tok) : Turn P w K tg (Its z) [it] it (fun i h => h.IsStrIter it "str_ascii_iterator" z t i) where
 mem := by simp
 obj := fun i h st b hb => by
  have e : b = it := by simpa using hb
  subst e
  obtain ⟨o, e, c, d⟩ := st
  exact ⟨o, e, fun v z => by rw [d] at z; cases z⟩
 keep := fun i h h' st k => by
  obtain ⟨o, e, r⟩ := st
  exact ⟨o, k it (by simp) o e, r⟩
 item := by
  intro X hP hw hK hc i pins s σ H E I hf st hg
  subst hP hw hK
  obtain ⟨c, h1, h2⟩ := lqj (z := z) (i := i) hg
  obtain ⟨f0, f1, f2, f3, f4, f5⟩ := hf it (by simp)
  refine wpAny_pyNext_ascii_item st h1 fun h' st' sb => ?_
  have I1 : Inv X pins σ H { s with heap := h', toks := s.toks + 1 } := I.turned (t' := s.toks + 1) (fun b o hb e => (sb.2 b hb).trans e) f0 f1 f3 f4 f5
  obtain ⟨o, e, cl, d⟩ := id st'
  exact ⟨_, rfl, kqv (s := { s with heap := h', toks := s.toks + 1 }) e cl d (by decide) ⟨.str ⟨#[c]⟩, H, I1, ⟨_, rfl⟩, ⟨rfl, c, h2, rfl⟩, st', fun b hb => (hf b hb).1⟩⟩
 done := by
  intro X hP hw hK hc i pins s σ H E I hf st hg
  subst hP hw hK
  obtain ⟨f0, f1, f2, f3, f4, f5⟩ := hf it (by simp)
  exact wpAny_pyNext_ascii_end (I.ok.hd hc) st (jqL hg) fun h' eb => ⟨rfl, I.turned (t' := s.toks) (fun b o hb e => eb b o hb e) f0 f1 f3 f4 f5⟩
 self := fun _ _ _ _ _ st h => wpAny_pyIter_striter_ascii st h
theorem kq7 {P : Program} {w : World} {K : PySem.W.Frag} {tg : Expr} (it : Addr) (z : Str) (t : Tok) : Turn P w K tg (Its z) [it] it (fun i h => h.IsStrIter it "str_iterator" z t i) where
 mem := by simp
 obj := fun i h st b hb => by
  have e : b = it := by simpa using hb
  subst e
  obtain ⟨o, e, c, d⟩ := st
  exact ⟨o, e, fun v z => by rw [d] at z; cases z⟩
 keep := fun i h h' st k => by
  obtain ⟨o, e, r⟩ := st
  exact ⟨o, k it (by simp) o e, r⟩
 item := by
  intro X hP hw hK hc i pins s σ H E I hf st hg
  subst hP hw hK
  obtain ⟨c, h1, h2⟩ := lqj (z := z) (i := i) hg
  obtain ⟨f0, f1, f2, f3, f4, f5⟩ := hf it (by simp)
  refine wpAny_pyNext_wide_item st h1 fun h' st' sb => ?_
  have I1 : Inv X pins σ H { s with heap := h', toks := s.toks + 1 } := I.turned (t' := s.toks + 1) (fun b o hb e => (sb.2 b hb).trans e) f0 f1 f3 f4 f5
  obtain ⟨o, e, cl, d⟩ := id st'
  exact ⟨_, rfl, kqv (s := { s with heap := h', toks := s.toks + 1 }) e cl d (by decide) ⟨.str ⟨#[c]⟩, H, I1, ⟨_, rfl⟩, ⟨rfl, c, h2, rfl⟩, st', fun b hb => (hf b hb).1⟩⟩
 done := by
  intro X hP hw hK hc i pins s σ H E I hf st hg
  subst hP hw hK
  obtain ⟨f0, f1, f2, f3, f4, f5⟩ := hf it (by simp)
  exact wpAny_pyNext_wide_end (I.ok.hd hc) st (jqL hg) fun h' eb => ⟨rfl, I.turned (t' := s.toks) (fun b o hb e => eb b o hb e) f0 f1 f3 f4 f5⟩
 self := fun _ _ _ _ _ st h => wpAny_pyIter_striter_wide st h
section
variable {X : Cx} {tg : Expr}
def iStr (tl : TE) : TI := fun σ H R => tl σ H fun x H1 => ∃ z, x = .str z ∧ R (Its z) H1
theorem pqL {l : Expr} {tl : TE} (hl : PE X l tl) : PI X tg l (iStr tl) := by
 intro pins s σ H R I h
 refine thn (hl pins s σ H _ I h) fun v s1 W' => ?_
 obtain ⟨x, H1, I1, r1, q1⟩ := W'
 obtain ⟨z, rfl, q⟩ := q1
 obtain ⟨t, rfl⟩ := r1
 have fp : ∀ b ∈ [s1.heap.objs.size], FpOk X pins H1 b := fun b hb => by
  have e : b = s1.heap.objs.size := by simpa using hb
  subst e
  exact I1.fpOk (Nat.le_refl _) (I1.hok.fresh (Nat.le_refl _))
 cases ha : z.cps.all (· < 128)
 ·refine wpAny_pyIter_wide ha ?_
  exact ⟨s1.heap.objs.size, [s1.heap.objs.size], _, _, H1, rfl, I1.kept (t' := s1.toks) fun b o e => Heap.get?_push_of_some _ e, kq7 _ z t, ⟨_, Heap.get?_push_size _ rfl, rfl, rfl⟩, fp, q⟩
 ·refine wpAny_pyIter_ascii ha ?_
  exact ⟨s1.heap.objs.size, [s1.heap.objs.size], _, _, H1, rfl, I1.kept (t' := s1.toks) fun b o e => Heap.get?_push_of_some _ e, kq2 _ z t, ⟨_, Heap.get?_push_size _ rfl, rfl, rfl⟩, fp, q⟩
end
section
variable {X : Cx}
def rSlS : V → Option Int → Option Int → Hp → VK → Prop := fun x lo hi H Q => ∃ z, x = .str z ∧ z.length ≤ sizeLine ∧ Q (.str (Txt.slice z lo hi)) H
def rSl (K : PySem.W.Frag) : V → Option Int → Option Int → Hp → VK → Prop := fun x lo hi H Q => rSlL K x lo hi H Q ∨ rSlS x lo hi H Q
def rIndex : V → List V → Hp → VK → Prop := fun x vs H Q => match x, vs with
 | .str z, [.str y] => ∃ i r, Builtin.Str.occurrences z y 0 z.length 1 = i :: r ∧ Q (.int (i : Nat)) H
 | _, _ => False
theorem nqg {z y : Str} {H : Hp} {Q : VK} : (rIndex (.str z) [.str y] H Q) = (∃ i r, Builtin.Str.occurrences z y 0 z.length 1 = i :: r ∧ Q (.int (i : Nat)) H) := rfl
theorem notTooLong {n : Nat} (h : n ≤ 1000000) : Builtin.Str.tooLong n = false := by
 unfold Builtin.Str.tooLong
 rw [sizeLine_eq]
 exact decide_eq_false (by lia)
def rUpper : V → List V → Hp → VK → Prop := fun x vs H Q => match x, vs with
 | .str z, [] => (∀ c ∈ z.cps.toList, c < 128) ∧ z.length ≤ 1000000 ∧ Q (.str ⟨z.cps.map up1⟩) H
 | _, _ => False
theorem pq4 {z : Str} {H : Hp} {Q : VK} : (rUpper (.str z) [] H Q) = ((∀ c ∈ z.cps.toList, c < 128) ∧ z.length ≤ 1000000 ∧ Q (.str ⟨z.cps.map up1⟩) H) := rfl
def rLower : V → List V → Hp → VK → Prop := fun x vs H Q => match x, vs with
 | .str z, [] => (∀ c ∈ z.cps.toList, c < 128) ∧ z.length ≤ 1000000 ∧ Q (.str ⟨z.cps.map lo1⟩) H
 | _, _ => False
theorem qqd {z : Str} {H : Hp} {Q : VK} : (rLower (.str z) [] H Q) = ((∀ c ∈ z.cps.toList, c < 128) ∧ z.length ≤ 1000000 ∧ Q (.str ⟨z.cps.map lo1⟩) H) := rfl
def rAlnum : V → List V → Hp → VK → Prop := fun x vs H Q => match x, vs with
 | .str z, [] => Q (.bl (Txt.isalnum z)) H
 | _, _ => False
theorem pqU {z : Str} {H : Hp} {Q : VK} : (rAlnum (.str z) [] H Q) = (Q (.bl (Txt.isalnum z)) H) := rfl
def rJoin (K : PySem.W.Frag) : V → List V → Hp → VK → Prop := fun x vs H Q => ∃ z p ys, x = .str z ∧ vs = [.ref p] ∧ SqL K H p (ys.map V.str) ∧ (ys.map (·.length)).sum + ys.length * z.length ≤ 16777216 ∧ Q (.str (Txt.join z ys)) H
def rIsi (K : PySem.W.Frag) : List V → Hp → VK → Prop := fun vs H Q => ∃ x T t b, vs = [x, .ty T] ∧ TyOf K H x t ∧ PySem.W.kitOne K t (.type T) = some b ∧ Q (.bl b) H
theorem mqG : CallR X (.builtin "isinstance") (rIsi X.K) := by
 intro pins s σ H xs us Q I r h
 obtain ⟨x, T, t, b, rfl, ty, e, q⟩ := h
 obtain ⟨u, v, rfl, ru, rv⟩ := vals2 r
 cases (show v = Value.type T from rv)
 exact kq8 I ru ty e fun tk => ⟨.bl b, H, I.tok tk, rfl, q⟩
def rCatD : R2 := fun x y H Q => ∃ a b xs ys, x = .ref a ∧ y = .ref b ∧ H a = some (.tup xs) ∧ H b = some (.tup ys) ∧ xs.length + ys.length ≤ sizeLine ∧ ∀ p H', Same H H' → H' p = some (.tup (xs ++ ys)) → Q (.ref p) H'
theorem oqS : OpR X (binaryOp .Add) rCatD := by
 intro pins s σ H x y v u Q I rx ry h
 obtain ⟨a, b, xs, ys, rfl, rfl, ha, hb, hz, q⟩ := h
 by_cases hx : xs = []
 ·subst hx
  cases rx
  cases ry
  obtain ⟨its, r1, p1, _⟩ := I.tuple (SqT.of ha)
  obtain ⟨its2, r2, p2, _⟩ := I.tuple (SqT.of hb)
  cases r1
  obtain ⟨⟨cls, dd, data, sl⟩, ho, hc, n, hd⟩ := id p1
  obtain ⟨⟨cls2, dd2, data2, sl2⟩, ho2, hc2, n2, hd2⟩ := id p2
  simp only at hc hd hc2 hd2
  subst hc hd hc2 hd2
  exact concat_meets ⟨_, ho, rfl⟩ ⟨_, ho2, rfl⟩ noFill_tuple_add seq_tuple_add PySem.F.slot_tuple_add PySem.F.entry_tuple_add (PySem.F.args_tuple_add_2 _ _)
   (tuple_addW0 a b ([] : List Value).toArray its2.toArray n n2 dd dd2 sl sl2 rfl) ⟨ho, ho2, ⟨.ref b, H, I, rfl, q b H (Same.refl _) hb⟩⟩
 ·refine oqP pins s σ H _ _ v u Q I rx ry ⟨a, b, xs, ys, rfl, rfl, SqT.of ha, SqT.of hb, hx, hz, fun e => q a H (Same.refl _) (by rw [e, List.append_nil]; exact ha), fun _ p hp => q p _ (fun b o e => by rw [aqj (aqh e hp)]; exact e) aqk⟩
def rAddU (K : PySem.W.Frag) : R2 := fun x y H Q => match x, y with
 | .int i, .int j => Q (.int (i + j)) H
 | .str i, .str j => i.length + j.length ≤ sizeLine ∧ Q (.str (i ++ j)) H
 | .ref a, .ref b => (∃ xs zs, H a = some (.lst xs) ∧ H b = some (.lst zs) ∧ xs.length + zs.length ≤ sizeLine ∧ ∀ p, H p = none → Q (.ref p) (upd H p (.lst (xs ++ zs)))) ∨
   (∃ xs ys, H a = some (.tup xs) ∧ H b = some (.tup ys) ∧ xs.length + ys.length ≤ sizeLine ∧ ∀ p H', Same H H' → H' p = some (.tup (xs ++ ys)) → Q (.ref p) H')
 | _, _ => False
theorem lqv : OpR X (binaryOp .Add) (rAddU X.K) := by
 intro pins s σ H x y v u Q I rx ry h
 cases x with
 | int i =>
  cases y with
  | int j => exact qqE pins s σ H _ _ v u Q I rx ry ⟨i, j, rfl, rfl, h⟩
  | _ => exact h.elim
 | str i =>
  cases y with
  | str j => exact kqj pins s σ H _ _ v u Q I rx ry ⟨i, j, rfl, rfl, h.1, h.2⟩
  | _ => exact h.elim
 | ref a =>
  cases y with
  | ref b =>
   rcases h with ⟨xs, zs, h1, h2, h3, h4⟩ | ⟨xs, ys, h1, h2, h3, h4⟩
   ·exact pqF pins s σ H _ _ v u Q I rx ry ⟨a, b, xs, zs, rfl, rfl, h1, h2, h3, h4⟩
   ·exact oqS pins s σ H _ _ v u Q I rx ry ⟨a, b, xs, ys, rfl, rfl, h1, h2, h3, h4⟩
  | _ => exact h.elim
 | _ => exact h.elim
theorem qqJ {K : PySem.W.Frag} {i j : Int} {H : Hp} {Q : VK} : (rAddU K (.int i) (.int j) H Q) = (Q (.int (i + j)) H) := rfl
theorem pqQ {K : PySem.W.Frag} {i j : Str} {H : Hp} {Q : VK} : (rAddU K (.str i) (.str j) H Q) = (i.length + j.length ≤ sizeLine ∧ Q (.str (i ++ j)) H) := rfl
end
section
variable {X : Cx}
def rMulU : R2 := fun x y H Q => match x, y with
 | .int i, .int j => CMul i j ∧ Q (.int (i * j)) H
 | .str z, .int k => MulOk z k ∧ Q (.str (Txt.mul z k)) H
 | _, _ => False
theorem cq7 : OpR X (binaryOp .Mult) rMulU := by
 intro pins s σ H x y v u Q I rx ry h
 cases x with
 | int i =>
  cases y with
  | int j => exact pqt pins s σ H _ _ v u Q I rx ry ⟨i, j, rfl, rfl, h.1, h.2⟩
  | _ => exact h.elim
 | str z =>
  cases y with
  | int k =>
   obtain ⟨t, rfl⟩ := rx
   obtain ⟨t', rfl⟩ := ry
   exact SB.mul h.1 fun t' k' => ⟨.str (Txt.mul z k), H, I.tok k', ⟨t', rfl⟩, h.2⟩
  | _ => exact h.elim
 | _ => exact h.elim
theorem qqa {i j : Int} {H : Hp} {Q : VK} : (rMulU (.int i) (.int j) H Q) = (CMul i j ∧ Q (.int (i * j)) H) := rfl
theorem qqc {z : Str} {k : Int} {H : Hp} {Q : VK} : (rMulU (.str z) (.int k) H Q) = (MulOk z k ∧ Q (.str (Txt.mul z k)) H) := rfl
def rLenU (K : PySem.W.Frag) : List V → Hp → VK → Prop := fun xs H Q => match xs with
 | [.str z] => z.length ≤ sizeLine ∧ Q (.int z.length) H
 | [.ref p] => ∃ ys, (SqL K H p ys ∨ SqT K H p ys) ∧ Q (.int ys.length) H
 | _ => False
theorem kqZ : CallR X (.builtin "len") (rLenU X.K) := by
 intro pins s σ H xs us Q I r h
 unfold rLenU at h
 split at h
 ·exact iqF pins s σ H _ us Q I r ⟨_, rfl, h.1, h.2⟩
 ·obtain ⟨ys, h1, h2⟩ := h
  exact iqq pins s σ H _ us Q I r ⟨_, ys, rfl, h1, h2⟩
 ·exact h.elim
theorem pqE {K : PySem.W.Frag} {z : Str} {H : Hp} {Q : VK} : (rLenU K [.str z] H Q) = (z.length ≤ sizeLine ∧ Q (.int z.length) H) := rfl
theorem jqN {K : PySem.W.Frag} {p : Addr} {H : Hp} {Q : VK} : (rLenU K [.ref p] H Q) = (∃ ys, (SqL K H p ys ∨ SqT K H p ys) ∧ Q (.int ys.length) H) := rfl
def rOrdU : List V → Hp → VK → Prop := fun xs H Q => match xs with
 | [.str z] => z.length = 1 ∧ Q (.int (z.cps.getD 0 0 : Nat)) H
 | _ => False
theorem pqs {c : Nat} {H : Hp} {Q : VK} : rOrdU [.str ⟨#[c]⟩] H Q ↔ Q (.int (c : Nat)) H := ⟨fun h => h.2, fun h => ⟨rfl, h⟩⟩
theorem pq1 : bootBuiltins "int" = some (.type "int") := by decide +kernel
theorem jqW : bootBuiltins "str" = some (.type "str") := by decide +kernel
theorem oqI : bootBuiltins "bool" = some (.type "bool") := by decide +kernel
theorem jqY : bootBuiltins "tuple" = some (.type "tuple") := by decide +kernel
theorem jqf : bootBuiltins "list" = some (.type "list") := by decide +kernel
theorem aqq : bootBuiltins "isinstance" = some (.builtin "isinstance") := by decide +kernel
def rIntU : List V → Hp → VK → Prop := fun xs H Q => match xs with
 | [.int i] => Q (.int i) H
 | [.bl k] => Q (.int (if k then 1 else 0)) H
 | _ => False
theorem qqW {k : Bool} {H : Hp} {Q : VK} : (rIntU [.bl k] H Q) = (Q (.int (if k then 1 else 0)) H) := rfl
def rInU : R2 := fun x y H Q => match x, y with
 | .str i, .str j => Q (.bl (!(Builtin.Str.occurrences j i 0 j.length 1).isEmpty)) H
 | _, _ => False
theorem qqk : OpR X (compareOp .In) rInU := by
 intro pins s σ H x y v u Q I rx ry h
 cases x with
 | str i =>
  cases y with
  | str j => exact kq5 pins s σ H _ _ v u Q I rx ry ⟨i, j, rfl, rfl, h⟩
  | _ => exact h.elim
 | _ => exact h.elim
def rNotInU : R2 := fun x y H Q => match x, y with
 | .str i, .str j => Q (.bl (!(!(Builtin.Str.occurrences j i 0 j.length 1).isEmpty))) H
 | _, _ => False
theorem pqX {c : Nat} {j : Str} {H : Hp} {Q : VK} : rInU (.str ⟨#[c]⟩) (.str j) H Q ↔ Q (.bl (decide (c ∈ j.cps.toList))) H := by
 show Q (.bl (!(Builtin.Str.occurrences j ⟨#[c]⟩ 0 j.length 1).isEmpty)) H ↔ _
 rw [StrLaws.found_one]
theorem lqO {c : Nat} {j : Str} {H : Hp} {Q : VK} : rNotInU (.str ⟨#[c]⟩) (.str j) H Q ↔ Q (.bl (!decide (c ∈ j.cps.toList))) H := by
 show Q (.bl (!(!(Builtin.Str.occurrences j ⟨#[c]⟩ 0 j.length 1).isEmpty))) H ↔ _
 rw [StrLaws.found_one]
def rIsN (neg : Bool) : R2 := fun x y H Q => y = .non ∧ Q (.bl (if neg then !decide (x = .non) else decide (x = .non))) H
theorem pqk : OpR X (compareOp .Is) (rIsN false) := fun pins s σ H x y v u Q I rx ry h => pqH pins s σ H x y v u Q I rx ry h
theorem mqg : OpR X (compareOp .IsNot) (rIsN true) := fun pins s σ H x y v u Q I rx ry h => oqa pins s σ H x y v u Q I rx ry h
theorem qqL {x : V} {H : Hp} {Q : VK} : rIsN false x .non H Q ↔ Q (.bl (decide (x = .non))) H := ⟨fun h => h.2, fun h => ⟨rfl, h⟩⟩
theorem qqK {x : V} {H : Hp} {Q : VK} : rIsN true x .non H Q ↔ Q (.bl (!decide (x = .non))) H := ⟨fun h => h.2, fun h => ⟨rfl, h⟩⟩
def kindV (x : V) (H : Hp) : Option String := match x with
 | .non => some "NoneType"
 | .bl _ => some "bool"
 | .int _ => some "int"
 | .str _ => some "str"
 | .ref a => match H a with
  | some (.lst _) => some "list"
  | some (.tup _) => some "tuple"
  | some (.dK _) => some "dict"
  | _ => none
 | _ => none
def subT (a b : String) : Bool := a == b || (a == "bool" && b == "int")
theorem nq2 (K : PySem.W.Frag) : ∀ a ∈ ["NoneType", "bool", "int", "str", "list", "tuple", "dict"], ∀ b ∈ ["bool", "int", "str", "list", "tuple"], PySem.W.kitOne K (.type a) (.type b) = some (subT a b) := by
 intro a ha b hb
 simp only [List.mem_cons, List.not_mem_nil, or_false] at ha hb
 rcases ha with rfl | rfl | rfl | rfl | rfl | rfl | rfl <;> rcases hb with rfl | rfl | rfl | rfl | rfl <;> with_unfolding_all kernel_rfl
def rIsiU : List V → Hp → VK → Prop := fun vs H Q => match vs with
 | [x, .ty T] => ∃ k, kindV x H = some k ∧ T ∈ ["bool", "int", "str", "list", "tuple"] ∧ Q (.bl (subT k T)) H
 | _ => False
theorem cqK : CallR X (.builtin "isinstance") rIsiU := by
 intro pins s σ H xs us Q I r h
 unfold rIsiU at h
 split at h
 ·rename_i x T
  obtain ⟨k, hk, hT, q⟩ := h
  have key : TyOf X.K H x (.type k) ∧ k ∈ ["NoneType", "bool", "int", "str", "list", "tuple", "dict"] := by
   unfold kindV at hk
   split at hk
   ·cases hk; exact ⟨.non, by decide⟩
   ·cases hk; exact ⟨.bl _, by decide⟩
   ·cases hk; exact ⟨.int _, by decide⟩
   ·cases hk; exact ⟨.str _, by decide⟩
   ·split at hk
    ·rename_i e; cases hk; exact ⟨.lst e, by decide⟩
    ·rename_i e; cases hk; exact ⟨.tup e, by decide⟩
    ·rename_i e; cases hk; exact ⟨.dK e, by decide⟩
    ·cases hk
   ·cases hk
  exact mqG pins s σ H _ us Q I r ⟨x, T, .type k, subT k T, rfl, key.1, nq2 X.K k key.2 T hT, q⟩
 ·exact h.elim
end
section
variable {σ : St} {H : Hp} {Q : VK} {D : Ends} {K : PySem.W.Frag} {ta tb te : TE} {tt tu : TT} {t u : TS} {aa ab : TA} {v x y : V} {r r' : R2}
theorem pq5 {i : Nat} : (tVar i σ H Q) = (∃ v, σ[i]? = some (some v) ∧ Q v H) := rfl
theorem rd_C : (tC v σ H Q) = (Q v H) := rfl
theorem pq6 : (tSeq t u D σ H) = (t { D with nx := u D } σ H) := rfl
theorem qqD {g : TG} : (tAsg te g D σ H) = (te σ H fun x H1 => g x σ H1 D.nx) := rfl
theorem oq3 {i : Nat} {R : St → Hp → Prop} : (gName i v σ H R) = (R (σ.set i (some v)) H) := rfl
theorem pqm : (tIfS tt t u D σ H) = (tt σ H fun b H1 => if b = true then t D σ H1 else u D σ H1) := rfl
theorem oqR : (tNext D σ H) = (D.nx σ H) := rfl
theorem pq2 : (tBreak D σ H) = (D.bk σ H) := rfl
theorem qqA : (tRet te D σ H) = (te σ H D.rt) := rfl
theorem nqV : (tDrop te D σ H) = (te σ H fun _ H1 => D.nx σ H1) := rfl
theorem qqS : (tOp r ta tb σ H Q) = (ta σ H fun x H1 => tb σ H1 fun y H2 => r x y H2 Q) := rfl
theorem pqj {R : Bool → Hp → Prop} : (tTest te σ H R) = (te σ H fun x H' => ∃ k, x = .bl k ∧ R k H') := rfl
theorem rd_B {R : Bool → Hp → Prop} : (tB te σ H R) = (te σ H fun x H' => ∃ k, x = .bl k ∧ R k H') := rfl
theorem pqo {R : Bool → Hp → Prop} : (tAnd tt tu σ H R) = (tt σ H fun c H1 => if c = true then tu σ H1 R else R false H1) := rfl
theorem qqM {R : Bool → Hp → Prop} : (tOr tt tu σ H R) = (tt σ H fun c H1 => if c = true then R true H1 else tu σ H1 R) := rfl
theorem qqp {R : Bool → Hp → Prop} : (tNot tt σ H R) = (tt σ H fun c H1 => R (!c) H1) := rfl
theorem pqg : (tAndV ta tb σ H Q) = (ta σ H fun x H1 => ∃ c, x = .bl c ∧ if c = true then tb σ H1 Q else Q (.bl false) H1) := rfl
theorem qqo : (tOrV ta tb σ H Q) = (ta σ H fun x H1 => ∃ c, x = .bl c ∧ if c = true then Q (.bl true) H1 else tb σ H1 Q) := rfl
theorem oqx : (tNotV ta σ H Q) = (ta σ H fun x H1 => ∃ c, x = .bl c ∧ Q (.bl (!c)) H1) := rfl
theorem qqO : (tIf tt ta tb σ H Q) = (tt σ H fun c H1 => if c = true then ta σ H1 Q else tb σ H1 Q) := rfl
theorem mql {tc : TE} : (tChain r r' ta tb tc σ H Q) = (ta σ H fun x H1 => tb σ H1 fun y H2 => r x y H2 fun z H3 => ∃ k, z = .bl k ∧ (if k = true then tc σ H3 fun w' H4 => r' y w' H4 Q else Q (.bl false) H3)) := rfl
theorem pqS {R : List V → Hp → Prop} : (tNil σ H R) = (R [] H) := rfl
theorem oq2 {R : List V → Hp → Prop} : (tCons te aa σ H R) = (te σ H fun x H1 => aa σ H1 fun xs H2 => R (x :: xs) H2) := rfl
theorem qqx : (tLst aa σ H Q) = (aa σ H fun xs H1 => xs.length ≤ sizeLine ∧ ∀ p, H1 p = none → Q (.ref p) (upd H1 p (.lst xs))) := rfl
theorem pqZ : (tTup aa σ H Q) = (aa σ H fun xs H1 => xs.length ≤ sizeLine ∧ ∀ p, H1 p = none → Q (.ref p) (upd H1 p (.tup xs))) := rfl
theorem oqB {sp : Sp} {dvs : List V} {E : XK} : (tCall sp dvs E aa σ H Q) = (aa σ H fun vs H1 => sp (vs ++ dvs) H1 Q E) := rfl
theorem qq0 {c : List V → Hp → VK → Prop} : (tCB c aa σ H Q) = (aa σ H fun vs H1 => c vs H1 Q) := rfl
theorem qqY {T : String} {m : V → List V → Hp → VK → Prop} : (tBM K T m te aa σ H Q) = (te σ H fun x H1 => tyV K T x H1 ∧ aa σ H1 fun xs H2 => m x xs H2 Q) := rfl
theorem qqI {T : String} {m : V → List V → Hp → VK → Prop} : (tBM0 K T m te σ H Q) = (te σ H fun x H1 => tyV K T x H1 ∧ m x [] H1 Q) := rfl
theorem qqV {m : V → Option Int → Option Int → Hp → VK → Prop} {tl th : TO} : (tSl m te tl th σ H Q) = (te σ H fun x H1 => tl σ H1 fun l H2 => th σ H2 fun u H3 => m x l u H3 Q) := rfl
theorem lqe {R : Option Int → Hp → Prop} : (tNoPart σ H R) = (R none H) := rfl
theorem nqS {R : Option Int → Hp → Prop} : (tPart te σ H R) = (te σ H fun x H1 => ∃ i, x = .int i ∧ R (some i) H1) := rfl
theorem mqJ {z : Str} : tyV K "str" (.str z) H ↔ True := ⟨fun _ => trivial, fun _ => rfl⟩
theorem rd_I {C : Int → Int → Prop} {g : Int → Int → V} {i j : Int} : rI C g (.int i) (.int j) H Q ↔ C i j ∧ Q (g i j) H :=
 ⟨fun ⟨_, _, h1, h2, h3⟩ => by cases h1; cases h2; exact h3, fun h => ⟨i, j, rfl, rfl, h⟩⟩
theorem mqW {g : Int → Int → V} {i j : Int} : rI0 g (.int i) (.int j) H Q ↔ Q (g i j) H :=
 ⟨fun ⟨_, _, h1, h2, h3⟩ => by cases h1; cases h2; exact h3, fun h => ⟨i, j, rfl, rfl, h⟩⟩
theorem oqX {i j : Int} : rEq (.int i) (.int j) H Q ↔ Q (.bl (decide (i = j))) H := by
 unfold rEq scal; simp only [true_and, V.int.injEq]
theorem aqI {i j : Str} : rEq (.str i) (.str j) H Q ↔ Q (.bl (decide (i = j))) H := by
 unfold rEq scal; simp only [true_and, V.str.injEq]
theorem nqT {i j : Bool} : rEq (.bl i) (.bl j) H Q ↔ Q (.bl (decide (i = j))) H := by
 unfold rEq scal; simp only [true_and, V.bl.injEq]
theorem lqn {i j : Int} : rNe (.int i) (.int j) H Q ↔ Q (.bl (!decide (i = j))) H := by
 unfold rNe scal; simp only [true_and, V.int.injEq]
theorem hqD {i j : Str} : rNe (.str i) (.str j) H Q ↔ Q (.bl (!decide (i = j))) H := by
 unfold rNe scal; simp only [true_and, V.str.injEq]
theorem nqH {i j : Bool} : rNe (.bl i) (.bl j) H Q ↔ Q (.bl (!decide (i = j))) H := by
 unfold rNe scal; simp only [true_and, V.bl.injEq]
theorem nqN : rNe .non .non H Q ↔ Q (.bl false) H := ⟨fun h => h.2, fun h => ⟨rfl, h⟩⟩
theorem pql {i : Str} : rNe (.str i) .non H Q ↔ Q (.bl true) H := ⟨fun h => h.2, fun h => ⟨rfl, h⟩⟩
theorem mqu {i : Str} : rNe .non (.str i) H Q ↔ Q (.bl true) H := ⟨fun h => h.2, fun h => ⟨rfl, h⟩⟩
theorem oqM : rEq .non .non H Q ↔ Q (.bl true) H := ⟨fun h => h.2, fun h => ⟨rfl, h⟩⟩
theorem oq1 {i : Str} : rEq (.str i) .non H Q ↔ Q (.bl false) H := ⟨fun h => h.2, fun h => ⟨rfl, h⟩⟩
theorem mqi {i : Str} : rEq .non (.str i) H Q ↔ Q (.bl false) H := ⟨fun h => h.2, fun h => ⟨rfl, h⟩⟩
theorem pqn {z : Str} {i : Int} : rIx K (.str z) (.int i) H Q ↔ ∃ c, z.length ≤ sizeLine ∧ atI z.cps.toList i = some c ∧ Q (.str ⟨#[c]⟩) H := by
 constructor
 ·rintro (⟨p, xs, j, v, h, _⟩ | ⟨p, xs, j, v, h, _⟩ | ⟨z', j, c, h1, h2, h3, h4, h5⟩)
  ·cases h
  ·cases h
  ·cases h1; cases h2; exact ⟨c, h3, h4, h5⟩
 ·rintro ⟨c, h3, h4, h5⟩
  exact .inr (.inr ⟨z, i, c, rfl, rfl, h3, h4, h5⟩)
theorem pqW {z : Str} {lo hi : Option Int} : rSl K (.str z) lo hi H Q ↔ z.length ≤ sizeLine ∧ Q (.str (Txt.slice z lo hi)) H := by
 constructor
 ·rintro (⟨a, xs, h, _⟩ | ⟨z', h1, h2, h3⟩)
  ·cases h
  ·cases h1; exact ⟨h2, h3⟩
 ·rintro ⟨h2, h3⟩
  exact .inr ⟨z, rfl, h2, h3⟩
end
section
variable {σ : St} {H : Hp} {Q : VK} {K : PySem.W.Frag}
theorem pq8 {a : Addr} {lo hi : Option Int} : rSl K (.ref a) lo hi H Q ↔ ∃ xs, SqL K H a xs ∧ ∀ p, H p = none → Q (.ref p) (upd H p (.lst (cutV xs lo hi))) := by
 constructor
 ·rintro (⟨a', xs, h, h2⟩ | ⟨z', h1, _⟩)
  ·cases h; exact ⟨xs, h2⟩
  ·cases h1
 ·rintro ⟨xs, h2⟩
  exact .inl ⟨a, xs, rfl, h2⟩
theorem gq9 {p : Addr} {i : Int} : rIx K (.ref p) (.int i) H Q ↔ ∃ xs v, (SqL K H p xs ∨ SqT K H p xs) ∧ atI xs i = some v ∧ Q v H := by
 constructor
 ·rintro (⟨p', xs, j, v, h, h2, h3, h4⟩ | ⟨p', xs, j, v, h, h2, h3, h4⟩ | ⟨z', j, c, h1, _⟩)
  ·cases h; cases h2; exact ⟨xs, v, .inl h3, h4⟩
  ·cases h; cases h2; exact ⟨xs, v, .inr h3, h4⟩
  ·cases h1
 ·rintro ⟨xs, v, h | h, h2⟩
  ·exact .inl ⟨p, xs, i, v, rfl, rfl, h, h2⟩
  ·exact .inr (.inl ⟨p, xs, i, v, rfl, rfl, h, h2⟩)
theorem pqu {a b : Addr} : rAddU K (.ref a) (.ref b) H Q ↔ (∃ xs zs, H a = some (.lst xs) ∧ H b = some (.lst zs) ∧ xs.length + zs.length ≤ sizeLine ∧ ∀ p, H p = none → Q (.ref p) (upd H p (.lst (xs ++ zs)))) ∨
   (∃ xs ys, H a = some (.tup xs) ∧ H b = some (.tup ys) ∧ xs.length + ys.length ≤ sizeLine ∧ ∀ p H', Same H H' → H' p = some (.tup (xs ++ ys)) → Q (.ref p) H') := Iff.rfl
theorem cx_K {CX : CXT} {P : Program} {w : World} {mg : Str → Option Value} {base : Heap} {N : List Str} {qual : Str} {scope : Scope} {f : Addr} {cd : Value} {A : Around} {outer : List Env} {s : Shared} {E : XK} :
  (cxOf CX P w K mg base N qual scope f cd A outer s H E).K = K := rfl
end
def LoopI (J : It) (g : TG) (tb : TS) (D : Ends) (σ : St) (H : Hp) : Prop := ∃ W : Nat → Nat → St → Hp → Prop, (∃ m, W 0 m σ H) ∧ ∀ i m σ H, W i m σ H →
 (J.stop i H ∧ D.nx σ H) ∨ (J.go i H ∧ ∃ N : St → Hp → Prop, (∀ σ' H', N σ' H' → ∃ m', m' < m ∧ W (i + 1) m' σ' H') ∧ ∀ x H', J.yld i H x H' → g x σ H' fun σ2 H2 => tb { D with nx := N, ct := N, bk := D.nx } σ2 H2)
section
variable {σ : St} {H : Hp} {D : Ends} {K : PySem.W.Frag} {te : TE} {g : TG} {tb : TS} {aa : TA}
theorem oqV : (tFor (iStr te) g tb D σ H) = (te σ H fun x H1 => ∃ z, x = .str z ∧ LoopI (Its z) g tb D σ H1) := rfl
theorem nqQ : (tFor (iList K te) g tb D σ H) = (te σ H fun x H1 => ∃ a, x = .ref a ∧ (∃ xs, SqL K H1 a xs) ∧ LoopI (Itl K a) g tb D σ H1) := rfl
theorem oqe : (tFor (iRng1 aa) g tb D σ H) = (aa σ H fun vs H1 => ∃ j : Int, vs = [.int j] ∧ -(2 ^ 62) ≤ j ∧ j < 2 ^ 62 ∧ LoopI (Itr 0 j.toNat) g tb D σ H1) := rfl
theorem lq5 {a : Addr} {xs : List V} (Pv : Nat → St → Hp → Prop) (h0 : Pv 0 σ H) (hl : ∀ i σ H, i ≤ xs.length → Pv i σ H → SqL K H a xs)
  (hs : ∀ i x σ H, xs[i]? = some x → Pv i σ H → g x σ H fun σ2 H2 => tb { D with nx := Pv (i + 1), ct := Pv (i + 1), bk := D.nx } σ2 H2) (hd : ∀ σ H, Pv xs.length σ H → D.nx σ H) : LoopI (Itl K a) g tb D σ H := mqx Pv h0 hl hs hd
theorem cqJ {lo : Int} {n : Nat} (Pv : Nat → St → Hp → Prop) (h0 : Pv 0 σ H)
  (hs : ∀ i σ H, i < n → Pv i σ H → g (.int (lo + i)) σ H fun σ2 H2 => tb { D with nx := Pv (i + 1), ct := Pv (i + 1), bk := D.nx } σ2 H2) (hd : ∀ σ H, Pv n σ H → D.nx σ H) : LoopI (Itr lo n) g tb D σ H := lqD Pv h0 hs hd
end
section
variable {prog : Program} {w : World} {A : Around} {R : Result → Shared → Prop} {s : Shared}
theorem fqt {elt target iter : Expr} {ifs : List Expr} {scope : Scope} {pos : Pos} {it acc : Value} {env : Env} (I : Nat → Shared → Prop)
  (turn : ∀ n s, I n s → wpAny (model prog w) A (pyNext it) (fun r s₁ => match r with
   | none => R (.ok .next) s₁
   | some v => wpAny (model prog w) A (letOwnedTupleGo target it v) (fun _ s₁' => wpAny (model prog w) A (assign target env v) (fun _ s₂ =>
     wpAny (model prog w) A (forIn ifs true fun c r => if r = true then do let ok ← isTrue c env (eval c env); pure (ForInStep.yield ok) else pure (ForInStep.yield r)) (fun ok s₃ =>
      if ok = true then wpAny (model prog w) A (eval elt env) (fun x s₄ =>
       wpAny (model prog w) A (call (.builtin "list.append") [acc, x]) (fun _ s₅ => ∃ m, m < n ∧ I m s₅) (fun _ _ => False) s₄) (fun _ _ => False) s₃
      else ∃ m, m < n ∧ I m s₃) (fun _ _ => False) s₂) (fun _ _ => False) s₁') (fun _ _ => False) s₁) (fun _ _ => False) s)
  (n : Nat) (h : I n s) : codeAny (model prog w) A (.compLoop (.ListComp elt [⟨target, iter, ifs, 0⟩] scope pos) 0 it acc env) R s := by
 refine codeAny_loop rfl I (fun n s hI => ?_) n h
 show wpAny _ A ((compTurn (.ListComp elt [⟨target, iter, ifs, 0⟩] scope pos) 0 it acc env).onRaise (fun x => do noteFrame x env; theTreesLotGoes x)) _ _ s
 refine wpAny_noted ?_
 rw [compTurn_list]
 refine wpAny_bind (wpAny_standAt (wpAny_bind (wpAny_mono (turn n s hI) (fun r s₁ h₁ => ?_) fun _ _ h' => h'.elim)))
 cases r with
 | none => exact wpAny_pure h₁
 | some v =>
  refine wpAny_bind (wpAny_mono h₁ (fun _ s₁' h₁' => wpAny_bind (wpAny_mono h₁' (fun _ s₂ h₂ => wpAny_bind (wpAny_mono h₂ (fun ok s₃ h₃ => ?_) fun _ _ h' => h'.elim)) fun _ _ h' => h'.elim)) fun _ _ h' => h'.elim)
  cases ok with
  | false => exact wpAny_pure ⟨rfl, h₃⟩
  | true =>
   exact wpAny_bind (wpAny_bind (wpAny_mono h₃ (fun x s₄ h₄ => wpAny_bind (wpAny_mono h₄ (fun _ s₅ h₅ => wpAny_pure (wpAny_pure ⟨rfl, h₅⟩)) fun _ _ h' => h'.elim)) fun _ _ h' => h'.elim))
end
def compCx (X : Cx) (N' : List Str) (scope : Scope) (cl : List (Str × Addr)) (s : Shared) (H : Hp) (fp : List Addr) : Cx :=
 { X with N := N', s₀ := s, H₀ := H, env := compEnvC scope cl s.heap.objs.size X.env, outer := X.stack, stack := X.stack, ex := fp, fn := fun _ => false, pn := [], xe := fun _ _ => False }
inductive Frees (X : Cx) (rs : Scope) (cl : List (Str × Addr)) : List Str → List Nat → Prop where
 | nil : Frees X rs cl [] []
 | cons {y : Str} {i : Nat} {fx : List Str} {fr : List Nat} (h1 : X.N[i]? = some y) (h2 : X.env.kindOf y = some .cell) (h3 : rs.names.lookup y = some .cell) (h4 : cl.lookup y = X.env.cells.lookup y) (r : Frees X rs cl fx fr) : Frees X rs cl (y :: fx) (i :: fr)
def frV (σ : St) (fr : List Nat) : St := fr.map fun i => (σ[i]?).getD none
theorem Frees.len {X : Cx} {rs : Scope} {cl : List (Str × Addr)} {fx : List Str} {fr : List Nat} (F : Frees X rs cl fx fr) : fr.length = fx.length := by
 induction F with
 | nil => rfl
 | cons _ _ _ _ _ ih => simp [ih]
theorem Frees.at {X : Cx} {rs : Scope} {cl : List (Str × Addr)} {σ : St} : ∀ {fx : List Str} {fr : List Nat}, Frees X rs cl fx fr → ∀ (j : Nat) (y : Str) (v : V), fx[j]? = some y → (frV σ fr)[j]? = some (some v) →
  ∃ i : Nat, X.N[i]? = some y ∧ σ[i]? = some (some v) ∧ X.env.kindOf y = some .cell ∧ rs.names.lookup y = some .cell ∧ cl.lookup y = X.env.cells.lookup y
 | _, _, .nil, j, y, v, h, _ => by simp at h
 | _, _, .cons (y := z) (i := i) h1 h2 h3 h4 r, 0, y, v, h, hv => by
  simp only [List.getElem?_cons_zero, Option.some.injEq] at h
  subst h
  simp only [frV, List.map_cons, List.getElem?_cons_zero, Option.some.injEq] at hv
  refine ⟨i, h1, ?_, h2, h3, h4⟩
  cases e : σ[i]? with
  | none => rw [e] at hv; cases hv
  | some o => rw [e] at hv; exact congrArg some hv
 | _, _, .cons h1 h2 h3 h4 r, j + 1, y, v, h, hv => by
  simp only [List.getElem?_cons_succ] at h
  simp only [frV, List.map_cons, List.getElem?_cons_succ] at hv
  exact r.at j y v h hv
theorem Frees.mem {X : Cx} {rs : Scope} {cl : List (Str × Addr)} : ∀ {fx : List Str} {fr : List Nat}, Frees X rs cl fx fr → ∀ y ∈ fx, X.env.kindOf y = some .cell ∧ cl.lookup y = X.env.cells.lookup y
 | _, _, .nil, y, h => by simp at h
 | _, _, .cons h1 h2 h3 h4 r, y, h => by
  rcases List.mem_cons.mp h with rfl | h
  ·exact ⟨h2, h4⟩
  ·exact r.mem y h
section
variable {X : Cx} {pins : List (Addr × Obj)} {σ : St} {H1 : Hp} {s3 : Shared} {x : Str} {fx : List Str} {fr : List Nat} {scope : Scope} {cl : List (Str × Addr)} {fp : List Addr}
theorem oqk (I : Inv X pins σ H1 s3) (hkind : scope.kind = .function) (hcl : ∀ y c, cl.lookup y = some c → X.env.cells.lookup y = some c)
  (F : Frees X (relabel scope X.env) cl fx fr) (hfx : ((relabel scope X.env).names.all fun p => if (p.2 == .cell || p.2 == .free) then fx.contains p.1 else true) = true)
  (ffp : ∀ b ∈ fp, FpOk X pins H1 b) (flt : ∀ b ∈ fp, b < s3.heap.objs.size) : (compCx X (x :: fx) scope cl s3 H1 fp).Ok where
 mod := I.ok.mod
 kind := hkind
 glob := I.ok.glob
 blt := I.ok.blt
 above := Nat.le_refl _
 inj := fun y z c h1 h2 => I.ok.inj y z c (hcl y c h1) (hcl z c h2)
 has := fun y h => by
  have h : (relabel scope X.env).names.lookup y = some .cell ∨ (relabel scope X.env).names.lookup y = some .free := h
  have key : y ∈ fx := by
   rcases h with h | h
   ·have q := List.all_eq_true.mp hfx _ (PySem.mem_of_lookup h)
    simpa using q
   ·have q := List.all_eq_true.mp hfx _ (PySem.mem_of_lookup h)
    simpa using q
  obtain ⟨k1, k2⟩ := F.mem y key
  obtain ⟨c, e⟩ := I.ok.has y (.inl k1)
  exact ⟨c, k2.trans e⟩
 cab := fun y c h => by cases (show false = true from h)
 hd := I.ok.hd
 frames := I.ok.frames
 stk := .inl rfl
 exf := fun b hb => ⟨Nat.ne_of_lt (flt b hb), fun y c e => (ffp b hb).2.2.2.2.1 y c (hcl y c e)⟩
 bs := I.bs
 bsz := Nat.le_trans I.ok.bsz I.sz
 noex := fun b o e hb => by
  rcases (ffp b hb).2.2.2.1 with z | z
  ·exact I.ok.noex b o e z
  ·exact absurd (Nat.lt_of_lt_of_le (Heap.lt_size (I.ok.bs b o e).1) z) (Nat.lt_irrefl _)
 exfs := fun b hb z => by
  rcases List.mem_cons.mp (I.stkSub b z) with q | q
  ·exact (ffp b hb).2.1 q
  ·exact (ffp b hb).2.2.1 q
 funs := I.stack
 frf := I.stkFree
theorem kqJ (I : Inv X pins σ H1 s3) (hkind : scope.kind = .function) (hcl : ∀ y c, cl.lookup y = some c → X.env.cells.lookup y = some c)
  (F : Frees X (relabel scope X.env) cl fx fr) (hfx : ((relabel scope X.env).names.all fun p => if (p.2 == .cell || p.2 == .free) then fx.contains p.1 else true) = true)
  (ffp : ∀ b ∈ fp, FpOk X pins H1 b) (flt : ∀ b ∈ fp, b < s3.heap.objs.size) {h1 : Heap} {t : Nat} {m : Str → Option Value} (hn : h1.Ns s3.heap.objs.size m)
  (keep : ∀ b u, s3.heap.get? b = some u → h1.get? b = some u) : Inv (compCx X (x :: fx) scope cl s3 H1 fp) [] (none :: frV σ fr) H1 { s3 with heap := h1, toks := t } := by
 refine ⟨oqk I hkind hcl F hfx ffp flt, rfl, I.bare, Un.kept keep, ⟨m, hn, fun i y v e1 e2 e3 => ?_⟩, fun y c e => ?_, I.hok.fresh (Nat.le_refl _), fun y c e => I.freeC y c (hcl y c e), fun p hp => absurd (show p ∈ ([] : List (Addr × Obj)) from hp) (by simp), I.hok.kept keep, ?_⟩
 ·cases i with
  | zero => simp at e2
  | succ j =>
   obtain ⟨i0, k1, k2, k3, k4, k5⟩ := F.at (σ := σ) j y v (by simpa [compCx] using e1) (by simpa using e2)
   obtain ⟨m0, hn0, hl0⟩ := I.loc
   obtain ⟨u, r, l⟩ := hl0 i0 y v k1 k2 (.inr (.inl k3))
   refine ⟨u, r, ?_⟩
   rcases l with ⟨z, _⟩ | ⟨_, c, e, o, ho, hd⟩
   ·rw [k3] at z; cases z
   ·exact .inr ⟨.inl k4, c, k5.trans e, o, keep c o ho, hd⟩
 ·obtain ⟨v, o, ho, hd⟩ := I.cell y c (hcl y c e)
  exact ⟨v, o, keep c o ho, hd⟩
 ·show (none :: frV σ fr).length = (x :: fx).length
  simp [frV, F.len]
theorem gqe {N' : List Str} {pins' : List (Addr × Obj)} {σ' : St} {H2 : Hp} {s' : Shared} {h' : Heap} (I : Inv X pins σ H1 s3) (J : Inv (compCx X N' scope cl s3 H1 fp) pins' σ' H2 s') (ffp : ∀ b ∈ fp, FpOk X pins H1 b)
  (sb : Heap.SameBut s3.heap.objs.size s'.heap h') : Inv X pins σ H2 { s' with heap := h' } := by
 have k : ∀ b u, b ≠ s3.heap.objs.size → s'.heap.get? b = some u → h'.get? b = some u := fun b u hb e => sb.extBut b u hb e
 have lt : ∀ b u, s3.heap.get? b = some u → b ≠ s3.heap.objs.size := fun b u e => Nat.ne_of_lt (Heap.lt_size e)
 have u : Un (frs X.stack) fp H1 H2 s3.heap s'.heap := J.base
 have u' : Un (frs X.stack) fp H1 H2 s3.heap h' :=
  ⟨fun b o q n hb hx => k b o (lt b o q) (u.keep b o q n hb hx), fun b o q n hb hx => by
    obtain ⟨sl, e⟩ := u.slot b o q n hb hx
    exact ⟨sl, k b _ (lt b o q) e⟩, u.free, fun b o q hx => by
    obtain ⟨o', e⟩ := u.there b o q hx
    exact ⟨o', k b _ (lt b o q) e⟩, u.tups, u.frzs, u.tbls⟩
 have nC : H2 s3.heap.objs.size = none := J.free
 have hok : HOk X.prog X.w H2 h' := fun b uo e => by
  refine (J.hok b uo e).stay (fun c v hc q => k c v ?_ q) (fun _ q => q) fun _ _ q => q
  rintro rfl
  rcases hc with z | z
  ·rw [← z, nC] at e; cases e
  ·rw [nC] at z; cases z
 have os : s'.os = s3.os := J.os
 have bare := J.bare
 obtain ⟨hh, g, d, t, os'⟩ := s'
 obtain rfl : os' = s3.os := os
 have fin := I.call (h' := h') (g' := g) (d' := d) (t' := t) (ch := fp) u' hok bare fun b hb => by
  obtain ⟨f0, f1, f2, f3, f4, f5⟩ := ffp b hb
  exact ⟨f3, f1, f4, f5⟩
 exact fin
end
def PF (X : Cx) (ifs : List Expr) (t : TT) : Prop :=
 ∀ (pins : List (Addr × Obj)) (s : Shared) (σ : St) (H : Hp) (Q : Bool → Hp → Prop), Inv X pins σ H s → t σ H Q →
  wpAny (model X.prog X.w) X.A (forIn ifs true fun c r => if r = true then do let ok ← isTrue c X.env (eval c X.env); pure (ForInStep.yield ok) else pure (ForInStep.yield r)) (TP X pins σ Q) X.xe s
def tYes : TT := fun _ H Q => Q true H
theorem iqI {X : Cx} : PF X [] tYes := fun _ _ _ H _ I h => wpAny_tests_nil ⟨H, I, h⟩
theorem iqU {X : Cx} {c : Expr} {t : TT} (h : PT X c t) : PF X [c] t := fun pins s σ H Q I q => wpAny_tests_one (h pins s σ H Q I q)
def CompI (J : It) (p : Addr) (fv : St) (tt : TT) (te : TE) (Q : VK) (H1 : Hp) : Prop :=
 ∃ W : Nat → Nat → List V → Hp → Prop, (∃ m, W 0 m [] (upd H1 p (.lst []))) ∧ ∀ i m ys H2, W i m ys H2 → H2 p = some (.lst ys) ∧
  ((J.stop i H2 ∧ Q (.ref p) H2) ∨ (J.go i H2 ∧ ys.length < sizeLine ∧ ∀ x H3, J.yld i H2 x H3 → tt (some x :: fv) H3 fun b H4 =>
   if b = true then te (some x :: fv) H4 fun y H5 => H5 p = some (.lst ys) ∧ ∃ m', m' < m ∧ W (i + 1) m' (ys ++ [y]) (upd H5 p (.lst (ys ++ [y])))
   else ∃ m', m' < m ∧ W (i + 1) m' ys H4))
def tComp (wi : TI) (fr : List Nat) (tt : TT) (te : TE) : TE := fun σ H Q => wi σ H fun J H1 => ∀ p, H1 p = none → CompI J p (frV σ fr) tt te Q H1
section
variable {X : Cx} {elt iter : Expr} {x : Str} {px pos : Pos} {ifs : List Expr} {scope : Scope} {cl : List (Str × Addr)} {fx : List Str} {fr : List Nat} {wi : TI} {tt : TT} {te : TE}
theorem gq8 {pins : List (Addr × Obj)} {σ : St} {H3 : Hp} {s3 : Shared} {it p : Addr} {fp : List Addr} {tn : Nat → Heap → Prop} {J : It} {Q : VK} {W : Nat → Nat → List V → Hp → Prop} {m0 t : Nat} {h₁ : Heap} {m : Str → Option Value} {RR : Result → Shared → Prop}
  (hc : X.calm = true) (hkind : scope.kind = .function) (hx : scope.names.lookup x = some .local) (hnd : (x :: fx).Nodup)
  (hcl : ∀ y c, cl.lookup y = some c → X.env.cells.lookup y = some c) (F : Frees X (relabel scope X.env) cl fx fr)
  (hfx : ((relabel scope X.env).names.all fun p => if (p.2 == .cell || p.2 == .free) then fx.contains p.1 else true) = true)
  (ht : ∀ s H fp, PF (compCx X (x :: fx) scope cl s H fp) ifs tt) (he : ∀ s H fp, PE (compCx X (x :: fx) scope cl s H fp) elt te)
  (I3 : Inv X pins σ H3 s3) (T : Turn X.prog X.w X.K (.Name x px) J fp it tn) (st3 : tn 0 s3.heap) (ffp : ∀ b ∈ fp, FpOk X pins H3 b) (flt3 : ∀ b ∈ fp, b < s3.heap.objs.size)
  (w0 : W 0 m0 [] H3) (turn : ∀ i m ys H2, W i m ys H2 → H2 p = some (.lst ys) ∧
   ((J.stop i H2 ∧ Q (.ref p) H2) ∨ (J.go i H2 ∧ ys.length < sizeLine ∧ ∀ x H3, J.yld i H2 x H3 → tt (some x :: frV σ fr) H3 fun b H4 =>
    if b = true then te (some x :: frV σ fr) H4 fun y H5 => H5 p = some (.lst ys) ∧ ∃ m', m' < m ∧ W (i + 1) m' (ys ++ [y]) (upd H5 p (.lst (ys ++ [y])))
    else ∃ m', m' < m ∧ W (i + 1) m' ys H4)))
  (hns : h₁.Ns s3.heap.objs.size m) (keep1 : ∀ b u, s3.heap.get? b = some u → h₁.get? b = some u)
  (fin : ∀ s6 H5 o, Inv (compCx X (x :: fx) scope cl s3 H3 fp) [] (o :: frV σ fr) H5 s6 → Q (.ref p) H5 → RR (.ok .next) s6) :
  codeAny (model X.prog X.w) X.A (.compStart (.ListComp elt [⟨.Name x px, iter, ifs, 0⟩] scope pos) 0 (.ref it) (.ref p) (compEnvC scope cl s3.heap.objs.size X.env))
   RR { s3 with heap := h₁, toks := t } := by
 have I4 := kqJ (x := x) (t := t) I3 hkind hcl F hfx ffp flt3 hns keep1
 have st4 : tn 0 h₁ := T.keep _ _ _ st3 fun b hb o e => keep1 b o e
 have fp0 : ∀ b ∈ fp, H3 b = none := fun b hb => (ffp b hb).1
 have hcal : (compCx X (x :: fx) scope cl s3 H3 fp).calm = true := hc
 have stat : ∀ {H' : Hp}, (∀ b ∈ fp, H' b = none) → ∀ b ∈ fp, FpOk (compCx X (x :: fx) scope cl s3 H3 fp) [] H' b := fun {H'} hn b hb => by
  obtain ⟨f0, f1, f2, f3, f4, f5⟩ := ffp b hb
  exact ⟨hn b hb, Nat.ne_of_lt (flt3 b hb), I4.ok.exfs b hb, .inl hb, fun y c e => f4 y c (hcl y c e), fun q hq => absurd (show q ∈ ([] : List (Addr × Obj)) from hq) (by simp)⟩
 have hxl : (relabel scope X.env).names.lookup x = some .local := lookup_relabel_local hx
 have pg : PG (compCx X (x :: fx) scope cl s3 H3 fp) (.Name x px) (gName 0) := bqb (i := 0) hnd rfl (.inl hxl) (.inr hxl)
 have loop : codeAny (model X.prog X.w) X.A (.compLoop (.ListComp elt [⟨.Name x px, iter, ifs, 0⟩] scope pos) 0 (.ref it) (.ref p) (compEnvC scope cl s3.heap.objs.size X.env))
    RR { s3 with heap := h₁, toks := t } := by
  refine fqt (fun n s' => ∃ i ys H' o, Inv (compCx X (x :: fx) scope cl s3 H3 fp) [] (o :: frV σ fr) H' s' ∧ tn i s'.heap ∧ (∀ b ∈ fp, H' b = none) ∧ W i n ys H') ?_ m0 ⟨0, [], _, none, I4, st4, fp0, w0⟩
  rintro n s5 ⟨i, ys, H5, o, I5, st5, fr5, w5⟩
  obtain ⟨hp5, alt⟩ := turn i n ys H5 w5
  rcases alt with ⟨stop, qn⟩ | ⟨go, hlen, step⟩
  ·refine thn (T.done (compCx X (x :: fx) scope cl s3 H3 fp) rfl rfl rfl hcal i [] s5 (o :: frV σ fr) H5 _ I5 (stat fr5) st5 stop) fun r s6 W' => ?_
   obtain ⟨hr, I6⟩ := W'
   subst hr
   exact fin s6 H5 o I6 qn
  ·refine thn (T.item (compCx X (x :: fx) scope cl s3 H3 fp) rfl rfl rfl hcal i [] s5 (o :: frV σ fr) H5 _ I5 (stat fr5) st5 go) fun r s6 W' => ?_
   obtain ⟨u, hr, h6⟩ := W'
   subst hr
   refine thn h6 fun _ s7 W' => ?_
   obtain ⟨y7, H7, I7, r7, yl7, st7, fr7⟩ := W'
   have I7' := I7.pinned (stat fr7) (T.obj _ _ st7)
   have back : ∀ {σ' : St} {H' : Hp} {s' : Shared}, Inv (compCx X (x :: fx) scope cl s3 H3 fp) ([] ++ pinsAt fp s7.heap) σ' H' s' → tn (i + 1) s'.heap ∧ ∀ b ∈ fp, H' b = none := fun {σ' H' s'} I' => by
    refine ⟨T.keep _ _ _ st7 fun b hb o e => (I'.pin (b, o) (List.mem_append_right _ (List.mem_append_right _ (bq2 hb e)))).1, fun b hb => ?_⟩
    obtain ⟨o, e, d⟩ := T.obj _ _ st7 b hb
    exact (I'.pin (b, o) (List.mem_append_right _ (List.mem_append_right _ (bq2 hb e)))).2.1
   refine thn (pg _ s7 _ H7 y7 u (fun σ' H' => σ' = some y7 :: frV σ fr ∧ H' = H7) I7' r7 ⟨rfl, rfl⟩) fun _ s8 W' => ?_
   obtain ⟨σ8, H8, I8, e8, e8'⟩ := W'
   subst e8 e8'
   refine thn (ht s3 H3 fp _ s8 _ _ _ I8 (step y7 _ yl7)) fun b s9 W' => ?_
   obtain ⟨H9, I9, q9⟩ := W'
   cases b with
   | false =>
    rw [if_neg Bool.false_ne_true] at q9 ⊢
    obtain ⟨m', hm, w9⟩ := q9
    exact ⟨m', hm, i + 1, ys, H9, some y7, I9.unpinned, (back I9).1, (back I9).2, w9⟩
   | true =>
    rw [if_pos rfl] at q9 ⊢
    refine thn (he s3 H3 fp _ s9 _ H9 _ I9 q9) fun u10 s10 W' => ?_
    obtain ⟨y10, H10, I10, r10, hp10, m', hm, w10⟩ := W'
    refine thn (eqH _ s10 _ H10 (.ref p) [y10] (.ref p) [u10] (fun _ H' => H' = upd H10 p (.lst (ys ++ [y10]))) I10 rfl (.cons r10 .nil) ⟨p, ys, y10, rfl, rfl, hp10, hlen, rfl⟩) fun _ s11 W' => ?_
    obtain ⟨_, H11, I11, _, e11⟩ := W'
    subst e11
    exact ⟨m', hm, i + 1, ys ++ [y10], _, some y7, I11.unpinned, (back I11).1, (back I11).2, w10⟩
 exact codeAny_compStart_list loop (T.self _ 0 _ _ _ st4 loop)
theorem dq7 (hc : X.calm = true) (hclos : closureFor scope X.env = pure cl) (hcell : ∀ y ∈ scope.names, y.2 ≠ .cell) (hkind : scope.kind = .function)
  (hnames : ∀ y ∈ scope.names, y.2 = .local → scope.names.lookup y.1 = some .local) (hx : scope.names.lookup x = some .local) (hnd : (x :: fx).Nodup)
  (hk : (cl.all fun q => fx.contains q.1) = true) (F : Frees X (relabel scope X.env) cl fx fr)
  (hfx : ((relabel scope X.env).names.all fun p => if (p.2 == .cell || p.2 == .free) then fx.contains p.1 else true) = true)
  (hi : PI X (.Name x px) iter wi) (ht : ∀ s H fp, PF (compCx X (x :: fx) scope cl s H fp) ifs tt) (he : ∀ s H fp, PE (compCx X (x :: fx) scope cl s H fp) elt te)
  (hs : ∀ x, foldedSetIterable iter X.env x = pure x := by intro _; rfl) :
  PE X (.ListComp elt [⟨.Name x px, iter, ifs, 0⟩] scope pos) (tComp wi fr tt te) := by
 intro pins s σ H Q I h
 have hcl : ∀ y c, cl.lookup y = some c → X.env.cells.lookup y = some c := fun y c e => by
  have q := List.all_eq_true.mp hk _ (PySem.mem_of_lookup e)
  rw [← (F.mem y (by simpa using q)).2]
  exact e
 rw [eval_ListComp]
 refine wpAny_comprehension_free (use := none) rfl hs hclos hkind hnames ?_
 refine thn (hi pins s σ H _ I h) fun v s1 h1 => thn h1 fun itv s2 h2 => ?_
 obtain ⟨it, fp, tn, J, H2, e, I2, T, st2, f2, q2⟩ := h2
 subst e
 have hp0 : H2 s2.heap.objs.size = none := I2.hok.fresh (Nat.le_refl _)
 obtain ⟨W, ⟨m0, w0⟩, turn⟩ := q2 _ hp0
 have flt : ∀ b ∈ fp, b < s2.heap.objs.size := fun b hb => by
  obtain ⟨o, e, _⟩ := T.obj _ _ st2 b hb
  exact Heap.lt_size e
 refine wpAny_newObj_type (wpAny_newFunctionEnv hcell (by intro y hy; simp at hy) (fun h₁ hns₁ hsb₁ => ?_) hkind)
 dsimp only at hns₁ hsb₁ ⊢
 have hlay : ∀ b u, s2.heap.get? b = some u → (s2.heap.push { cls := .type "list", dict := none, data := .seq ([] : List Value).toArray }).get? b = some u := fun b u e => Heap.get?_push_of_some _ e
 have hnew : (s2.heap.push { cls := .type "list", dict := none, data := .seq ([] : List Value).toArray }).get? s2.heap.objs.size = some { cls := .type "list", dict := none, data := .seq ([] : List Value).toArray } := Heap.get?_push_size _ rfl
 have hsz : (s2.heap.push { cls := .type "list", dict := none, data := .seq ([] : List Value).toArray }).objs.size = s2.heap.objs.size + 1 := Heap.size_push _ _
 generalize hHH : s2.heap.push { cls := .type "list", dict := none, data := .seq ([] : List Value).toArray } = HH at hns₁ hsb₁ hlay hnew hsz ⊢
 have I3 : Inv X pins σ (upd H2 s2.heap.objs.size (.lst [])) { s2 with heap := HH, toks := s2.toks } :=
  I2.laid (t' := s2.toks) (o := .lst []) hlay (Nat.le_refl _) ⟨Nat.zero_le _, [], 0, .nil, hnew⟩
 have ffp : ∀ b ∈ fp, FpOk X pins (upd H2 s2.heap.objs.size (.lst [])) b := fun b hb => by
  obtain ⟨f0, fr'⟩ := f2 b hb
  exact ⟨by rw [aqj (Nat.ne_of_lt (flt b hb))]; exact f0, fr'⟩
 have keep1 : ∀ b u, HH.get? b = some u → h₁.get? b = some u := fun b u e => hsb₁.extBut b u (Nat.ne_of_lt (Heap.lt_size e)) (Heap.get?_push_of_some _ e)
 exact gq8 (s3 := { s2 with heap := HH, toks := s2.toks }) hc hkind hx hnd hcl F hfx ht he I3 T (T.keep _ _ _ st2 fun b hb o e => hlay b o e) ffp (fun b hb => by show b < HH.objs.size; rw [hsz]; exact Nat.lt_succ_of_lt (flt b hb)) w0 turn hns₁ keep1 fun s6 H5 o I6 qn => by
  obtain ⟨m, hn6, _⟩ := id I6.loc
  exact ⟨m, hn6, fun h' sb => ⟨.ref _, H5, gqe I3 I6 ffp sb, rfl, qn⟩⟩
theorem nqL {i : Nat} {y : Str} {py spos : Pos} (hN : X.N.Nodup) (hiN : X.N[i]? = some y) (hy : X.env.scope.names.lookup y = some .local)
  (hc : X.calm = true) (hclos : closureFor scope X.env = pure cl) (hcell : ∀ y ∈ scope.names, y.2 ≠ .cell) (hkind : scope.kind = .function)
  (hnames : ∀ y ∈ scope.names, y.2 = .local → scope.names.lookup y.1 = some .local) (hx : scope.names.lookup x = some .local) (hnd : (x :: fx).Nodup)
  (hk : (cl.all fun q => fx.contains q.1) = true) (F : Frees X (relabel scope X.env) cl fx fr)
  (hfx : ((relabel scope X.env).names.all fun p => if (p.2 == .cell || p.2 == .free) then fx.contains p.1 else true) = true)
  (hi : PI X (.Name x px) iter wi) (ht : ∀ s H fp, PF (compCx X (x :: fx) scope cl s H fp) ifs tt) (he : ∀ s H fp, PE (compCx X (x :: fx) scope cl s H fp) elt te)
  (hs : ∀ x, foldedSetIterable iter X.env x = pure x := by intro _; rfl) (hsw : swapsWith (.ListComp elt [⟨.Name x px, iter, ifs, 0⟩] scope pos) (some (.Name y py)) spos.line X.env = pure true := by rfl) :
  PS X (.Assign [.Name y py] (.ListComp elt [⟨.Name x px, iter, ifs, 0⟩] scope pos) spos) (tAsg (tComp wi fr tt te) (gName i)) := by
 intro pins s σ H D I h
 have hcl : ∀ y c, cl.lookup y = some c → X.env.cells.lookup y = some c := fun y c e => by
  have q := List.all_eq_true.mp hk _ (PySem.mem_of_lookup e)
  rw [← (F.mem y (by simpa using q)).2]
  exact e
 rw [exec_Assign_Name_used _ _ _ _ hsw]
 refine wpAny_bind (wpAny_standAt (wpAny_bind ?_))
 show wpAny _ X.A (do let _ ← comprehension (.ListComp elt [⟨.Name x px, iter, ifs, 0⟩] scope pos) scope X.env _ (newList []) false (eval iter X.env) (some (assign (.Name y py) X.env))) _ _ s
 refine wpAny_bind (wpAny_mono (wpAny_comprehension_free (use := some (assign (.Name y py) X.env)) (Q := fun _ s' => SP X pins D .next s') rfl hs hclos hkind hnames ?_) (fun _ s' hq => wpAny_pure (wpAny_pure hq)) fun _ _ e => e)
 refine thn (hi pins s σ H _ I h) fun v s1 h1 => thn h1 fun itv s2 h2 => ?_
 obtain ⟨it, fp, tn, J, H2, e, I2, T, st2, f2, q2⟩ := h2
 subst e
 have hp0 : H2 s2.heap.objs.size = none := I2.hok.fresh (Nat.le_refl _)
 obtain ⟨W, ⟨m0, w0⟩, turn⟩ := q2 _ hp0
 have flt : ∀ b ∈ fp, b < s2.heap.objs.size := fun b hb => by
  obtain ⟨o, e, _⟩ := T.obj _ _ st2 b hb
  exact Heap.lt_size e
 refine wpAny_newObj_type (wpAny_newFunctionEnv hcell (by intro y hy; simp at hy) (fun h₁ hns₁ hsb₁ => ?_) hkind)
 dsimp only at hns₁ hsb₁ ⊢
 have hlay : ∀ b u, s2.heap.get? b = some u → (s2.heap.push { cls := .type "list", dict := none, data := .seq ([] : List Value).toArray }).get? b = some u := fun b u e => Heap.get?_push_of_some _ e
 have hnew : (s2.heap.push { cls := .type "list", dict := none, data := .seq ([] : List Value).toArray }).get? s2.heap.objs.size = some { cls := .type "list", dict := none, data := .seq ([] : List Value).toArray } := Heap.get?_push_size _ rfl
 have hsz : (s2.heap.push { cls := .type "list", dict := none, data := .seq ([] : List Value).toArray }).objs.size = s2.heap.objs.size + 1 := Heap.size_push _ _
 generalize hHH : s2.heap.push { cls := .type "list", dict := none, data := .seq ([] : List Value).toArray } = HH at hns₁ hsb₁ hlay hnew hsz ⊢
 have I3 : Inv X pins σ (upd H2 s2.heap.objs.size (.lst [])) { s2 with heap := HH, toks := s2.toks } :=
  I2.laid (t' := s2.toks) (o := .lst []) hlay (Nat.le_refl _) ⟨Nat.zero_le _, [], 0, .nil, hnew⟩
 have ffp : ∀ b ∈ fp, FpOk X pins (upd H2 s2.heap.objs.size (.lst [])) b := fun b hb => by
  obtain ⟨f0, fr'⟩ := f2 b hb
  exact ⟨by rw [aqj (Nat.ne_of_lt (flt b hb))]; exact f0, fr'⟩
 have keep1 : ∀ b u, HH.get? b = some u → h₁.get? b = some u := fun b u e => hsb₁.extBut b u (Nat.ne_of_lt (Heap.lt_size e)) (Heap.get?_push_of_some _ e)
 exact gq8 (Q := fun x H1 => gName i x σ H1 D.nx) (s3 := { s2 with heap := HH, toks := s2.toks }) hc hkind hx hnd hcl F hfx ht he I3 T (T.keep _ _ _ st2 fun b hb o e => hlay b o e) ffp (fun b hb => by show b < HH.objs.size; rw [hsz]; exact Nat.lt_succ_of_lt (flt b hb)) w0 turn hns₁ keep1 fun s6 H5 o I6 qn => by
  have nC : H5 HH.objs.size = none := I6.free
  have I7 : Inv X pins σ H5 s6 := gqe (h' := s6.heap) I3 I6 ffp ⟨rfl, fun _ _ => rfl⟩
  obtain ⟨f0, f1, f2, f3, f4, f5⟩ := I3.fpOk (H' := H5) (b := HH.objs.size) (Nat.le_refl _) nC
  obtain ⟨m, hn6, _⟩ := id I6.loc
  show wpAny _ X.A (assign (.Name y py) X.env (.ref _)) _ _ s6
  refine wpAny_assign_Name (fq4 I7 hN hiN (.inl hy) (v := .ref _) rfl (fun s8 I8 sbx => ?_) (.inr hy))
  obtain ⟨a, sb, ha⟩ := sbx
  have hne : HH.objs.size ≠ a := by
   rcases ha with rfl | ha
   ·exact f1
   ·exact fun z => f4 y a ha z.symm
  refine ⟨m, hn6.sameBut sb hne, fun h' sb' => ?_⟩
  exact ⟨_, H5, I8.turned (t' := s8.toks) (it := HH.objs.size) (fun b o hb e => sb'.extBut b o hb e) f0 f1 f3 f4 f5, qn⟩
end
section
variable {p : Addr} {fv : St} {te : TE} {Q : VK} {H1 : Hp}
theorem mq6 {z : Str} (hz : z.length ≤ sizeLine) (hp : H1 p = none) (f : Nat → V)
  (he : ∀ c, c ∈ z.cps.toList → ∀ (H' : Hp) (R : VK), (∀ H'', Same H' H'' → R (f c) H'') → te (some (.str ⟨#[c]⟩) :: fv) H' R)
  (hQ : ∀ H', Same H1 H' → H' p = some (.lst (z.cps.toList.map f)) → Q (.ref p) H') : CompI (Its z) p fv tYes te Q H1 := by
 have hl : z.cps.toList.length = z.length := by simp [Str.length]
 refine ⟨fun i m ys H2 => m = z.length - i ∧ i ≤ z.length ∧ ys = (z.cps.toList.take i).map f ∧ H2 p = some (.lst ys) ∧ Same H1 H2, ⟨z.length, by simp, Nat.zero_le _, by simp, aqk, fun b o e => by rw [aqj (aqh e hp)]; exact e⟩, ?_⟩
 rintro i m ys H2 ⟨rfl, hi, rfl, hp2, sm⟩
 refine ⟨hp2, ?_⟩
 by_cases hlt : i < z.length
 ·refine .inr ⟨hlt, ?_, fun x H3 y => ?_⟩
  ·rw [List.length_map, List.length_take]; lia
  ·obtain ⟨rfl, c, hc, rfl⟩ := y
   unfold tYes
   dsimp only
   rw [if_pos rfl]
   refine he c (List.mem_of_getElem? hc) _ _ fun H5 s5 => ⟨s5 _ _ hp2, z.length - (i + 1), by lia, rfl, hlt, ?_, aqk, fun b o e => ?_⟩
   ·rw [List.take_add_one, hc, List.map_append]; rfl
   ·rw [aqj (aqh e hp)]; exact s5 _ _ (sm _ _ e)
 ·have e : i = z.length := by lia
  subst e
  refine .inl ⟨Nat.le_refl _, hQ H2 sm ?_⟩
  rw [hp2, ← hl, List.take_length]
end
section
variable {σ : St} {H : Hp} {Q : VK} {K : PySem.W.Frag} {tl te : TE} {tt : TT} {fr : List Nat}
theorem nq4 : frV σ [] = [] := rfl
theorem mqr {i : Nat} {r : List Nat} : frV σ (i :: r) = (σ[i]?).getD none :: frV σ r := rfl
theorem pq3 {z : Str} {p : Addr} : rJoin K (.str z) [.ref p] H Q ↔ ∃ ys : List Str, SqL K H p (ys.map V.str) ∧ (ys.map (·.length)).sum + ys.length * z.length ≤ 16777216 ∧ Q (.str (Txt.join z ys)) H := by
 constructor
 ·rintro ⟨z', p', ys, h1, h2, h3⟩
  cases h1; cases h2
  exact ⟨ys, h3⟩
 ·rintro ⟨ys, h⟩
  exact ⟨z, p, ys, rfl, rfl, h⟩
theorem mq8 : (tComp (iStr tl) fr tt te σ H Q) = (tl σ H fun x H1 => ∃ z, x = .str z ∧ ∀ p, H1 p = none → CompI (Its z) p (frV σ fr) tt te Q H1) := rfl
theorem mqZ : (tComp (iList K tl) fr tt te σ H Q) = (tl σ H fun x H1 => ∃ a, x = .ref a ∧ (∃ xs, SqL K H1 a xs) ∧ ∀ p, H1 p = none → CompI (Itl K a) p (frV σ fr) tt te Q H1) := rfl
end
section
variable {X : Cx} {K : PySem.W.Frag}
theorem pqb (h : X.K = K) : OpR X (binaryOp .Add) (rAddU K) := by subst h; exact lqv
theorem aqg (h : X.K = K) : IxR X (rIx K) := by subst h; exact qqy
theorem aqH (h : X.K = K) : CallR X (.builtin "len") (rLenU K) := by subst h; exact kqZ
theorem hqX {tg l : Expr} {tl : TE} (h : X.K = K) (hl : PE X l tl) : PI X tg l (iList K tl) := by subst h; exact oqs hl
variable {o e : Expr} {es : List Expr} {to : TE} {t : TA} {name : Str} {apos cpos : Pos} {T id : String} {r : V → List V → Hp → VK → Prop}
theorem kq1 (h : X.K = K) (pa : PlainAttrs T) (slot : Slot T name id) (hty : typeOf (.builtin id) = pure (.type "method_descriptor")) (hm : MtR X id r) (ho : PE X o to) (ha : PA X (e :: es) t)
  (hbase : attributeBase o name X.env (eval o X.env) = eval o X.env := by rfl)
  (hfew : ((backTo cpos (starEach (e :: es) X.env)).all (fun x => !x.1) && (backToKw cpos (keywordEach [] X.env)).all (fun x => x.1.isSome)
   && decide ((e :: es).length + ([] : List Keyword).length + (if ([] : List Keyword).isEmpty then 0 else 1) < 30)) = true := by rfl)
  (hline : (apos.endLine == cpos.line) = true := by rfl) (hs : starEach (e :: es) X.env = (false, eval e X.env) :: starEach es X.env := by rfl) (hplain : (backTo cpos (starEach es X.env)).any (·.1) = false := by rfl) :
  PE X (.Call (.Attribute o name apos) (e :: es) [] cpos) (tBM K T r to t) := by
 subst h; exact qqX pa slot hty hm ho ha hbase hfew hline hs hplain
end
structure FunD (K : PySem.W.Frag) (x qual : Str) (st : Stmt) (f : Addr) (fd : FuncData) (T : Addr) : Prop where
 ex : ∃ (oc : Value) (od : Option Addr) (kV doc pm : Value) (an : Option Addr) (cdv ct : Value) (osl : Array (Option Value)),
  fd = PySem.W.fnOf x qual (defArgs st) (defBody st) (defScope st) (.ref T) kV doc pm an cdv ct ∧ K.lookup f = some ⟨oc, od, .func fd, osl⟩ ∧ PySem.W.codeIn K cdv qual = true
 kp : PySem.W.keepIn K (.ref f) = true
section
variable {P : Program} {w : World} {K : PySem.W.Frag} {mg : Str → Option Value} {base : Heap}
end
section
variable {σ : St} {H : Hp} {Q : VK}
theorem qqP {r : V → Hp → VK → Prop} {ta : TE} : (tUn r ta σ H Q) = (ta σ H fun x H1 => r x H1 Q) := rfl
theorem rd_U {g : Int → V} {i : Int} : rU g (.int i) H Q ↔ Q (g i) H := ⟨fun ⟨_, h1, h2⟩ => by cases h1; exact h2, fun h => ⟨i, rfl, h⟩⟩
theorem pqO {l : Addr} {y : V} : rAppend (.ref l) [y] H Q ↔ ∃ xs, H l = some (.lst xs) ∧ xs.length < sizeLine ∧ Q .non (upd H l (.lst (xs ++ [y]))) := by
 constructor
 ·rintro ⟨l', xs, y', h1, h2, h3⟩
  cases h1; cases h2
  exact ⟨xs, h3⟩
 ·rintro ⟨xs, h⟩
  exact ⟨l, xs, y, rfl, rfl, h⟩
theorem oqY {K : PySem.W.Frag} {p : Addr} : tyV K "list" (.ref p) H ↔ ∃ xs, SqL K H p xs := by
 constructor
 ·rintro (⟨_, h⟩ | ⟨h, _⟩ | ⟨h, _⟩ | ⟨h, _⟩)
  ·exact h
  ·exact absurd h (by decide)
  ·exact absurd h (by decide)
  ·exact absurd h (by decide)
 ·intro h; exact .inl ⟨rfl, h⟩
end
mutual
inductive Is (H : Hp) : PyData → V → Prop
 | non : Is H .none .non
 | bl (b : Bool) : Is H (.bool b) (.bl b)
 | int (i : Int) : Is H (.int i) (.int i)
 | str (x : Str) : Is H (.str x) (.str x)
 | lst {p : Addr} {xs : List V} {ds : List PyData} : H p = some (.lst xs) → IsAll H ds xs → Is H (.list ds) (.ref p)
 | tup {p : Addr} {xs : List V} {ds : List PyData} : H p = some (.tup xs) → IsAll H ds xs → Is H (.tuple ds) (.ref p)
 | dic {p : Addr} : H p = some (.dK []) → Is H (.dict []) (.ref p)
inductive IsAll (H : Hp) : List PyData → List V → Prop
 | nil : IsAll H [] []
 | cons {d : PyData} {x : V} {ds : List PyData} {xs : List V} : Is H d x → IsAll H ds xs → IsAll H (d :: ds) (x :: xs)
end
mutual
theorem Is.mono {H H' : Hp} (sm : Same H H') : ∀ {d : PyData} {x : V}, Is H d x → Is H' d x
 | _, _, .non => .non
 | _, _, .bl b => .bl b
 | _, _, .int i => .int i
 | _, _, .str x => .str x
 | _, _, .lst h r => .lst (sm _ _ h) (IsAll.mono sm r)
 | _, _, .tup h r => .tup (sm _ _ h) (IsAll.mono sm r)
 | _, _, .dic h => .dic (sm _ _ h)
theorem IsAll.mono {H H' : Hp} (sm : Same H H') : ∀ {ds : List PyData} {xs : List V}, IsAll H ds xs → IsAll H' ds xs
 | _, _, .nil => .nil
 | _, _, .cons h r => .cons (Is.mono sm h) (IsAll.mono sm r)
end
theorem IsAll.length {H : Hp} : ∀ {ds : List PyData} {xs : List V}, IsAll H ds xs → ds.length = xs.length
 | _, _, .nil => rfl
 | _, _, .cons _ r => by rw [List.length_cons, List.length_cons, IsAll.length r]
theorem IsAll.append {H : Hp} : ∀ {ds es : List PyData} {xs ys : List V}, IsAll H ds xs → IsAll H es ys → IsAll H (ds ++ es) (xs ++ ys)
 | _, _, _, _, .nil, r => r
 | _, _, _, _, .cons h t, r => .cons h (t.append r)
theorem IsAll.at {H : Hp} : ∀ {ds : List PyData} {xs : List V}, IsAll H ds xs → ∀ (i : Nat) (x : V), xs[i]? = some x → ∃ d, ds[i]? = some d ∧ Is H d x
 | _, _, .nil, i, x, h => by simp at h
 | _, _, .cons q r, 0, x, h => by simp at h; subst h; exact ⟨_, rfl, q⟩
 | _, _, .cons q r, i + 1, x, h => by
  obtain ⟨d, h1, h2⟩ := r.at i x (by simpa using h)
  exact ⟨d, by simpa using h1, h2⟩
section
variable {X : Cx} {pins : List (Addr × Obj)} {σ : St} {H : Hp} {s : Shared}
mutual
theorem Is.reads (I : Inv X pins σ H s) : ∀ {d : PyData} {x : V} {v : Value}, Is H d x → RelV x v → ∃ as, Reads s.heap v d as
 | _, _, _, .non, r => by cases r; exact ⟨_, .none⟩
 | _, _, _, .bl b, r => by cases r; exact ⟨_, .bool b⟩
 | _, _, _, .int i, r => by obtain ⟨t, rfl⟩ := r; exact ⟨_, .int i t⟩
 | _, _, _, .str x, r => by obtain ⟨t, rfl⟩ := r; exact ⟨_, .str x t⟩
 | _, _, _, .lst h q, r => by
  cases r
  obtain ⟨its, vs, ⟨o, n, e, c, _, dt⟩, _⟩ := I.list (SqL.of h)
  obtain ⟨as, ra⟩ := IsAll.reads I q vs
  exact ⟨_, .list e c dt (by simpa using ra)⟩
 | _, _, _, .tup h q, r => by
  cases r
  obtain ⟨its, vs, ⟨o, e, c, n, dt⟩, _⟩ := I.tuple (SqT.of h)
  obtain ⟨as, ra⟩ := IsAll.reads I q vs
  exact ⟨_, .tuple e c dt (by simpa using ra)⟩
 | _, _, _, .dic h, r => by
  cases r
  obtain ⟨_, _, vs, kv, o, es, ep, e, c, dt, _, hp, _⟩ := I.hok _ _ h
  cases kv
  have hes : es.toList = [] := by generalize es.toList = l at hp; cases hp; rfl
  exact ⟨_, .dict (kvs := []) e c.1 dt (by rw [hes]; exact .nil) (by rw [hes]; exact .nil)⟩
theorem IsAll.reads (I : Inv X pins σ H s) : ∀ {ds : List PyData} {xs : List V} {vs : List Value}, IsAll H ds xs → Vals xs vs → ∃ as, ReadsAll s.heap vs ds as
 | _, _, _, .nil, r => by cases r; exact ⟨_, .nil⟩
 | _, _, _, .cons q t, r => by
  cases r with
  | cons r1 r2 =>
   obtain ⟨as, h1⟩ := Is.reads I q r1
   obtain ⟨bs, h2⟩ := IsAll.reads I t r2
   exact ⟨_, .cons h1 h2⟩
end
def rEqD : R2 := fun x y H Q => ∃ d e, Is H d x ∧ Is H e y ∧ SeqAt.shaped d = true ∧ SeqAt.shaped e = true ∧ Q (.bl (PyData.eqv d e)) H
def rNeD : R2 := fun x y H Q => ∃ d e, Is H d x ∧ Is H e y ∧ SeqAt.shaped d = true ∧ SeqAt.shaped e = true ∧ Q (.bl (!PyData.eqv d e)) H
theorem nql (hu : X.A.units + 64 < cLine) : OpR X (compareOp .Eq) rEqD := by
 intro pins s σ H x y v u Q I rx ry h
 obtain ⟨d, e, hx, hy, sx, sy, q⟩ := h
 obtain ⟨as, ra⟩ := hx.reads I rx
 obtain ⟨bs, rb⟩ := hy.reads I ry
 exact eq_dataH ra rb sx sy hu ⟨.bl _, H, I, rfl, q⟩
theorem lqc (hu : X.A.units + 64 < cLine) : OpR X (compareOp .NotEq) rNeD := by
 intro pins s σ H x y v u Q I rx ry h
 obtain ⟨d, e, hx, hy, sx, sy, q⟩ := h
 obtain ⟨as, ra⟩ := hx.reads I rx
 obtain ⟨bs, rb⟩ := hy.reads I ry
 exact ne_dataH ra rb sx sy hu ⟨.bl _, H, I, rfl, q⟩
end
mutual
inductive IsT (H : Hp) : PyData → V → Prop
 | non : IsT H .none .non
 | bl (b : Bool) : IsT H (.bool b) (.bl b)
 | int (i : Int) : IsT H (.int i) (.int i)
 | str (x : Str) : IsT H (.str x) (.str x)
 | tup {p : Addr} {xs : List V} {ds : List PyData} : H p = some (.tup xs) → IsTAll H ds xs → IsT H (.tuple ds) (.ref p)
inductive IsTAll (H : Hp) : List PyData → List V → Prop
 | nil : IsTAll H [] []
 | cons {d : PyData} {x : V} {ds : List PyData} {xs : List V} : IsT H d x → IsTAll H ds xs → IsTAll H (d :: ds) (x :: xs)
end
def SameT (H H' : Hp) : Prop := ∀ b xs, H b = some (.tup xs) → H' b = some (.tup xs)
theorem Same.toT {H H' : Hp} (h : Same H H') : SameT H H' := fun b xs e => h b _ e
mutual
theorem IsT.mono {H H' : Hp} (sm : SameT H H') : ∀ {d : PyData} {x : V}, IsT H d x → IsT H' d x
 | _, _, .non => .non
 | _, _, .bl b => .bl b
 | _, _, .int i => .int i
 | _, _, .str x => .str x
 | _, _, .tup h r => .tup (sm _ _ h) (IsTAll.mono sm r)
theorem IsTAll.mono {H H' : Hp} (sm : SameT H H') : ∀ {ds : List PyData} {xs : List V}, IsTAll H ds xs → IsTAll H' ds xs
 | _, _, .nil => .nil
 | _, _, .cons h r => .cons (IsT.mono sm h) (IsTAll.mono sm r)
end
mutual
theorem IsT.is {H : Hp} : ∀ {d : PyData} {x : V}, IsT H d x → Is H d x
 | _, _, .non => .non
 | _, _, .bl b => .bl b
 | _, _, .int i => .int i
 | _, _, .str x => .str x
 | _, _, .tup h r => .tup h (IsTAll.is r)
theorem IsTAll.is {H : Hp} : ∀ {ds : List PyData} {xs : List V}, IsTAll H ds xs → IsAll H ds xs
 | _, _, .nil => .nil
 | _, _, .cons h r => .cons (IsT.is h) (IsTAll.is r)
end
section
variable {p : Addr} {fv : St} {te : TE} {Q : VK} {H1 : Hp}
inductive All2 (R : V → V → Hp → Prop) (H : Hp) : List V → List V → Prop
 | nil : All2 R H [] []
 | cons {x y : V} {xs ys : List V} : R x y H → All2 R H xs ys → All2 R H (x :: xs) (y :: ys)
end
section
variable {X : Cx}
def rAllB (K : PySem.W.Frag) : List V → Hp → VK → Prop := fun vs H Q => ∃ (p : Addr) (bs : List Bool), vs = [.ref p] ∧ SqL K H p (bs.map V.bl) ∧ Q (.bl (bs.all id)) H
def rAnyB (K : PySem.W.Frag) : List V → Hp → VK → Prop := fun vs H Q => ∃ (p : Addr) (bs : List Bool), vs = [.ref p] ∧ SqL K H p (bs.map V.bl) ∧ Q (.bl (bs.any id)) H
theorem mqH {bs : List Bool} : ∀ {us : List Value}, Vals (bs.map V.bl) us → ∀ (i : Nat) (v : Value), us[i]? = some v → ∃ b, bs[i]? = some b ∧ v = .bool b := by
 induction bs with
 | nil => intro us r i v h; rw [List.map_nil] at r; cases r; simp at h
 | cons b bs ih =>
  intro us r i v h
  rw [List.map_cons] at r
  cases r with
  | cons r1 r2 =>
   cases i with
   | zero => simp at h; subst h; exact ⟨b, rfl, r1⟩
   | succ i =>
    obtain ⟨c, h1, h2⟩ := ih r2 i v (by simpa using h)
    exact ⟨c, by simpa using h1, h2⟩
theorem lq4 (hc : X.calm = true) : CallR X (.builtin "all") (rAllB X.K) := by
 intro pins s σ H xs us Q I r h
 obtain ⟨p, bs, rfl, hq, q⟩ := h
 obtain ⟨u, rfl, ru⟩ := vals1 r
 cases ru
 obtain ⟨its, vs, pl, hl⟩ := I.list hq
 have hI := pl.isList
 have hlt : p < s.heap.objs.size := by obtain ⟨_, e, _⟩ := hI; exact Heap.lt_size e
 refine call_all_walk (wpAny_pyIter_list hI ?_)
 refine ⟨s.heap.objs.size, [s.heap.objs.size, p], [s.heap.objs.size], its.toArray.size, _, _, fun i => (bs[i]?).getD true, rfl, Walks.list (A := X.A.in1) (I.ok.hd hc) _ p (Nat.ne_of_lt hlt) its.toArray,
  ⟨⟨_, Heap.get?_push_size _ rfl, rfl, rfl⟩, hI.push _⟩, fun i v s' Q' E' hP hQ => ?_, fun h' tk hk => ?_⟩
 ·obtain ⟨b, e, rfl⟩ := mqH vs i v (by simpa using hP)
  simp only [e, Option.getD_some] at hQ
  exact wpAny_truthy_bool hQ
 ·have hbl := vs.length
  rw [List.length_map] at hbl
  have e : ((List.range its.toArray.size).all fun i => (bs[i]?).getD true) = bs.all id := by
   rw [List.size_toArray, ← hbl]; exact PyProof.Rows.LSm.range_all bs
  exact ⟨.bl _, H, I.kept (t' := tk) (PyProof.Rows.LSm.kept_iter hk), rfl, by rw [e]; exact q⟩
variable {K : PySem.W.Frag}
theorem iql (h : X.K = K) (hc : X.calm = true) : CallR X (.builtin "all") (rAllB K) := by subst h; exact lq4 hc
def rListU (K : PySem.W.Frag) : List V → Hp → VK → Prop := fun xs H Q => ∃ p ys, xs = [.ref p] ∧ (SqL K H p ys ∨ SqT K H p ys) ∧ ∀ l, H l = none → Q (.ref l) (upd H l (.lst ys))
def rTupleU (K : PySem.W.Frag) : List V → Hp → VK → Prop := fun xs H Q => ∃ p ys, xs = [.ref p] ∧ ((SqL K H p ys ∧ ∀ l, H l = none → Q (.ref l) (upd H l (.tup ys))) ∨ (SqT K H p ys ∧ Q (.ref p) H))
theorem hqu {tg l : Expr} {tl : TE} (h : X.K = K) (hl : PE X l tl) : PI X tg l (iTup K tl) := by subst h; exact pqJ hl
end
section
variable {H : Hp} {Q : VK} {K : PySem.W.Frag}
theorem oqv {x : V} {T : String} : (rIsiU [x, .ty T] H Q) = (∃ k, kindV x H = some k ∧ T ∈ ["bool", "int", "str", "list", "tuple"] ∧ Q (.bl (subT k T)) H) := rfl
theorem mqf : kindV .non H = some "NoneType" := rfl
theorem oqm {b : Bool} : kindV (.bl b) H = some "bool" := rfl
theorem mq3 {i : Int} : kindV (.int i) H = some "int" := rfl
theorem mq2 {x : Str} : kindV (.str x) H = some "str" := rfl
theorem fqM {p : Addr} {xs : List V} (h : H p = some (.lst xs)) : kindV (.ref p) H = some "list" := by simp only [kindV, h]
theorem fqD {p : Addr} {xs : List V} (h : H p = some (.tup xs)) : kindV (.ref p) H = some "tuple" := by simp only [kindV, h]
theorem lqL : ("bool" ∈ ["bool", "int", "str", "list", "tuple"]) = True := by simp
theorem nqf : ("int" ∈ ["bool", "int", "str", "list", "tuple"]) = True := by simp
theorem mq4 : ("str" ∈ ["bool", "int", "str", "list", "tuple"]) = True := by simp
theorem lqE : ("list" ∈ ["bool", "int", "str", "list", "tuple"]) = True := by simp
theorem kqs : ("tuple" ∈ ["bool", "int", "str", "list", "tuple"]) = True := by simp
theorem fqc : subT "NoneType" "bool" = false := by decide
theorem fqA : subT "NoneType" "int" = false := by decide
theorem fqC : subT "NoneType" "str" = false := by decide
theorem fqb : subT "NoneType" "list" = false := by decide
theorem eqs : subT "NoneType" "tuple" = false := by decide
theorem hqB : subT "bool" "bool" = true := by decide
theorem iqh : subT "bool" "int" = true := by decide
theorem iqW : subT "bool" "str" = false := by decide
theorem hqN : subT "bool" "list" = false := by decide
theorem gqy : subT "bool" "tuple" = false := by decide
theorem iqg : subT "int" "bool" = false := by decide
theorem jqe : subT "int" "int" = true := by decide
theorem jqc : subT "int" "str" = false := by decide
theorem iqn : subT "int" "list" = false := by decide
theorem hqq : subT "int" "tuple" = false := by decide
theorem iqr : subT "str" "bool" = false := by decide
theorem jqa : subT "str" "int" = false := by decide
theorem iqZ : subT "str" "str" = true := by decide
theorem iqP : subT "str" "list" = false := by decide
theorem hqM : subT "str" "tuple" = false := by decide
theorem hqQ : subT "list" "bool" = false := by decide
theorem iqv : subT "list" "int" = false := by decide
theorem iqb : subT "list" "str" = false := by decide
theorem hq0 : subT "list" "list" = true := by decide
theorem gqC : subT "list" "tuple" = false := by decide
theorem gqD : subT "tuple" "bool" = false := by decide
theorem hqF : subT "tuple" "int" = false := by decide
theorem hqZ : subT "tuple" "str" = false := by decide
theorem gqz : subT "tuple" "list" = false := by decide
theorem gqn : subT "tuple" "tuple" = true := by decide
theorem pqf {n : Nat} {t : TGs} {v : V} {σ : St} {R : St → Hp → Prop} : (gTup K n t v σ H R) = (∃ a xs, v = .ref a ∧ SqT K H a xs ∧ xs.length = n ∧ t xs σ H R) := rfl
theorem nqh {t : TG} {u : TGs} {vs : List V} {σ : St} {R : St → Hp → Prop} : (gCons t u vs σ H R) = (∃ v r, vs = v :: r ∧ t v σ H fun σ' H' => u r σ' H' R) := rfl
theorem oqi {vs : List V} {σ : St} {R : St → Hp → Prop} : (gNil vs σ H R) = (vs = [] ∧ R σ H) := rfl
theorem nqO {to ti : TE} {t : TSet} {v : V} {σ : St} {R : St → Hp → Prop} : (gSub to ti t v σ H R) = (to σ H fun o H1 => ti σ H1 fun i H2 => t o i v H2 fun H3 => R σ H3) := rfl
theorem oq8 {p : Addr} {k : Int} {v : V} {R : Hp → Prop} : rSetL (.ref p) (.int k) v H R ↔ ∃ xs j, H p = some (.lst xs) ∧ ixN xs.length k = some j ∧ R (upd H p (.lst (xs.set j v))) := by
 constructor
 ·rintro ⟨p', xs, k', j, h1, h2, h3⟩; cases h1; cases h2; exact ⟨xs, j, h3⟩
 ·rintro ⟨xs, j, h⟩; exact ⟨p, xs, k, j, rfl, rfl, h⟩
end
section
variable {X : Cx} {K : PySem.W.Frag}
theorem iq5 {es : List Expr} {k : Nat} {t : TGs} {n : Nat} {pos : Pos} (h : X.K = K) (hc : X.calm = true) (hg : PGs X es t)
  (hn : (assignEach es X.env).length = n := by rfl) (hst : (assignEach es X.env).findIdx? (·.1) = none := by rfl) : PG X (.Tuple es k pos) (gTup K n t) := by
 subst h; exact nqz hc hg hn hst
end
def SameBut (p : Addr) (H H' : Hp) : Prop := ∀ b o, b ≠ p → H b = some o → H' b = some o
theorem SameBut.refl (p : Addr) (H : Hp) : SameBut p H H := fun _ _ _ e => e
theorem SameBut.trans {p : Addr} {H H' H'' : Hp} (h : SameBut p H H') (h' : SameBut p H' H'') : SameBut p H H'' := fun b o n e => h' b o n (h b o n e)
theorem Same.but {p : Addr} {H H' : Hp} (h : Same H H') : SameBut p H H' := fun b o _ e => h b o e
theorem dq5 {p : Addr} {H : Hp} {o : HO} : SameBut p H (upd H p o) := fun b u n e => by rw [aqj n]; exact e
theorem SameBut.same {p : Addr} {H H' : Hp} (h : SameBut p H H') (hp : H p = none) : Same H H' := fun b o e => h b o (aqh e hp) e
section
variable {p : Addr} {fv : St} {te : TE} {Q : VK} {H1 : Hp} {K : PySem.W.Frag}
theorem Same.tup {H H' : Hp} {a : Addr} {xs : List V} (e : Same H H') (h : SqT K H a xs) : SqT K H' a xs := by
 rcases h with (h | ⟨o, h⟩) | h
 ·exact .inl (.inl (e _ _ h))
 ·exact .inl (.inr ⟨o, e _ _ h⟩)
 ·exact .inr h
theorem jq8 {a : Addr} {xs zs : List V} (hxs : SqL K H1 a xs) (hlen : xs.length ≤ sizeLine) (hp : H1 p = none) (hz : zs.length = xs.length)
  (he : ∀ (i : Nat) (x z : V), xs[i]? = some x → zs[i]? = some z → ∀ (H' : Hp) (T : VK), Same H1 H' → (∀ H'', Same H' H'' → T z H'') → te (some x :: fv) H' T)
  (hQ : ∀ H', Same H1 H' → H' p = some (.lst zs) → Q (.ref p) H') : CompI (Itl K a) p fv tYes te Q H1 := by
 refine ⟨fun i m ys H2 => m = xs.length - i ∧ i ≤ xs.length ∧ ys = zs.take i ∧ H2 p = some (.lst ys) ∧ Same H1 H2, ⟨xs.length, by simp, Nat.zero_le _, by simp, aqk, fun b o e => by rw [aqj (aqh e hp)]; exact e⟩, ?_⟩
 rintro i m ys H2 ⟨rfl, hi, rfl, hp2, sm⟩
 refine ⟨hp2, ?_⟩
 have q := sm.seq hxs
 by_cases hlt : i < xs.length
 ·refine .inr ⟨⟨xs, xs[i], q, by simp [hlt]⟩, ?_, fun x H3 y => ?_⟩
  ·rw [List.length_take]; lia
  ·obtain ⟨rfl, y⟩ := y
   have hc := y xs q
   have hzi : zs[i]? = some zs[i] := List.getElem?_eq_getElem (by lia)
   unfold tYes
   dsimp only
   rw [if_pos rfl]
   refine he i x _ hc hzi _ _ sm fun H5 s5 => ⟨s5 _ _ hp2, xs.length - (i + 1), by lia, rfl, hlt, ?_, aqk, fun b o e => ?_⟩
   ·rw [List.take_add_one, hzi]; rfl
   ·rw [aqj (aqh e hp)]; exact s5 _ _ (sm _ _ e)
 ·have e : i = xs.length := by lia
  subst e
  refine .inl ⟨⟨xs, q, Nat.le_refl _⟩, hQ H2 sm ?_⟩
  rw [hp2, ← hz, List.take_length]
variable {σ : St} {H : Hp} {tl : TE} {tt : TT} {fr : List Nat} {g : TG} {tb : TS} {D : Ends}
theorem mqE : (tComp (iTup K tl) fr tt te σ H Q) = (tl σ H fun x H1 => ∃ a, x = .ref a ∧ (∃ xs, SqT K H1 a xs) ∧ ∀ p, H1 p = none → CompI (Itt K a) p (frV σ fr) tt te Q H1) := rfl
theorem pqa : (tFor (iTup K te) g tb D σ H) = (te σ H fun x H1 => ∃ a, x = .ref a ∧ (∃ xs, SqT K H1 a xs) ∧ LoopI (Itt K a) g tb D σ H1) := rfl
theorem lq9 {a : Addr} {xs : List V} (Pv : Nat → St → Hp → Prop) (h0 : Pv 0 σ H) (hl : ∀ i σ H, i ≤ xs.length → Pv i σ H → SqT K H a xs)
  (hs : ∀ i x σ H, xs[i]? = some x → Pv i σ H → g x σ H fun σ2 H2 => tb { D with nx := Pv (i + 1), ct := Pv (i + 1), bk := D.nx } σ2 H2) (hd : ∀ σ H, Pv xs.length σ H → D.nx σ H) : LoopI (Itt K a) g tb D σ H := oqt Pv h0 hl hs hd
theorem jqy {a : Addr} : rAllB K [.ref a] H Q ↔ ∃ bs : List Bool, SqL K H a (bs.map V.bl) ∧ Q (.bl (bs.all id)) H := by
 constructor
 ·rintro ⟨p, bs, h1, h2⟩; cases h1; exact ⟨bs, h2⟩
 ·rintro ⟨bs, h⟩; exact ⟨a, bs, rfl, h⟩
theorem nqU {a : Addr} : rAnyB K [.ref a] H Q ↔ ∃ bs : List Bool, SqL K H a (bs.map V.bl) ∧ Q (.bl (bs.any id)) H := by
 constructor
 ·rintro ⟨p, bs, h1, h2⟩; cases h1; exact ⟨bs, h2⟩
 ·rintro ⟨bs, h⟩; exact ⟨a, bs, rfl, h⟩
theorem qqe {a : Addr} : rListU K [.ref a] H Q ↔ ∃ ys, (SqL K H a ys ∨ SqT K H a ys) ∧ ∀ l, H l = none → Q (.ref l) (upd H l (.lst ys)) := by
 constructor
 ·rintro ⟨p, bs, h1, h2⟩; cases h1; exact ⟨bs, h2⟩
 ·rintro ⟨bs, h⟩; exact ⟨a, bs, rfl, h⟩
theorem pqB {a : Addr} : rTupleU K [.ref a] H Q ↔ ∃ ys, (SqL K H a ys ∧ ∀ l, H l = none → Q (.ref l) (upd H l (.tup ys))) ∨ (SqT K H a ys ∧ Q (.ref a) H) := by
 constructor
 ·rintro ⟨p, bs, h1, h2⟩; cases h1; exact ⟨bs, h2⟩
 ·rintro ⟨bs, h⟩; exact ⟨a, bs, rfl, h⟩
theorem nq8 {a : Addr} {lo hi : Option Int} : rSlT K (.ref a) lo hi H Q ↔ ∃ xs, SqT K H a xs ∧ ¬ (HT.sIx xs.length 0 lo = 0 ∧ HT.sIx xs.length xs.length hi = xs.length) ∧ ∀ p, H p = none → Q (.ref p) (upd H p (.tup (cutV xs lo hi))) := by
 constructor
 ·rintro ⟨p, bs, h1, h2⟩; cases h1; exact ⟨bs, h2⟩
 ·rintro ⟨bs, h⟩; exact ⟨a, bs, rfl, h⟩
end
def tCut (t u : TS) : TS := fun D σ H => ∃ P : St → Hp → Prop, t { D with nx := P } σ H ∧ ∀ σ' H', P σ' H' → u D σ' H'
section
variable {X : Cx} {st : Stmt} {rest : List Stmt} {t u : TS}
theorem aqN (h1 : PS X st t) (h2 : PSs X rest u) : PSs X (st :: rest) (tCut t u) := by
 intro pins s σ H D I h
 obtain ⟨P, h, hu⟩ := h
 refine wpAny_execs_cons (thn (h1 pins s σ H { D with nx := P } I h) fun f s1 q => ?_)
 cases f with
 | next =>
  obtain ⟨σ', H', I', q⟩ := q
  exact h2 pins s1 σ' H' D I' (hu _ _ q)
 | ret v => exact q
 | brk => exact q
 | cont => exact q
def Later (u : TS) (D : Ends) (σ : St) (H : Hp) : Prop := u D σ H
theorem mqj {D : Ends} {x : Option V} {σ : St} {H : Hp} : (Later u D (x :: σ) H) = (u D (x :: σ) H) := rfl
theorem pqz {D : Ends} {σ : St} {H : Hp} : (tCut t u D σ H) = (∃ P : St → Hp → Prop, t { D with nx := P } σ H ∧ ∀ σ' H', P σ' H' → Later u D σ' H') := rfl
end
theorem bqd {H : Hp} {p : Addr} {o : HO} (hp : H p = none) : Same H (upd H p o) := fun b u e => by rw [aqj (aqh e hp)]; exact e
def tTupS (t : TA) : TE := fun σ H Q => t σ H fun xs H1 => xs.length ≤ sizeLine ∧ ∀ p H', H1 p = none → Same H1 H' → H' p = some (.tup xs) → Q (.ref p) H'
def tLstS (t : TA) : TE := fun σ H Q => t σ H fun xs H1 => xs.length ≤ sizeLine ∧ ∀ p H', H1 p = none → Same H1 H' → H' p = some (.lst xs) → Q (.ref p) H'
section
variable {X : Cx} {es : List Expr} {t : TA} {pos : Pos} {K : PySem.W.Frag}
theorem aqL {x1} (h : PA X es t) : PE X (.Tuple es x1 pos) (tTupS t) := by
 intro pins s σ H Q I hq
 refine wpAny_Tuple_spliced (thn (h pos pins s σ H _ I hq) fun us s1 ⟨xs, H1, I1, r, z, q⟩ => ⟨by rw [← r.length]; exact z, ?_⟩)
 have hf : H1 s1.heap.objs.size = none := I1.hok.fresh (Nat.le_refl _)
 refine ⟨.ref s1.heap.objs.size, upd H1 s1.heap.objs.size (.tup xs), I1.laid (t' := s1.toks) (fun b u e => Heap.get?_push_of_some _ e) (Nat.le_refl _) ?_, rfl, q _ _ hf (bqd hf) aqk⟩
 exact ⟨z, us, r, ⟨_, Heap.get?_push_size _ rfl, rfl, _, rfl⟩⟩
theorem aqu (h : PA X es t) : PE X (.List es pos) (tLstS t) := by
 intro pins s σ H Q I hq
 refine wpAny_List_spliced (thn (h pos pins s σ H _ I hq) fun us s1 ⟨xs, H1, I1, r, z, q⟩ => ⟨by rw [← r.length]; exact z, ?_⟩)
 have hf : H1 s1.heap.objs.size = none := I1.hok.fresh (Nat.le_refl _)
 refine ⟨.ref s1.heap.objs.size, upd H1 s1.heap.objs.size (.lst xs), I1.laid (t' := s1.toks) (fun b u e => Heap.get?_push_of_some _ e) (Nat.le_refl _) ?_, rfl, q _ _ hf (bqd hf) aqk⟩
 exact ⟨z, us, 0, r, Heap.get?_push_size _ rfl⟩
def rAddS (K : PySem.W.Frag) : R2 := fun x y H Q => match x, y with
 | .int i, .int j => Q (.int (i + j)) H
 | .str i, .str j => i.length + j.length ≤ sizeLine ∧ Q (.str (i ++ j)) H
 | .ref a, .ref b => (∃ xs zs, H a = some (.lst xs) ∧ H b = some (.lst zs) ∧ xs.length + zs.length ≤ sizeLine ∧ ∀ p H', H p = none → Same H H' → H' p = some (.lst (xs ++ zs)) → Q (.ref p) H') ∨
   (∃ xs ys, H a = some (.tup xs) ∧ H b = some (.tup ys) ∧ xs.length + ys.length ≤ sizeLine ∧ ∀ p H', Same H H' → H' p = some (.tup (xs ++ ys)) → Q (.ref p) H')
 | _, _ => False
theorem aqm : OpR X (binaryOp .Add) (rAddS K) := by
 intro pins s σ H x y v u Q I rx ry h
 refine lqv pins s σ H x y v u Q I rx ry ?_
 cases x with
 | int i =>
  cases y with
  | int j => exact h
  | _ => exact h.elim
 | str i =>
  cases y with
  | str j => exact h
  | _ => exact h.elim
 | ref a =>
  cases y with
  | ref b =>
   rcases h with ⟨xs, zs, h1, h2, h3, h4⟩ | h
   ·exact .inl ⟨xs, zs, h1, h2, h3, fun p hp => h4 p _ hp (bqd hp) aqk⟩
   ·exact .inr h
  | _ => exact h.elim
 | _ => exact h.elim
def rListS (K : PySem.W.Frag) : List V → Hp → VK → Prop := fun xs H Q => ∃ p ys, xs = [.ref p] ∧ (SqL K H p ys ∨ SqT K H p ys) ∧ ∀ l H', H l = none → Same H H' → H' l = some (.lst ys) → Q (.ref l) H'
def rTupleS (K : PySem.W.Frag) : List V → Hp → VK → Prop := fun xs H Q => ∃ p ys, xs = [.ref p] ∧ (SqL K H p ys ∨ H p = some (.tup ys)) ∧ ∀ l H', Same H H' → H' l = some (.tup ys) → Q (.ref l) H'
theorem gqN (h : X.K = K) : CallR X (.type "list") (rListS K) := by
 subst h
 intro pins s σ H xs us Q I r h
 obtain ⟨p, ys, h1, h2, h3⟩ := h
 exact iqR pins s σ H xs us Q I r ⟨p, ys, h1, h2, fun l hl => h3 l _ hl (bqd hl) aqk⟩
theorem fq6 (h : X.K = K) : CallR X (.type "tuple") (rTupleS K) := by
 subst h
 intro pins s σ H xs us Q I r h
 obtain ⟨p, ys, h1, h2, h3⟩ := h
 rcases h2 with h2 | h2
 ·exact eqm pins s σ H xs us Q I r ⟨p, ys, h1, .inl ⟨h2, fun l hl => h3 l _ (bqd hl) aqk⟩⟩
 ·exact eqm pins s σ H xs us Q I r ⟨p, ys, h1, .inr ⟨SqT.of h2, h3 p H (Same.refl _) h2⟩⟩
def rSlS2 (K : PySem.W.Frag) : V → Option Int → Option Int → Hp → VK → Prop := fun x lo hi H Q => ∃ a xs, x = .ref a ∧ SqT K H a xs ∧
 ¬ (HT.sIx xs.length 0 lo = 0 ∧ HT.sIx xs.length xs.length hi = xs.length) ∧ ∀ p H', H p = none → Same H H' → H' p = some (.tup (cutV xs lo hi)) → Q (.ref p) H'
end
section
variable {σ : St} {H : Hp} {Q : VK} {K : PySem.W.Frag} {aa : TA}
theorem nq3 : (tTupS aa σ H Q) = (aa σ H fun xs H1 => xs.length ≤ sizeLine ∧ ∀ p H', H1 p = none → Same H1 H' → H' p = some (.tup xs) → Q (.ref p) H') := rfl
theorem nq9 : (tLstS aa σ H Q) = (aa σ H fun xs H1 => xs.length ≤ sizeLine ∧ ∀ p H', H1 p = none → Same H1 H' → H' p = some (.lst xs) → Q (.ref p) H') := rfl
theorem oqj {i j : Int} : (rAddS K (.int i) (.int j) H Q) = (Q (.int (i + j)) H) := rfl
theorem cqc {i j : Str} : (rAddS K (.str i) (.str j) H Q) = (i.length + j.length ≤ sizeLine ∧ Q (.str (i ++ j)) H) := rfl
theorem oqD {a : Addr} : rListS K [.ref a] H Q ↔ ∃ ys, (SqL K H a ys ∨ SqT K H a ys) ∧ ∀ l H', H l = none → Same H H' → H' l = some (.lst ys) → Q (.ref l) H' := by
 constructor
 ·rintro ⟨p, bs, h1, h2⟩; cases h1; exact ⟨bs, h2⟩
 ·rintro ⟨bs, h⟩; exact ⟨a, bs, rfl, h⟩
theorem oqW {a : Addr} : rTupleS K [.ref a] H Q ↔ ∃ ys, (SqL K H a ys ∨ H a = some (.tup ys)) ∧ ∀ l H', Same H H' → H' l = some (.tup ys) → Q (.ref l) H' := by
 constructor
 ·rintro ⟨p, bs, h1, h2⟩; cases h1; exact ⟨bs, h2⟩
 ·rintro ⟨bs, h⟩; exact ⟨a, bs, rfl, h⟩
theorem oqp {a : Addr} {lo hi : Option Int} : rSlS2 K (.ref a) lo hi H Q ↔ ∃ xs, SqT K H a xs ∧ ¬ (HT.sIx xs.length 0 lo = 0 ∧ HT.sIx xs.length xs.length hi = xs.length) ∧ ∀ p H', H p = none → Same H H' → H' p = some (.tup (cutV xs lo hi)) → Q (.ref p) H' := by
 constructor
 ·rintro ⟨p, bs, h1, h2⟩; cases h1; exact ⟨bs, h2⟩
 ·rintro ⟨bs, h⟩; exact ⟨a, bs, rfl, h⟩
end
def rSlLS (K : PySem.W.Frag) : V → Option Int → Option Int → Hp → VK → Prop := fun x lo hi H Q => ∃ a xs, x = .ref a ∧ SqL K H a xs ∧ ∀ p H', H p = none → Same H H' → H' p = some (.lst (cutV xs lo hi)) → Q (.ref p) H'
theorem bqz {X : Cx} {K : PySem.W.Frag} (h : X.K = K) : SlR X (rSlLS K) := by
 subst h
 intro pins s σ H x v vl vu lo hi sl Q I rx hs pl pu h
 obtain ⟨a, xs, h1, h2, h3⟩ := h
 exact nqB pins s σ H x v vl vu lo hi sl Q I rx hs pl pu ⟨a, xs, h1, h2, fun p hp => h3 p _ hp (bqd hp) aqk⟩
theorem nqa {K : PySem.W.Frag} {H : Hp} {Q : VK} {a : Addr} {lo hi : Option Int} : rSlLS K (.ref a) lo hi H Q ↔ ∃ xs, SqL K H a xs ∧ ∀ p H', H p = none → Same H H' → H' p = some (.lst (cutV xs lo hi)) → Q (.ref p) H' := by
 constructor
 ·rintro ⟨p, bs, h1, h2⟩; cases h1; exact ⟨bs, h2⟩
 ·rintro ⟨bs, h⟩; exact ⟨a, bs, rfl, h⟩
def rIsB (neg : Bool) : R2 := fun x y H Q => match x, y with
 | .bl b, .bl c => Q (.bl (if neg then !decide (b = c) else decide (b = c))) H
 | _, _ => False
theorem qq1 {b c : Bool} {H : Hp} {Q : VK} : (rIsB false (.bl b) (.bl c) H Q) = (Q (.bl (decide (b = c))) H) := rfl
end L2
namespace Wm
open PySem L2
def isSg (c : Nat) : Bool := decide (32 ≤ c) && decide (c ≤ 126) && !decide (c = 37)
def SG : List Nat := (List.range 127).filter isSg
def hexd (n : Nat) : Nat := if n < 10 then 48 + n else 87 + n
def fig (a : Nat) : Option Nat := if 48 ≤ a ∧ a ≤ 57 then some (a - 48) else if 97 ≤ a ∧ a ≤ 102 then some (a - 87) else if 65 ≤ a ∧ a ≤ 70 then some (a - 55) else none
abbrev one (c : Nat) : V := .str ⟨#[c]⟩
theorem nqq {c : Nat} : c ∈ SG ↔ isSg c = true := by
 unfold SG
 rw [List.mem_filter, List.mem_range]
 constructor
 ·exact fun h => h.2
 ·intro h
  refine ⟨?_, h⟩
  simp only [isSg, Bool.and_eq_true, decide_eq_true_eq] at h
  lia
theorem oqg {c : Nat} (h : isSg c = true) : 32 ≤ c ∧ c ≤ 126 ∧ c ≠ 37 := by
 simp only [isSg, Bool.and_eq_true, decide_eq_true_eq, Bool.not_eq_true', decide_eq_false_iff_not] at h
 lia
theorem nqu : SG.length = 94 := by decide +kernel
theorem pqP : Str.ofString "" = ⟨([] : List Nat).toArray⟩ := by decide +kernel
theorem cqI (l m : List Nat) : ((⟨l.toArray⟩ : Str) ++ (⟨m.toArray⟩ : Str)) = ⟨(l ++ m).toArray⟩ := by
 show Str.mk (l.toArray ++ m.toArray) = _
 simp
theorem fqU {l m : List Nat} : ((⟨l.toArray⟩ : Str) = ⟨m.toArray⟩) ↔ l = m := by
 constructor
 ·intro h; injection h with h; injection h
 ·rintro rfl; rfl
theorem bqG (l : List Nat) : (⟨l.toArray⟩ : Str).length = l.length := by simp [Str.length]
theorem mqA : Str.ofString "~" = ⟨[126].toArray⟩ := by decide +kernel
theorem hqT (l : List Nat) (m k : Int) (h0 : 0 < k) (h : k ≤ l.length) : ∃ a, a ∈ l ∧ atI l (m % k) = some a := by
 have h1 := Int.emod_nonneg m (show k ≠ 0 by lia)
 have h2 := Int.emod_lt_of_pos m h0
 have h3 : (m % k).toNat < l.length := by lia
 refine ⟨l[(m % k).toNat], List.getElem_mem _, ?_⟩
 have := aqn (xs := l) (j := (m % k).toNat) (v := l[(m % k).toNat]) (by simp [h3])
 rw [Int.toNat_of_nonneg h1] at this
 exact this
def isPl (c : Nat) : Bool := decide (48 ≤ c ∧ c ≤ 57) || decide (65 ≤ c ∧ c ≤ 90) || decide (97 ≤ c ∧ c ≤ 122) || decide (c = 45) || decide (c = 46) || decide (c = 95)
def wr1 (c : Nat) : List Nat := if isPl c then [c] else [126, hexd (c / 16), hexd (c % 16)]
def wr (l : List Nat) : List Nat := l.flatMap wr1
def sgO (a b : Nat) : Option Nat := match fig a, fig b with
 | some h, some l => if isSg (h * 16 + l) then some (h * 16 + l) else none
 | _, _ => none
theorem oqb {ns : List Int} {k : Nat} (h : k < ns.length) : atI (ns.map V.int) (k : Int) = some (.int (ns.getD k 0)) := by
 refine aqn ?_
 rw [List.getElem?_map, List.getElem?_eq_getElem h, List.getD_eq_getElem?_getD, List.getElem?_eq_getElem h]
 rfl
theorem aqv {n : Nat} (h : n ≤ 100000) : n ≤ sizeLine := Nat.le_trans h (by decide)
theorem oqL (f : Nat → Nat) (l : List Nat) : (l.toArray).map f = (l.map f).toArray := by simp
theorem nqG (l : List Nat) : (⟨l.toArray⟩ : Str).cps.toList = l := rfl
theorem nqP (xs : List V) (m k : Int) (h0 : 0 < k) (h : k ≤ xs.length) : ∃ a, a ∈ xs ∧ atI xs (m % k) = some a := by
 have h1 := Int.emod_nonneg m (show k ≠ 0 by lia)
 have h2 := Int.emod_lt_of_pos m h0
 have h3 : (m % k).toNat < xs.length := by lia
 refine ⟨xs[(m % k).toNat], List.getElem_mem _, ?_⟩
 have := aqn (xs := xs) (j := (m % k).toNat) (v := xs[(m % k).toNat]) (by simp [h3])
 rw [Int.toNat_of_nonneg h1] at this
 exact this
def hit (a b c : Nat) : Bool := decide ([hexd (c / 16), hexd (c % 16)] = [PyProof.Rows.lo1 a, PyProof.Rows.lo1 b])
mutual
def smallD : PyData → Bool
 | .str x => decide (x.length ≤ 100000)
 | .list xs => decide (xs.length ≤ 100000) && smallAll xs
 | .tuple xs => decide (xs.length ≤ 100000) && smallAll xs
 | .dict _ => true
 | .none => true
 | .bool _ => true
 | .int _ => true
def smallAll : List PyData → Bool
 | [] => true
 | d :: ds => smallD d && smallAll ds
end
theorem fqu : ∀ {ds : List PyData} {d : PyData}, smallAll ds = true → d ∈ ds → smallD d = true
 | e :: ds, d, h, hm => by
  simp only [smallAll, Bool.and_eq_true] at h
  rcases List.mem_cons.mp hm with rfl | hm
  ·exact h.1
  ·exact fqu h.2 hm
theorem fqW : ∀ {ds : List PyData}, (∀ d ∈ ds, smallD d = true) → smallAll ds = true
 | [], _ => rfl
 | d :: ds, h => by
  simp only [smallAll, Bool.and_eq_true]
  exact ⟨h d List.mem_cons_self, fqW fun e he => h e (List.mem_cons_of_mem _ he)⟩
theorem dqw {x : Str} (h : smallD (.str x) = true) : x.length ≤ 100000 := by simpa [smallD] using h
theorem iqG {ds : List PyData} (h : ds.length ≤ 100000) (h2 : smallAll ds = true) : smallD (.list ds) = true := by simp [smallD, h, h2]
def isLet (c : Nat) : Bool := decide (65 ≤ c ∧ c ≤ 90) || decide (97 ≤ c ∧ c ≤ 122)
def isAln (c : Nat) : Bool := isLet c || decide (48 ≤ c ∧ c ≤ 57)
theorem pqM : (Str.ofString " !\"#$&'()*+,-./0123456789:;<=>?@ABCDEFGHIJKLMNOPQRSTUVWXYZ[\\]^_`abcdefghijklmnopqrstuvwxyz{|}~").cps.toList = SG := by decide +kernel
theorem qqF (c : Nat) : (decide (c ∈ (Str.ofString " !\"#$&'()*+,-./0123456789:;<=>?@ABCDEFGHIJKLMNOPQRSTUVWXYZ[\\]^_`abcdefghijklmnopqrstuvwxyz{|}~").cps.toList)) = isSg c := by
 rw [pqM, Bool.eq_iff_iff, decide_eq_true_eq, nqq]
def tx : PyData → Bool
 | .str x => x.cps.toList.all isSg
 | _ => false
def ftx : PyData → Bool
 | .str x => x.cps.toList.all isSg && decide (0 < x.length)
 | _ => false
abbrev st (l : List Nat) : PyData := .str ⟨l.toArray⟩
def oD : Option (List Nat) → PyData
 | none => .none
 | some l => st l
def iD : Option Int → PyData
 | none => .none
 | some i => .int i
def qD : Option (List (List Nat × Option (List Nat))) → PyData
 | none => .none
 | some ps => .tuple (ps.map fun p => .tuple [st p.1, oD p.2])
structure Ad where
 scheme : List Nat
 house : Option (List Nat)
 door : Option Int
 rooted : Bool
 steps : List (List Nat)
 ends : Bool
 quest : Option (List (List Nat × Option (List Nat)))
 mark : Option (List Nat)
def Ad.way (x : Ad) : PyData := .tuple [.bool x.rooted, .tuple (x.steps.map st), .bool x.ends]
def Ad.data (x : Ad) : PyData := .tuple [st x.scheme, oD x.house, iD x.door, x.way, qD x.quest, oD x.mark]
def Tx (n : Nat) (l : List Nat) : Prop := l.length ≤ n ∧ ∀ c ∈ l, isSg c = true
structure Ad.Ok (x : Ad) : Prop where
 sch : x.scheme.length ≤ 8 ∧ (∀ c ∈ x.scheme, isAln c = true) ∧ ∀ c ∈ x.scheme.take 1, isLet c = true
 hou : ∀ l, x.house = some l → 0 < l.length ∧ Tx 60 l
 doo : ∀ i, x.door = some i → (0 ≤ i ∧ i ≤ 65535) ∧ x.house ≠ none
 stp : x.steps.length ≤ 50 ∧ ∀ l ∈ x.steps, 0 < l.length ∧ Tx 60 l
 roo : x.scheme ≠ [] ∨ x.house ≠ none → x.rooted = true
 end_ : x.steps = [] → x.ends = x.rooted
 que : ∀ ps, x.quest = some ps → ps.length ≤ 20 ∧ ∀ p ∈ ps, (0 < p.1.length ∧ Tx 6 p.1) ∧ ∀ v, p.2 = some v → Tx 6 v
 mar : ∀ l, x.mark = some l → Tx 60 l
theorem lqH (l : List Nat) : (⟨l.toArray⟩ : Str).length = l.length := bqG l
theorem pqq {l : List Nat} : ((⟨l.toArray⟩ : Str) = ⟨#[]⟩) ↔ l = [] := fqU (m := [])
def Bad (f : PyData → Bool) (H : Hp) (v : V) : Prop := ∃ d, Is H d v ∧ smallD d = true ∧ f d = false
def Bads (f : PyData → Bool) (H : Hp) (vs : List V) : Prop := ∀ v ∈ vs, Bad f H v
theorem Bads.cons {f : PyData → Bool} {H : Hp} {v : V} {vs : List V} (h : Bad f H v) (r : Bads f H vs) : Bads f H (v :: vs) := fun w hw => by
 rcases List.mem_cons.mp hw with rfl | hw
 ·exact h
 ·exact r w hw
theorem eqd {q : Addr} {H H' : Hp} {o : HO} (hq : H q = none) (sm : Same H H') : Same H (upd H' q o) := fun b u e => by
 rw [aqj (aqh e hq)]; exact sm _ _ e
def dg (i : Int) : List Nat := (Str.ofString (toString i)).cps.toList
theorem nqA {i : Int} (hi : 0 ≤ i) : ∀ c ∈ dg i, 48 ≤ c ∧ c ≤ 57 := by
 intro c hc
 obtain ⟨n, rfl⟩ := Int.eq_ofNat_of_zero_le hi
 unfold dg at hc
 rw [PySem.W.KIN.signs_num, List.mem_map] at hc
 obtain ⟨d, hd, rfl⟩ := hc
 have := Nat.isDigit_of_mem_toDigits (by decide) (by decide) hd
 simp only [Char.isDigit, Bool.and_eq_true, decide_eq_true_eq] at this
 exact ⟨this.1, this.2⟩
def Hd (p : Nat → Bool) (r : List Nat) : Prop := ∀ c r', r = c :: r' → p c = true
theorem Hd.cons {p : Nat → Bool} {c : Nat} {r : List Nat} (h : p c = true) : Hd p (c :: r) := fun d r' e => by injection e with e; exact e ▸ h
def tlT (sep : Nat) : List (List Nat) → List Nat
 | [] => []
 | s :: r => sep :: (s ++ tlT sep r)
def joinT (sep : Nat) : List (List Nat) → List Nat
 | [] => []
 | s :: r => s ++ tlT sep r
def oT (sep : Nat) : Option (List Nat) → List Nat
 | none => []
 | some l => sep :: wr l
def pairT (p : List Nat × Option (List Nat)) : List Nat := wr p.1 ++ oT 61 p.2
def queT : Option (List (List Nat × Option (List Nat))) → List Nat
 | none => []
 | some ps => 63 :: joinT 38 (ps.map pairT)
def wayT (r : Bool) (ss : List (List Nat)) (e : Bool) : List Nat := (if r then [47] else []) ++ (joinT 47 (ss.map wr) ++ (if e && !ss.isEmpty then [47] else []))
def dooT : Option Int → List Nat
 | none => []
 | some i => 58 :: dg i
def houT : Option (List Nat) → List Nat
 | none => []
 | some l => 47 :: 47 :: wr l
def schT (s : List Nat) : List Nat := if s = [] then [] else s ++ [58]
def Ad.wayT (x : Ad) : List Nat := Wm.wayT x.rooted x.steps x.ends
def Ad.shw (x : Ad) : List Nat := schT x.scheme ++ (houT x.house ++ (dooT x.door ++ (x.wayT ++ (queT x.quest ++ oT 35 x.mark))))
def PairOk (p : List Nat × Option (List Nat)) : Prop := (0 < p.1.length ∧ ∀ c ∈ p.1, isSg c = true) ∧ ∀ v, p.2 = some v → ∀ c ∈ v, isSg c = true
def StepOk (s : List Nat) : Prop := 0 < s.length ∧ ∀ c ∈ s, isSg c = true
structure Ad.Wf (x : Ad) : Prop where
 sch : x.scheme.length ≤ 8 ∧ (∀ c ∈ x.scheme, isAln c = true) ∧ ∀ c ∈ x.scheme.take 1, isLet c = true
 hou : ∀ l, x.house = some l → (0 < l.length ∧ l.length ≤ 60) ∧ ∀ c ∈ l, isSg c = true
 doo : ∀ i, x.door = some i → (0 ≤ i ∧ i ≤ 65535) ∧ x.house ≠ none
 stp : ∀ s ∈ x.steps, StepOk s
 roo : x.scheme ≠ [] ∨ x.house ≠ none → x.rooted = true
 end_ : x.steps = [] → x.ends = x.rooted
 que : ∀ ps, x.quest = some ps → ∀ p ∈ ps, PairOk p
 mar : ∀ l, x.mark = some l → ∀ c ∈ l, isSg c = true
def Ad.mid (x : Ad) : List Nat := houT x.house ++ (dooT x.door ++ x.wayT)
def Ad.pre (x : Ad) : List Nat := schT x.scheme ++ x.mid
def LayAt (n : Nat) (d : PyData) : Prop := d.canLay0 = true ∧ d.depth ≤ n
theorem LayAt.shaped {n : Nat} {d : PyData} (h : LayAt n d) (hn : n ≤ 64) : SeqAt.shaped d = true := by
 unfold SeqAt.shaped; rw [h.1, decide_eq_true (Nat.le_trans h.2 hn)]; rfl
theorem layAll {n : Nat} : ∀ {ds : List PyData}, (∀ d ∈ ds, LayAt n d) → PyData.canLayAll0 ds = true ∧ PyData.depthAll ds ≤ n
 | [], _ => ⟨rfl, Nat.zero_le _⟩
 | d :: ds, h => by
  obtain ⟨h1, h2⟩ := layAll (ds := ds) fun e he => h e (List.mem_cons_of_mem _ he)
  have := h d (List.mem_cons_self ..)
  simp only [PyData.canLayAll0, PyData.depthAll, this.1, h1, Bool.and_self, true_and]
  exact Nat.max_le.mpr ⟨this.2, h2⟩
theorem LayAt.tup {n : Nat} {ds : List PyData} (h : ∀ d ∈ ds, LayAt n d) : LayAt (n + 1) (.tuple ds) := by
 obtain ⟨h1, h2⟩ := layAll h
 exact ⟨by simp only [PyData.canLay0, h1], by simp only [PyData.depth]; lia⟩
theorem LayAt.st {l : List Nat} (h : ∀ c ∈ l, isSg c = true) : LayAt 0 (st l) := by
 refine ⟨?_, Nat.le_refl _⟩
 simp only [PyData.canLay0, PyData.strOk, List.all_toArray, List.all_eq_true, decide_eq_true_eq]
 intro c hc
 have := oqg (h c hc)
 lia
end Wm
namespace Wm
structure Ad.Sz (x : Ad) : Prop where
 stp : ∀ s ∈ x.steps, s.length ≤ 2000
 que : ∀ ps, x.quest = some ps → ps.length ≤ 2000 ∧ ∀ p ∈ ps, p.1.length ≤ 2000 ∧ ∀ v, p.2 = some v → v.length ≤ 2000
 mar : ∀ l, x.mark = some l → l.length ≤ 2000
 num : x.steps.length ≤ 2000
 all : x.shw.length ≤ 90000
end Wm
namespace Wm
open PySem L2
end Wm
namespace L2
open PySem
end L2
namespace Wm
open PySem L2
abbrev Stp := List Nat
def sUp : Stp := [46, 46]
def sStay : Stp := [46]
def isDot (s : Stp) : Bool := decide (s = sUp) || decide (s = sStay)
theorem gqf {s : Stp} : isDot s = false ↔ s ≠ sUp ∧ s ≠ sStay := by simp [isDot]
def fwd (r : Bool) (q : Nat × List Stp) (s : Stp) : Nat × List Stp :=
 if s = sUp then (match q.2 with | [] => (if r then q.1 else q.1 + 1, []) | _ :: t => (q.1, t))
 else if s = sStay then q else (q.1, s :: q.2)
def goneS (r : Bool) (ss : List Stp) : List Stp := List.replicate (ss.foldl (fwd r) (0, [])).1 sUp ++ (ss.foldl (fwd r) (0, [])).2.reverse
def lastDot (ss : List Stp) : Bool := match ss.getLast? with | some s => isDot s | none => false
def goneW (r : Bool) (ss : List Stp) (e : Bool) : Bool × List Stp × Bool :=
 if ss = [] then (r, [], e) else if goneS r ss = [] then (r, if r then [] else [sStay], true) else (r, goneS r ss, e || lastDot ss)
def stk (q : Nat × List Stp) : List Stp := List.replicate q.1 sUp ++ q.2.reverse
end Wm
namespace L2
open PySem PySem.Spec PyProof.Rows HT
section
variable {prog : Program} {w : World} {A : Around} {E : Value → Shared → Prop} {s : Shared}
end
section
variable {X : Cx} {K : PySem.W.Frag}
def rSlTA : V → Option Int → Option Int → Hp → VK → Prop := fun x lo hi H Q => ∃ a xs, x = .ref a ∧ H a = some (.tup xs) ∧ ∀ p H', Same H H' → H' p = some (.tup (cutV xs lo hi)) → Q (.ref p) H'
theorem mqX {a : Addr} {lo hi : Option Int} {H : Hp} {Q : VK} : rSlTA (.ref a) lo hi H Q ↔ ∃ xs, H a = some (.tup xs) ∧ ∀ p H', Same H H' → H' p = some (.tup (cutV xs lo hi)) → Q (.ref p) H' := by
 constructor
 ·rintro ⟨p, bs, h1, h2⟩; cases h1; exact ⟨bs, h2⟩
 ·rintro ⟨bs, h⟩; exact ⟨a, bs, rfl, h⟩
end
mutual
inductive IsK (K : PySem.W.Frag) (H : Hp) : PyData → V → Prop
 | non : IsK K H .none .non
 | bl (b : Bool) : IsK K H (.bool b) (.bl b)
 | int (i : Int) : IsK K H (.int i) (.int i)
 | str (x : Str) : IsK K H (.str x) (.str x)
 | tup {p : Addr} {xs : List V} {ds : List PyData} : SqT K H p xs → IsKAll K H ds xs → IsK K H (.tuple ds) (.ref p)
inductive IsKAll (K : PySem.W.Frag) (H : Hp) : List PyData → List V → Prop
 | nil : IsKAll K H [] []
 | cons {d : PyData} {x : V} {ds : List PyData} {xs : List V} : IsK K H d x → IsKAll K H ds xs → IsKAll K H (d :: ds) (x :: xs)
end
section
variable {K : PySem.W.Frag} {H H' : Hp}
mutual
theorem IsK.mono (sm : Same H H') : ∀ {d : PyData} {x : V}, IsK K H d x → IsK K H' d x
 | _, _, .non => .non
 | _, _, .bl b => .bl b
 | _, _, .int i => .int i
 | _, _, .str x => .str x
 | _, _, .tup h r => .tup (sm.tup h) (IsKAll.mono sm r)
theorem IsKAll.mono (sm : Same H H') : ∀ {ds : List PyData} {xs : List V}, IsKAll K H ds xs → IsKAll K H' ds xs
 | _, _, .nil => .nil
 | _, _, .cons h r => .cons (IsK.mono sm h) (IsKAll.mono sm r)
end
mutual
theorem IsT.k : ∀ {d : PyData} {x : V}, IsT H d x → IsK K H d x
 | _, _, .non => .non
 | _, _, .bl b => .bl b
 | _, _, .int i => .int i
 | _, _, .str x => .str x
 | _, _, .tup h r => .tup (SqT.of h) (IsTAll.k r)
theorem IsTAll.k : ∀ {ds : List PyData} {xs : List V}, IsTAll H ds xs → IsKAll K H ds xs
 | _, _, .nil => .nil
 | _, _, .cons h r => .cons (IsT.k h) (IsTAll.k r)
end
end
section
variable {X : Cx} {pins : List (Addr × Obj)} {σ : St} {H : Hp} {s : Shared}
mutual
theorem IsK.reads (I : Inv X pins σ H s) : ∀ {d : PyData} {x : V} {v : Value}, IsK X.K H d x → RelV x v → ∃ as, Reads s.heap v d as
 | _, _, _, .non, r => by cases r; exact ⟨_, .none⟩
 | _, _, _, .bl b, r => by cases r; exact ⟨_, .bool b⟩
 | _, _, _, .int i, r => by obtain ⟨t, rfl⟩ := r; exact ⟨_, .int i t⟩
 | _, _, _, .str x, r => by obtain ⟨t, rfl⟩ := r; exact ⟨_, .str x t⟩
 | _, _, _, .tup h q, r => by
  cases r
  obtain ⟨its, vs, ⟨o, e, c, n, dt⟩, _⟩ := I.tuple h
  obtain ⟨as, ra⟩ := IsKAll.reads I q vs
  exact ⟨_, .tuple e c dt (by simpa using ra)⟩
theorem IsKAll.reads (I : Inv X pins σ H s) : ∀ {ds : List PyData} {xs : List V} {vs : List Value}, IsKAll X.K H ds xs → Vals xs vs → ∃ as, ReadsAll s.heap vs ds as
 | _, _, _, .nil, r => by cases r; exact ⟨_, .nil⟩
 | _, _, _, .cons q t, r => by
  cases r with
  | cons r1 r2 =>
   obtain ⟨as, h1⟩ := IsK.reads I q r1
   obtain ⟨bs, h2⟩ := IsKAll.reads I t r2
   exact ⟨_, .cons h1 h2⟩
end
variable {K : PySem.W.Frag}
def rSlX (K : PySem.W.Frag) : V → Option Int → Option Int → Hp → VK → Prop := fun x lo hi H Q => ∃ a xs, x = .ref a ∧ SqT K H a xs ∧ ∀ p H', Same H H' → SqT K H' p (cutV xs lo hi) → Q (.ref p) H'
theorem oql {a : Addr} {lo hi : Option Int} {H : Hp} {Q : VK} : rSlX K (.ref a) lo hi H Q ↔ ∃ xs, SqT K H a xs ∧ ∀ p H', Same H H' → SqT K H' p (cutV xs lo hi) → Q (.ref p) H' := by
 constructor
 ·rintro ⟨p, bs, h1, h2⟩; cases h1; exact ⟨bs, h2⟩
 ·rintro ⟨bs, h⟩; exact ⟨a, bs, rfl, h⟩
def rCatX (K : PySem.W.Frag) : R2 := fun x y H Q => ∃ a b xs ys, x = .ref a ∧ y = .ref b ∧ SqT K H a xs ∧ SqT K H b ys ∧ xs.length + ys.length ≤ sizeLine ∧ ∀ p H', Same H H' → SqT K H' p (xs ++ ys) → Q (.ref p) H'
theorem mqK {a b : Addr} {H : Hp} {Q : VK} : rCatX K (.ref a) (.ref b) H Q ↔ ∃ xs ys, SqT K H a xs ∧ SqT K H b ys ∧ xs.length + ys.length ≤ sizeLine ∧ ∀ p H', Same H H' → SqT K H' p (xs ++ ys) → Q (.ref p) H' := by
 constructor
 ·rintro ⟨p, p', xs, ys, h1, h2, h3⟩; cases h1; cases h2; exact ⟨xs, ys, h3⟩
 ·rintro ⟨xs, ys, h⟩; exact ⟨a, b, xs, ys, rfl, rfl, h⟩
def KindK (K : PySem.W.Frag) (H : Hp) (x : V) (k : String) : Prop := kindV x H = some k ∨ ∃ a xs, x = .ref a ∧ SqT K H a xs ∧ k = "tuple"
theorem KindK.tup {K : PySem.W.Frag} {H : Hp} {a : Addr} {xs : List V} (h : SqT K H a xs) : KindK K H (.ref a) "tuple" := .inr ⟨a, xs, rfl, h, rfl⟩
def rIsiX (K : PySem.W.Frag) : List V → Hp → VK → Prop := fun vs H Q => match vs with
 | [x, .ty T] => ∃ k, KindK K H x k ∧ T ∈ ["bool", "int", "str", "list", "tuple"] ∧ Q (.bl (subT k T)) H
 | _ => False
theorem nqc {x : V} {T : String} {H : Hp} {Q : VK} : (rIsiX K [x, .ty T] H Q) = (∃ k, KindK K H x k ∧ T ∈ ["bool", "int", "str", "list", "tuple"] ∧ Q (.bl (subT k T)) H) := rfl
end
end L2
namespace Wm
open PySem L2
section
variable {K : PySem.W.Frag} {H : Hp}
end
end Wm
namespace L2
open PySem PySem.Spec PyProof.Rows
def pickV {α : Type} (xs : List α) (lo hi st : Option Int) : List α :=
 (sliceRange (sliceBounds lo hi st xs.length).1 (sliceBounds lo hi st xs.length).2.1 (sliceBounds lo hi st xs.length).2.2).filterMap fun i => xs[i]?
section
variable {X : Cx}
def tSl3 (K : PySem.W.Frag) (te : TE) (tl th ts : TO) : TE := fun σ H Q => te σ H fun x H1 => tl σ H1 fun l H2 => th σ H2 fun u H3 => ts σ H3 fun k H4 =>
 ∃ a xs, x = .ref a ∧ SqL K H4 a xs ∧ k ≠ some 0 ∧ (pickV xs l u k).length ≤ sizeLine ∧ ∀ p, H4 p = none → Q (.ref p) (upd H4 p (.lst (pickV xs l u k)))
end
theorem qqB {K : PySem.W.Frag} {te : TE} {tl th ts : TO} {σ : St} {H : Hp} {Q : VK} : tSl3 K te tl th ts σ H Q ↔ te σ H fun x H1 => tl σ H1 fun l H2 => th σ H2 fun u H3 => ts σ H3 fun k H4 =>
 ∃ a xs, x = .ref a ∧ SqL K H4 a xs ∧ k ≠ some 0 ∧ (pickV xs l u k).length ≤ sizeLine ∧ ∀ p, H4 p = none → Q (.ref p) (upd H4 p (.lst (pickV xs l u k))) := Iff.rfl
end L2
namespace Wm
open PySem L2
abbrev Way := Bool × List Stp × Bool
def Ad.w (x : Ad) : Way := (x.rooted, x.steps, x.ends)
def Ad.withWay (x : Ad) (w : Way) : Ad := { x with rooted := w.1, steps := w.2.1, ends := w.2.2 }
def goneV (w : Way) : Way := goneW w.1 w.2.1 w.2.2
def Ad.gone (x : Ad) : Ad := x.withWay (goneV x.w)
theorem qqi {l : Addr} {H : Hp} {Q : VK} : rReverse (.ref l) [] H Q ↔ ∃ xs, H l = some (.lst xs) ∧ Q .non (upd H l (.lst xs.reverse)) :=
 ⟨fun ⟨_, xs, e, _, h, q⟩ => by cases e; exact ⟨xs, h, q⟩, fun ⟨xs, h, q⟩ => ⟨l, xs, rfl, rfl, h, q⟩⟩
abbrev sV (l : List Nat) : V := .str ⟨l.toArray⟩
theorem eqW (ds : List PyData) : PyData.eqv (.list ds) (.list []) = ds.isEmpty := by
 cases ds <;> simp [PyData.eqv, PyData.eqvAll]
theorem jqb (s : Stp) : inV (sV s) [sV sStay, sV sUp] = isDot s := by
 have e : ∀ a : Stp, eqV (sV a) (sV s) = decide (s = a) := fun a => by
  show ((⟨a.toArray⟩ : Str) == ⟨s.toArray⟩) = decide (s = a)
  rw [Bool.eq_iff_iff, beq_iff_eq, decide_eq_true_eq, fqU]
  exact ⟨Eq.symm, Eq.symm⟩
 unfold inV isDot
 simp only [List.any_cons, List.any_nil, Bool.or_false, e]
 rw [Bool.or_comm]
end Wm
namespace L2
open PySem
theorem eq0 {X : Cx} {K : PySem.W.Frag} (h : X.K = K) : OpR X (compareOp .In) (rIn K false) := by subst h; exact lqp
theorem qqu {l : Addr} {H : Hp} {Q : VK} : rPop (.ref l) [] H Q ↔ ∃ xs y, H l = some (.lst xs) ∧ xs[xs.length - 1]? = some y ∧ Q y (upd H l (.lst xs.dropLast)) :=
 ⟨fun ⟨_, xs, y, h1, _, h3, h4, h5⟩ => by cases h1; exact ⟨xs, y, h3, h4, h5⟩, fun ⟨xs, y, h3, h4, h5⟩ => ⟨_, xs, y, rfl, rfl, h3, h4, h5⟩⟩
theorem mqv {D : Ends} {σ : St} {H : Hp} : (tNever D σ H) = (False) := rfl
end L2
namespace Wm
open PySem L2
structure Ad.Tiny (x : Ad) : Prop where
 stp : ∀ s ∈ x.steps, s.length ≤ 9
 que : ∀ ps, x.quest = some ps → ps.length ≤ 3 ∧ ∀ p ∈ ps, p.1.length ≤ 5 ∧ ∀ v, p.2 = some v → v.length ≤ 6
 mar : ∀ l, x.mark = some l → l.length ≤ 7
 hou : ∀ l, x.house = some l → l.length ≤ 13
end Wm
namespace Wm
end Wm
namespace Wm
open PySem L2
def cutA {α : Type} (xs : List α) (lo hi : Option Int) : List α := (xs.drop (HT.sIx xs.length 0 lo)).take (HT.sIx xs.length xs.length hi - HT.sIx xs.length 0 lo)
theorem jqQ {α : Type} (f : α → V) (xs : List α) (lo hi : Option Int) : cutV (xs.map f) lo hi = (cutA xs lo hi).map f := by
 unfold cutV cutA; rw [List.length_map, List.map_take, List.map_drop]
theorem mqU {α : Type} (xs : List α) (lo hi : Option Int) : (cutA xs lo hi).length ≤ xs.length := by
 unfold cutA; rw [List.length_take, List.length_drop]; lia
end Wm
namespace L2
open PySem
end L2
namespace Wm
open PySem L2
section
variable {H : Hp}
end
theorem Ad.Wf.local {x : Ad} (h : x.Wf) : ({ x with scheme := [], house := none, door := none } : Ad).Wf :=
 ⟨⟨Nat.zero_le _, (fun c hc => by cases hc), (fun c hc => by cases hc)⟩, (fun l e => by cases e), (fun l e => by cases e), h.stp, (fun z => z.elim (fun y => absurd rfl y) (fun y => absurd rfl y)), h.end_, h.que, h.mar⟩
def Goods (n : Nat) (H : Hp) (vs : List V) : Prop := ∀ v ∈ vs, ∃ x : Ad, x.Wf ∧ x.steps.length ≤ n ∧ IsT H x.data v
theorem Goods.cons {n : Nat} {H : Hp} {v : V} {vs : List V} {x : Ad} (h1 : x.Wf) (h2 : x.steps.length ≤ n) (h3 : IsT H x.data v) (h : Goods n H vs) : Goods n H (v :: vs) := fun u hu => by
 rcases List.mem_cons.mp hu with rfl | hu
 ·exact ⟨x, h1, h2, h3⟩
 ·exact h u hu
end Wm
namespace L2
open PySem PySem.Spec PyProof.Rows
theorem qqQ {b c : Bool} {H : Hp} {Q : VK} : (rIsB true (.bl b) (.bl c) H Q) = (Q (.bl (!decide (b = c))) H) := rfl
end L2
namespace Wm
open PySem L2
structure GoodAd (n : Nat) (x : Ad) : Prop where
 wf : x.Wf
 ti : x.Tiny
 sc : x.scheme ≠ []
 ln : x.steps.length ≤ n
end Wm
namespace L2
open PySem PySem.Spec PyProof.Rows
section
variable {prog : Program} {w : World} {A : Around} {E : Value → Shared → Prop} {s : Shared}
end
def Itv (K : PySem.W.Frag) (a : Addr) (n : Nat) : It :=
 ⟨fun i H => ∃ xs x, SqT K H a xs ∧ xs.length = n ∧ i < n ∧ xs[n - 1 - i]? = some x, fun i H x H' => H' = H ∧ ∀ xs, SqT K H a xs → xs.length = n → xs[n - 1 - i]? = some x, fun i _ => n ≤ i⟩
section
variable {X : Cx} {tg : Expr} {K : PySem.W.Frag}
def iRev (K : PySem.W.Frag) (ta : TA) : TI := fun σ H R => ta σ H fun vs H1 => ∃ a xs, vs = [.ref a] ∧ SqT K H1 a xs ∧ R (Itv K a xs.length) H1
variable {σ : St} {H : Hp} {D : Ends} {g : TG} {tb : TS} {aa : TA}
theorem nqY : (tFor (iRev K aa) g tb D σ H) = (aa σ H fun vs H1 => ∃ a xs, vs = [.ref a] ∧ SqT K H1 a xs ∧ LoopI (Itv K a xs.length) g tb D σ H1) := rfl
end
section
variable {X : Cx}
def rRepT : R2 := fun x y H Q => ∃ a k xs, x = .ref a ∧ y = .int k ∧ H a = some (.tup xs) ∧ 2 ≤ k ∧ k < 1000 ∧ xs.length * k.toNat ≤ sizeLine ∧ ∀ p H', Same H H' → H' p = some (.tup (List.replicate k.toNat xs).flatten) → Q (.ref p) H'
theorem mqs {a : Addr} {k : Int} {H : Hp} {Q : VK} : rRepT (.ref a) (.int k) H Q ↔ ∃ xs, H a = some (.tup xs) ∧ 2 ≤ k ∧ k < 1000 ∧ xs.length * k.toNat ≤ sizeLine ∧ ∀ p H', Same H H' → H' p = some (.tup (List.replicate k.toNat xs).flatten) → Q (.ref p) H' := by
 constructor
 ·rintro ⟨a', k', xs, h1, h2, h⟩; cases h1; cases h2; exact ⟨xs, h⟩
 ·rintro ⟨xs, h⟩; exact ⟨a, k, xs, rfl, rfl, h⟩
def rRepS : R2 := fun x y H Q => ∃ l k xs, x = .ref l ∧ y = .int k ∧ H l = some (.lst xs) ∧ 0 ≤ k ∧ k < 1000000 ∧ xs.length * k.toNat ≤ sizeLine ∧ ∀ p H', H p = none → Same H H' → H' p = some (.lst (List.replicate k.toNat xs).flatten) → Q (.ref p) H'
theorem mqF {a : Addr} {k : Int} {H : Hp} {Q : VK} : rRepS (.ref a) (.int k) H Q ↔ ∃ xs, H a = some (.lst xs) ∧ 0 ≤ k ∧ k < 1000000 ∧ xs.length * k.toNat ≤ sizeLine ∧ ∀ p H', H p = none → Same H H' → H' p = some (.lst (List.replicate k.toNat xs).flatten) → Q (.ref p) H' := by
 constructor
 ·rintro ⟨a', k', xs, h1, h2, h⟩; cases h1; cases h2; exact ⟨xs, h⟩
 ·rintro ⟨xs, h⟩; exact ⟨a, k, xs, rfl, rfl, h⟩
end
section
variable {X : Cx}
def rRepN : R2 := fun x y H Q => ∃ a k xs, x = .ref a ∧ y = .int k ∧ H a = some (.tup xs) ∧ 0 ≤ k ∧ k < 1000 ∧ xs.length * k.toNat ≤ sizeLine ∧ ∀ p H', Same H H' → H' p = some (.tup (List.replicate k.toNat xs).flatten) → Q (.ref p) H'
theorem mqc {a : Addr} {k : Int} {H : Hp} {Q : VK} : rRepN (.ref a) (.int k) H Q ↔ ∃ xs, H a = some (.tup xs) ∧ 0 ≤ k ∧ k < 1000 ∧ xs.length * k.toNat ≤ sizeLine ∧ ∀ p H', Same H H' → H' p = some (.tup (List.replicate k.toNat xs).flatten) → Q (.ref p) H' := by
 constructor
 ·rintro ⟨a', k', xs, h1, h2, h⟩; cases h1; cases h2; exact ⟨xs, h⟩
 ·rintro ⟨xs, h⟩; exact ⟨a, k, xs, rfl, rfl, h⟩
end
section
variable {X : Cx}
def intsV (lo : Int) (n : Nat) : List V := (List.range n).map fun k => .int (lo + (k : Nat))
def tLR (ta : TA) : TE := fun σ H Q => ta σ H fun vs H1 => ∃ j : Int, vs = [.int j] ∧ 0 ≤ j ∧ j ≤ 1000000 ∧ ∀ p, H1 p = none → Q (.ref p) (upd H1 p (.lst (intsV 0 j.toNat)))
end
theorem qqZ {ta : TA} {σ : St} {H : Hp} {Q : VK} : (tLR ta σ H Q) = (ta σ H fun vs H1 => ∃ j : Int, vs = [.int j] ∧ 0 ≤ j ∧ j ≤ 1000000 ∧ ∀ p, H1 p = none → Q (.ref p) (upd H1 p (.lst (intsV 0 j.toNat)))) := rfl
end L2
namespace L2
open PySem
section
variable {p : Addr} {fv : St} {tt : TT} {te : TE} {Q : VK} {H1 : Hp} {K : PySem.W.Frag}
end
end L2
namespace L2
open PySem PySem.Spec PyProof.Rows
section
variable {X : Cx} {pins : List (Addr × Obj)} {σ : St} {H1 : Hp} {s3 : Shared} {x x2 : Str} {fx : List Str} {fr : List Nat} {scope : Scope} {cl : List (Str × Addr)} {fp : List Addr}
theorem mqm (I : Inv X pins σ H1 s3) (hkind : scope.kind = .function) (hcl : ∀ y c, cl.lookup y = some c → X.env.cells.lookup y = some c)
  (F : Frees X (relabel scope X.env) cl fx fr) (hfx : ((relabel scope X.env).names.all fun p => if (p.2 == .cell || p.2 == .free) then fx.contains p.1 else true) = true)
  (ffp : ∀ b ∈ fp, FpOk X pins H1 b) (flt : ∀ b ∈ fp, b < s3.heap.objs.size) : (compCx X (x :: x2 :: fx) scope cl s3 H1 fp).Ok where
 mod := I.ok.mod
 kind := hkind
 glob := I.ok.glob
 blt := I.ok.blt
 above := Nat.le_refl _
 inj := fun y z c h1 h2 => I.ok.inj y z c (hcl y c h1) (hcl z c h2)
 has := fun y h => by
  have h : (relabel scope X.env).names.lookup y = some .cell ∨ (relabel scope X.env).names.lookup y = some .free := h
  have key : y ∈ fx := by
   rcases h with h | h
   ·have q := List.all_eq_true.mp hfx _ (PySem.mem_of_lookup h)
    simpa using q
   ·have q := List.all_eq_true.mp hfx _ (PySem.mem_of_lookup h)
    simpa using q
  obtain ⟨k1, k2⟩ := F.mem y key
  obtain ⟨c, e⟩ := I.ok.has y (.inl k1)
  exact ⟨c, k2.trans e⟩
 cab := fun y c h => by cases (show false = true from h)
 hd := I.ok.hd
 frames := I.ok.frames
 stk := .inl rfl
 exf := fun b hb => ⟨Nat.ne_of_lt (flt b hb), fun y c e => (ffp b hb).2.2.2.2.1 y c (hcl y c e)⟩
 bs := I.bs
 bsz := Nat.le_trans I.ok.bsz I.sz
 noex := fun b o e hb => by
  rcases (ffp b hb).2.2.2.1 with z | z
  ·exact I.ok.noex b o e z
  ·exact absurd (Nat.lt_of_lt_of_le (Heap.lt_size (I.ok.bs b o e).1) z) (Nat.lt_irrefl _)
 exfs := fun b hb z => by
  rcases List.mem_cons.mp (I.stkSub b z) with q | q
  ·exact (ffp b hb).2.1 q
  ·exact (ffp b hb).2.2.1 q
 funs := I.stack
 frf := I.stkFree
theorem jqk (I : Inv X pins σ H1 s3) (hkind : scope.kind = .function) (hcl : ∀ y c, cl.lookup y = some c → X.env.cells.lookup y = some c)
  (F : Frees X (relabel scope X.env) cl fx fr) (hfx : ((relabel scope X.env).names.all fun p => if (p.2 == .cell || p.2 == .free) then fx.contains p.1 else true) = true)
  (ffp : ∀ b ∈ fp, FpOk X pins H1 b) (flt : ∀ b ∈ fp, b < s3.heap.objs.size) {h1 : Heap} {t : Nat} {m : Str → Option Value} (hn : h1.Ns s3.heap.objs.size m)
  (keep : ∀ b u, s3.heap.get? b = some u → h1.get? b = some u) : Inv (compCx X (x :: x2 :: fx) scope cl s3 H1 fp) [] (none :: none :: frV σ fr) H1 { s3 with heap := h1, toks := t } := by
 refine ⟨mqm I hkind hcl F hfx ffp flt, rfl, I.bare, Un.kept keep, ⟨m, hn, fun i y v e1 e2 e3 => ?_⟩, fun y c e => ?_, I.hok.fresh (Nat.le_refl _), fun y c e => I.freeC y c (hcl y c e), fun p hp => absurd (show p ∈ ([] : List (Addr × Obj)) from hp) (by simp), I.hok.kept keep, ?_⟩
 ·cases i with
  | zero => simp at e2
  | succ j =>
   cases j with
   | zero => simp at e2
   | succ j =>
    obtain ⟨i0, k1, k2, k3, k4, k5⟩ := F.at (σ := σ) j y v (by simpa [compCx] using e1) (by simpa using e2)
    obtain ⟨m0, hn0, hl0⟩ := I.loc
    obtain ⟨u, r, l⟩ := hl0 i0 y v k1 k2 (.inr (.inl k3))
    refine ⟨u, r, ?_⟩
    rcases l with ⟨z, _⟩ | ⟨_, c, e, o, ho, hd⟩
    ·rw [k3] at z; cases z
    ·exact .inr ⟨.inl k4, c, k5.trans e, o, keep c o ho, hd⟩
 ·obtain ⟨v, o, ho, hd⟩ := I.cell y c (hcl y c e)
  exact ⟨v, o, keep c o ho, hd⟩
 ·show (none :: none :: frV σ fr).length = (x :: x2 :: fx).length
  simp [frV, F.len]
end
def CompI2 (K : PySem.W.Frag) (J : It) (p : Addr) (fv : St) (tt : TT) (te : TE) (Q : VK) (H1 : Hp) : Prop :=
 ∃ W : Nat → Nat → List V → Hp → Prop, (∃ m, W 0 m [] (upd H1 p (.lst []))) ∧ ∀ i m ys H2, W i m ys H2 → H2 p = some (.lst ys) ∧
  ((J.stop i H2 ∧ Q (.ref p) H2) ∨ (J.go i H2 ∧ ys.length < sizeLine ∧ ∀ z H3, J.yld i H2 z H3 → ∃ a x y, z = .ref a ∧ SqT K H3 a [x, y] ∧ tt (some x :: some y :: fv) H3 fun b H4 =>
   if b = true then te (some x :: some y :: fv) H4 fun y H5 => H5 p = some (.lst ys) ∧ ∃ m', m' < m ∧ W (i + 1) m' (ys ++ [y]) (upd H5 p (.lst (ys ++ [y])))
   else ∃ m', m' < m ∧ W (i + 1) m' ys H4))
def tComp2 (K : PySem.W.Frag) (wi : TI) (fr : List Nat) (tt : TT) (te : TE) : TE := fun σ H Q => wi σ H fun J H1 => ∀ p, H1 p = none → CompI2 K J p (frV σ fr) tt te Q H1
section
variable {X : Cx} {elt iter : Expr} {x x2 : Str} {px px2 ptx pos : Pos} {kx : Nat} {ifs : List Expr} {scope : Scope} {cl : List (Str × Addr)} {fx : List Str} {fr : List Nat} {wi : TI} {tt : TT} {te : TE}
theorem jqt {pins : List (Addr × Obj)} {σ : St} {H3 : Hp} {s3 : Shared} {it p : Addr} {fp : List Addr} {tn : Nat → Heap → Prop} {J : It} {Q : VK} {W : Nat → Nat → List V → Hp → Prop} {m0 t : Nat} {h₁ : Heap} {m : Str → Option Value} {RR : Result → Shared → Prop}
  (hc : X.calm = true) (hkind : scope.kind = .function) (hx : scope.names.lookup x = some .local) (hx2 : scope.names.lookup x2 = some .local) (hnd : (x :: x2 :: fx).Nodup)
  (hcl : ∀ y c, cl.lookup y = some c → X.env.cells.lookup y = some c) (F : Frees X (relabel scope X.env) cl fx fr)
  (hfx : ((relabel scope X.env).names.all fun p => if (p.2 == .cell || p.2 == .free) then fx.contains p.1 else true) = true)
  (ht : ∀ s H fp, PF (compCx X (x :: x2 :: fx) scope cl s H fp) ifs tt) (he : ∀ s H fp, PE (compCx X (x :: x2 :: fx) scope cl s H fp) elt te)
  (I3 : Inv X pins σ H3 s3) (T : Turn X.prog X.w X.K (.Tuple [.Name x px, .Name x2 px2] kx ptx) J fp it tn) (st3 : tn 0 s3.heap) (ffp : ∀ b ∈ fp, FpOk X pins H3 b) (flt3 : ∀ b ∈ fp, b < s3.heap.objs.size)
  (w0 : W 0 m0 [] H3) (turn : ∀ i m ys H2, W i m ys H2 → H2 p = some (.lst ys) ∧
   ((J.stop i H2 ∧ Q (.ref p) H2) ∨ (J.go i H2 ∧ ys.length < sizeLine ∧ ∀ z H3, J.yld i H2 z H3 → ∃ a x y, z = .ref a ∧ SqT X.K H3 a [x, y] ∧ tt (some x :: some y :: frV σ fr) H3 fun b H4 =>
    if b = true then te (some x :: some y :: frV σ fr) H4 fun y H5 => H5 p = some (.lst ys) ∧ ∃ m', m' < m ∧ W (i + 1) m' (ys ++ [y]) (upd H5 p (.lst (ys ++ [y])))
    else ∃ m', m' < m ∧ W (i + 1) m' ys H4)))
  (hns : h₁.Ns s3.heap.objs.size m) (keep1 : ∀ b u, s3.heap.get? b = some u → h₁.get? b = some u)
  (fin : ∀ s6 H5 o o2, Inv (compCx X (x :: x2 :: fx) scope cl s3 H3 fp) [] (o :: o2 :: frV σ fr) H5 s6 → Q (.ref p) H5 → RR (.ok .next) s6) :
  codeAny (model X.prog X.w) X.A (.compStart (.ListComp elt [⟨.Tuple [.Name x px, .Name x2 px2] kx ptx, iter, ifs, 0⟩] scope pos) 0 (.ref it) (.ref p) (compEnvC scope cl s3.heap.objs.size X.env))
   RR { s3 with heap := h₁, toks := t } := by
 have I4 := jqk (x := x) (x2 := x2) (t := t) I3 hkind hcl F hfx ffp flt3 hns keep1
 have st4 : tn 0 h₁ := T.keep _ _ _ st3 fun b hb o e => keep1 b o e
 have fp0 : ∀ b ∈ fp, H3 b = none := fun b hb => (ffp b hb).1
 have hcal : (compCx X (x :: x2 :: fx) scope cl s3 H3 fp).calm = true := hc
 have stat : ∀ {H' : Hp}, (∀ b ∈ fp, H' b = none) → ∀ b ∈ fp, FpOk (compCx X (x :: x2 :: fx) scope cl s3 H3 fp) [] H' b := fun {H'} hn b hb => by
  obtain ⟨f0, f1, f2, f3, f4, f5⟩ := ffp b hb
  exact ⟨hn b hb, Nat.ne_of_lt (flt3 b hb), I4.ok.exfs b hb, .inl hb, fun y c e => f4 y c (hcl y c e), fun q hq => absurd (show q ∈ ([] : List (Addr × Obj)) from hq) (by simp)⟩
 have hxl : (relabel scope X.env).names.lookup x = some .local := lookup_relabel_local hx
 have hxl2 : (relabel scope X.env).names.lookup x2 = some .local := lookup_relabel_local hx2
 have pg : PG (compCx X (x :: x2 :: fx) scope cl s3 H3 fp) (.Tuple [.Name x px, .Name x2 px2] kx ptx) (gTup X.K 2 (gCons (gName 0) (gCons (gName 1) gNil))) := nqz hcal (cqm (bqb (i := 0) hnd rfl (.inl hxl) (.inr hxl)) (cqm (bqb (i := 1) hnd rfl (.inl hxl2) (.inr hxl2)) hq4))
 have loop : codeAny (model X.prog X.w) X.A (.compLoop (.ListComp elt [⟨.Tuple [.Name x px, .Name x2 px2] kx ptx, iter, ifs, 0⟩] scope pos) 0 (.ref it) (.ref p) (compEnvC scope cl s3.heap.objs.size X.env))
    RR { s3 with heap := h₁, toks := t } := by
  refine fqt (fun n s' => ∃ i ys H' o o2, Inv (compCx X (x :: x2 :: fx) scope cl s3 H3 fp) [] (o :: o2 :: frV σ fr) H' s' ∧ tn i s'.heap ∧ (∀ b ∈ fp, H' b = none) ∧ W i n ys H') ?_ m0 ⟨0, [], _, none, none, I4, st4, fp0, w0⟩
  rintro n s5 ⟨i, ys, H5, o, o2, I5, st5, fr5, w5⟩
  obtain ⟨hp5, alt⟩ := turn i n ys H5 w5
  rcases alt with ⟨stop, qn⟩ | ⟨go, hlen, step⟩
  ·refine thn (T.done (compCx X (x :: x2 :: fx) scope cl s3 H3 fp) rfl rfl rfl hcal i [] s5 (o :: o2 :: frV σ fr) H5 _ I5 (stat fr5) st5 stop) fun r s6 W' => ?_
   obtain ⟨hr, I6⟩ := W'
   subst hr
   exact fin s6 H5 o o2 I6 qn
  ·refine thn (T.item (compCx X (x :: x2 :: fx) scope cl s3 H3 fp) rfl rfl rfl hcal i [] s5 (o :: o2 :: frV σ fr) H5 _ I5 (stat fr5) st5 go) fun r s6 W' => ?_
   obtain ⟨u, hr, h6⟩ := W'
   subst hr
   refine thn h6 fun _ s7 W' => ?_
   obtain ⟨y7, H7, I7, r7, yl7, st7, fr7⟩ := W'
   have I7' := I7.pinned (stat fr7) (T.obj _ _ st7)
   have back : ∀ {σ' : St} {H' : Hp} {s' : Shared}, Inv (compCx X (x :: x2 :: fx) scope cl s3 H3 fp) ([] ++ pinsAt fp s7.heap) σ' H' s' → tn (i + 1) s'.heap ∧ ∀ b ∈ fp, H' b = none := fun {σ' H' s'} I' => by
    refine ⟨T.keep _ _ _ st7 fun b hb o e => (I'.pin (b, o) (List.mem_append_right _ (List.mem_append_right _ (bq2 hb e)))).1, fun b hb => ?_⟩
    obtain ⟨o, e, d⟩ := T.obj _ _ st7 b hb
    exact (I'.pin (b, o) (List.mem_append_right _ (List.mem_append_right _ (bq2 hb e)))).2.1
   obtain ⟨a7, z1, z2, e7, q7, step7⟩ := step y7 _ yl7
   subst e7
   refine thn (pg _ s7 _ H7 (.ref a7) u (fun σ' H' => σ' = some z1 :: some z2 :: frV σ fr ∧ H' = H7) I7' r7 ⟨a7, [z1, z2], rfl, q7, rfl, z1, [z2], rfl, z2, [], rfl, rfl, rfl, rfl⟩) fun _ s8 W' => ?_
   obtain ⟨σ8, H8, I8, e8, e8'⟩ := W'
   subst e8 e8'
   refine thn (ht s3 H3 fp _ s8 _ _ _ I8 step7) fun b s9 W' => ?_
   obtain ⟨H9, I9, q9⟩ := W'
   cases b with
   | false =>
    rw [if_neg Bool.false_ne_true] at q9 ⊢
    obtain ⟨m', hm, w9⟩ := q9
    exact ⟨m', hm, i + 1, ys, H9, some z1, some z2, I9.unpinned, (back I9).1, (back I9).2, w9⟩
   | true =>
    rw [if_pos rfl] at q9 ⊢
    refine thn (he s3 H3 fp _ s9 _ H9 _ I9 q9) fun u10 s10 W' => ?_
    obtain ⟨y10, H10, I10, r10, hp10, m', hm, w10⟩ := W'
    refine thn (eqH _ s10 _ H10 (.ref p) [y10] (.ref p) [u10] (fun _ H' => H' = upd H10 p (.lst (ys ++ [y10]))) I10 rfl (.cons r10 .nil) ⟨p, ys, y10, rfl, rfl, hp10, hlen, rfl⟩) fun _ s11 W' => ?_
    obtain ⟨_, H11, I11, _, e11⟩ := W'
    subst e11
    exact ⟨m', hm, i + 1, ys ++ [y10], _, some z1, some z2, I11.unpinned, (back I11).1, (back I11).2, w10⟩
 exact codeAny_compStart_list loop (T.self _ 0 _ _ _ st4 loop)
theorem jqT {K : PySem.W.Frag} {i : Nat} {y : Str} {py spos : Pos} (hN : X.N.Nodup) (hiN : X.N[i]? = some y) (hy : X.env.scope.names.lookup y = some .local)
  (h : X.K = K) (hc : X.calm = true) (hclos : closureFor scope X.env = pure cl) (hcell : ∀ y ∈ scope.names, y.2 ≠ .cell) (hkind : scope.kind = .function)
  (hnames : ∀ y ∈ scope.names, y.2 = .local → scope.names.lookup y.1 = some .local) (hx : scope.names.lookup x = some .local) (hx2 : scope.names.lookup x2 = some .local) (hnd : (x :: x2 :: fx).Nodup)
  (hk : (cl.all fun q => fx.contains q.1) = true) (F : Frees X (relabel scope X.env) cl fx fr)
  (hfx : ((relabel scope X.env).names.all fun p => if (p.2 == .cell || p.2 == .free) then fx.contains p.1 else true) = true)
  (hi : PI X (.Tuple [.Name x px, .Name x2 px2] kx ptx) iter wi) (ht : ∀ s H fp, PF (compCx X (x :: x2 :: fx) scope cl s H fp) ifs tt) (he : ∀ s H fp, PE (compCx X (x :: x2 :: fx) scope cl s H fp) elt te)
  (hs : ∀ x, foldedSetIterable iter X.env x = pure x := by intro _; rfl) (hsw : swapsWith (.ListComp elt [⟨.Tuple [.Name x px, .Name x2 px2] kx ptx, iter, ifs, 0⟩] scope pos) (some (.Name y py)) spos.line X.env = pure true := by rfl) :
  PS X (.Assign [.Name y py] (.ListComp elt [⟨.Tuple [.Name x px, .Name x2 px2] kx ptx, iter, ifs, 0⟩] scope pos) spos) (tAsg (tComp2 K wi fr tt te) (gName i)) := by
 subst h
 intro pins s σ H D I h
 have hcl : ∀ y c, cl.lookup y = some c → X.env.cells.lookup y = some c := fun y c e => by
  have q := List.all_eq_true.mp hk _ (PySem.mem_of_lookup e)
  rw [← (F.mem y (by simpa using q)).2]
  exact e
 rw [exec_Assign_Name_used _ _ _ _ hsw]
 refine wpAny_bind (wpAny_standAt (wpAny_bind ?_))
 show wpAny _ X.A (do let _ ← comprehension (.ListComp elt [⟨.Tuple [.Name x px, .Name x2 px2] kx ptx, iter, ifs, 0⟩] scope pos) scope X.env _ (newList []) false (eval iter X.env) (some (assign (.Name y py) X.env))) _ _ s
 refine wpAny_bind (wpAny_mono (wpAny_comprehension_free (use := some (assign (.Name y py) X.env)) (Q := fun _ s' => SP X pins D .next s') rfl hs hclos hkind hnames ?_) (fun _ s' hq => wpAny_pure (wpAny_pure hq)) fun _ _ e => e)
 refine thn (hi pins s σ H _ I h) fun v s1 h1 => thn h1 fun itv s2 h2 => ?_
 obtain ⟨it, fp, tn, J, H2, e, I2, T, st2, f2, q2⟩ := h2
 subst e
 have hp0 : H2 s2.heap.objs.size = none := I2.hok.fresh (Nat.le_refl _)
 obtain ⟨W, ⟨m0, w0⟩, turn⟩ := q2 _ hp0
 have flt : ∀ b ∈ fp, b < s2.heap.objs.size := fun b hb => by
  obtain ⟨o, e, _⟩ := T.obj _ _ st2 b hb
  exact Heap.lt_size e
 refine wpAny_newObj_type (wpAny_newFunctionEnv hcell (by intro y hy; simp at hy) (fun h₁ hns₁ hsb₁ => ?_) hkind)
 dsimp only at hns₁ hsb₁ ⊢
 have hlay : ∀ b u, s2.heap.get? b = some u → (s2.heap.push { cls := .type "list", dict := none, data := .seq ([] : List Value).toArray }).get? b = some u := fun b u e => Heap.get?_push_of_some _ e
 have hnew : (s2.heap.push { cls := .type "list", dict := none, data := .seq ([] : List Value).toArray }).get? s2.heap.objs.size = some { cls := .type "list", dict := none, data := .seq ([] : List Value).toArray } := Heap.get?_push_size _ rfl
 have hsz : (s2.heap.push { cls := .type "list", dict := none, data := .seq ([] : List Value).toArray }).objs.size = s2.heap.objs.size + 1 := Heap.size_push _ _
 generalize hHH : s2.heap.push { cls := .type "list", dict := none, data := .seq ([] : List Value).toArray } = HH at hns₁ hsb₁ hlay hnew hsz ⊢
 have I3 : Inv X pins σ (upd H2 s2.heap.objs.size (.lst [])) { s2 with heap := HH, toks := s2.toks } :=
  I2.laid (t' := s2.toks) (o := .lst []) hlay (Nat.le_refl _) ⟨Nat.zero_le _, [], 0, .nil, hnew⟩
 have ffp : ∀ b ∈ fp, FpOk X pins (upd H2 s2.heap.objs.size (.lst [])) b := fun b hb => by
  obtain ⟨f0, fr'⟩ := f2 b hb
  exact ⟨by rw [aqj (Nat.ne_of_lt (flt b hb))]; exact f0, fr'⟩
 have keep1 : ∀ b u, HH.get? b = some u → h₁.get? b = some u := fun b u e => hsb₁.extBut b u (Nat.ne_of_lt (Heap.lt_size e)) (Heap.get?_push_of_some _ e)
 exact jqt (Q := fun x H1 => gName i x σ H1 D.nx) (s3 := { s2 with heap := HH, toks := s2.toks }) hc hkind hx hx2 hnd hcl F hfx ht he I3 T (T.keep _ _ _ st2 fun b hb o e => hlay b o e) ffp (fun b hb => by show b < HH.objs.size; rw [hsz]; exact Nat.lt_succ_of_lt (flt b hb)) w0 turn hns₁ keep1 fun s6 H5 o o2 I6 qn => by
  have nC : H5 HH.objs.size = none := I6.free
  have I7 : Inv X pins σ H5 s6 := gqe (h' := s6.heap) I3 I6 ffp ⟨rfl, fun _ _ => rfl⟩
  obtain ⟨f0, f1, f2, f3, f4, f5⟩ := I3.fpOk (H' := H5) (b := HH.objs.size) (Nat.le_refl _) nC
  obtain ⟨m, hn6, _⟩ := id I6.loc
  show wpAny _ X.A (assign (.Name y py) X.env (.ref _)) _ _ s6
  refine wpAny_assign_Name (fq4 I7 hN hiN (.inl hy) (v := .ref _) rfl (fun s8 I8 sbx => ?_) (.inr hy))
  obtain ⟨a, sb, ha⟩ := sbx
  have hne : HH.objs.size ≠ a := by
   rcases ha with rfl | ha
   ·exact f1
   ·exact fun z => f4 y a ha z.symm
  refine ⟨m, hn6.sameBut sb hne, fun h' sb' => ?_⟩
  exact ⟨_, H5, I8.turned (t' := s8.toks) (it := HH.objs.size) (fun b o hb e => sb'.extBut b o hb e) f0 f1 f3 f4 f5, qn⟩
end
section
variable {p : Addr} {fv : St} {te : TE} {Q : VK} {H1 : Hp} {K : PySem.W.Frag}
theorem lql {tl : TE} {tt : TT} {fr : List Nat} {σ : St} {H : Hp} : (tComp2 K (iTup K tl) fr tt te σ H Q) = (tl σ H fun x H1 => ∃ a, x = .ref a ∧ (∃ xs, SqT K H1 a xs) ∧ ∀ p, H1 p = none → CompI2 K (Itt K a) p (frV σ fr) tt te Q H1) := rfl
end
section
variable {X : Cx}
def rFind : V → List V → Hp → VK → Prop := fun x vs H Q => match x, vs with
 | .str z, [.str y] => Q (.int (Txt.find z y)) H
 | _, _ => False
theorem oqT {z y : Str} {H : Hp} {Q : VK} : (rFind (.str z) [.str y] H Q) = (Q (.int (Txt.find z y)) H) := rfl
end
end L2
namespace Wm
open PySem L2
theorem oqC (s : Stp) (L : List Stp) : inV (sV s) (L.map sV) = decide (s ∈ L) := by
 have e : ∀ a : Stp, eqV (sV a) (sV s) = decide (s = a) := fun a => by
  show ((⟨a.toArray⟩ : Str) == ⟨s.toArray⟩) = decide (s = a)
  rw [Bool.eq_iff_iff, beq_iff_eq, decide_eq_true_eq, fqU]
  exact ⟨Eq.symm, Eq.symm⟩
 unfold inV
 rw [Bool.eq_iff_iff, decide_eq_true_eq, List.any_eq_true]
 constructor
 ·rintro ⟨x, hx, h⟩
  obtain ⟨a, ha, rfl⟩ := List.mem_map.mp hx
  rw [e, decide_eq_true_eq] at h
  rw [h]; exact ha
 ·intro h
  exact ⟨sV s, List.mem_map.mpr ⟨s, h, rfl⟩, by rw [e]; simp⟩
end Wm
namespace Wm
end Wm
namespace L2
open PySem
theorem pqT {l : Addr} {H : Hp} {Q : VK} {i : Int} : rPopAt (.ref l) [.int i] H Q ↔ ∃ xs k y, H l = some (.lst xs) ∧ -(2 ^ 63) ≤ i ∧ i < 2 ^ 63 ∧ seqIndex? i xs.length = some k ∧ xs[k]? = some y ∧ Q y (upd H l (.lst (xs.eraseIdx k))) :=
 ⟨fun ⟨_, xs, _, k, y, h1, h2, h⟩ => by cases h1; cases h2; exact ⟨xs, k, y, h⟩, fun ⟨xs, k, y, h⟩ => ⟨_, xs, _, k, y, rfl, rfl, h⟩⟩
end L2
namespace L2
open PySem PySem.Spec PySem.W PyProof.Rows
abbrev vErr : List Value := [.type "ValueError", .type "Exception", .type "BaseException", .type "object"]
abbrev vNew : String := "ValueError.__new__"
def clsIs (d : Data) (f : ClassData → Bool) : Bool := match d with
 | .cls c => f c
 | _ => false
theorem mqp {d : Data} {f : ClassData → Bool} (q : clsIs d f = true) : ∃ c, d = .cls c ∧ f c = true := by
 cases d with
 | cls c => exact ⟨c, rfl, q⟩
 | _ => cases q
def excInJ (K : Frag) (C : Addr) (bmB : List Value) (newId : String) (v : Option Value) : Bool := match K.lookup C with
 | some o => o.cls == .type "type" && clsIs o.data fun cd => cd.mro == .ref C :: cd.mro.tail && (o.slots == #[o.slots.getD 0 none, o.slots.getD 1 none, o.slots.getD 2 none, o.slots.getD 3 none, some (.builtin newId), o.slots.getD 5 none] && (!cd.hasDel && (tailIn K bmB cd.mro.tail && (nsOkIn K cd.ns && nsIn K cd.ns "__init__" == some v))))
 | _ => false
theorem gqG {a b : Bool} (h : (a && b) = true) : a = true ∧ b = true := by cases a; cases h; exact ⟨rfl, h⟩
abbrev clsO (cd : ClassData) (C : Addr) (tl : List Value) (dd : Option Addr) (a : Nat → Option Value) (nid : String) : Obj := excClassObj cd.name cd.qualname C cd.ns cd.bases tl cd.hasDict cd.slotNames cd.subclasses cd.abstract cd.collection dd (a 0) (a 1) (a 2) (a 3) (a 5) nid
theorem oqO {o : Obj} {cd : ClassData} {C : Addr} {tl : List Value} {a : Nat → Option Value} {nid : String} (h0 : o.cls = .type "type") (h1 : o.data = .cls cd) (h2 : cd.mro = .ref C :: tl) (h3 : o.slots = #[a 0, a 1, a 2, a 3, some (.builtin nid), a 5]) (h4 : cd.hasDel = false) :
  o = clsO cd C tl o.dict a nid := by
 cases o
 cases cd
 cases h0; cases h1; cases h2; cases h3; cases h4
 rfl
theorem excObjJ {K : Frag} {h : Heap} {C : Addr} {bb : List Value} {nid : String} {v : Option Value} (kin : K.In h) (q : excInJ K C bb nid v = true) :
  ∃ cd tl dd a, h.get? C = some (clsO cd C tl dd a nid) ∧ (nsOkIn K cd.ns = true ∧ nsIn K cd.ns "__init__" = some v) ∧ OwnTail h bb tl := by
 unfold excInJ at q
 generalize lk : K.lookup C = r at q
 cases r with
 | none => cases q
 | some o =>
  have q := gqG q
  obtain ⟨cd, e, q1⟩ := mqp q.2
  have q1 := gqG q1
  have q3 := gqG q1.2
  have q4 := gqG q3.2
  have q5 := gqG q4.2
  have q6 := gqG q5.2
  exact ⟨cd, _, _, _, (kin _ _ lk).trans (congrArg some (oqO (a := (o.slots.getD · none)) (beq_iff_eq.mp q.1) e (beq_iff_eq.mp q1.1) (beq_iff_eq.mp q3.1) ((Bool.not_eq_true' _).mp q4.1))), ⟨q6.1, beq_iff_eq.mp q6.2⟩, tail_of_in kin q5.1⟩
def tRaise (E : XK) (C : Addr) : TS := fun _ _ H => E (.ref C) none H
theorem jqH {E : XK} {C : Addr} {D : Ends} {σ : St} {H : Hp} : (tRaise E C D σ H) = (E (.ref C) none H) := rfl
theorem ObjOk.ex {P : Program} {w : World} {H : Hp} {h : Heap} {a : Addr} {o : HO} (x : ObjOk P w H h a o) : ∃ u, h.get? a = some u := by
 cases o with
 | lst xs => obtain ⟨_, _, _, _, e⟩ := x; exact ⟨_, e⟩
 | tup xs => obtain ⟨_, _, _, _, e, _⟩ := x; exact ⟨_, e⟩
 | dK kvs => obtain ⟨_, _, _, _, _, _, _, e, _⟩ := x; exact ⟨_, e⟩
 | dT kvs => obtain ⟨_, _, _, _, _, _, _, e, _⟩ := x; exact ⟨_, e⟩
 | set S n => obtain ⟨_, _, _, _, e, _⟩ := x; exact ⟨_, e⟩
 | ins C dx fs => obtain ⟨_, _, _, e, _⟩ := x; exact ⟨_, e⟩
 | own y => exact x
 | xd fs => obtain ⟨_, ⟨_, _, _, e, _⟩, _⟩ := x; exact ⟨_, e⟩
 | rng lo hi => obtain ⟨_, _, _, e⟩ := x; exact ⟨_, e⟩
 | frz ob u => exact ⟨_, x.1⟩
 | tbl ps => exact ⟨_, x⟩
 | met f y => exact ⟨_, x⟩
 | ext φ => exact x.2.1
structure Flown (P : Program) (w : World) (base : Heap) (outer : List Env) (H : Hp) (s : Shared) (a t C : Addr) (B : Heap) (H' : Hp) (s' : Shared) : Prop where
 os : s'.os = s.os
 bare : AllBare s'.gens
 st : base.StaysIn B
 fly : Heap.FlyingW B outer a (.ref C) (.ref t) s'.heap
 hok : HOk P w H' B
 un : Un (frs outer) [] H H' s.heap s'.heap
 kb : ∀ b o, s.heap.get? b = some o → H b = none → b ∉ frs outer → B.get? b = some o
 thB : ∀ b o, s.heap.get? b = some o → b ∉ frs outer → ∃ o', B.get? b = some o'
def CXE (P : Program) (w : World) (base : Heap) : CXT := fun outer H s E e s' => ∃ (a t C : Addr) (B : Heap) (H' : Hp), e = .ref a ∧ E (.ref C) none H' ∧ Flown P w base outer H s a t C B H' s'
theorem eqB {env : Env} {L : Addr} {outer : List Env} (hf : env.frame = some L) {b : Addr} : b ∈ frs (env :: outer) ↔ b = L ∨ b ∈ frs outer := by
 unfold frs
 rw [List.filterMap_cons, hf]
 exact List.mem_cons
section
variable {P : Program} {w : World} {K : Frag} {mg : Str → Option Value} {base : Heap} {N : List Str} {qual : Str} {scope : Scope} {f : Addr} {cd : Value} {A : Around} {outer : List Env} {s : Shared} {H : Hp} {E : XK}
theorem lqJ : Passes (CXE P w base) (cxOf (CXE P w base) P w K mg base N qual scope f cd A outer s H E) E := by
 intro pins σ H1 s1 e s2 I hq
 obtain ⟨a, t, C, B, H2, rfl, hE, W⟩ := hq
 have hf : (envOfC qual scope s.heap.objs.size f cd).frame = some s.heap.objs.size := rfl
 have ib : Un (frs outer) [] H H1 s.heap s1.heap := I.base
 have W : Flown P w base (envOfC qual scope s.heap.objs.size f cd :: outer) H1 s1 a t C B H2 s2 := W
 have ne : ∀ b o, s.heap.get? b = some o → b ∉ frs outer → b ∉ frs (envOfC qual scope s.heap.objs.size f cd :: outer) := fun b o q n z => by
  rcases (eqB hf).mp z with z | z
  ·exact absurd (Heap.lt_size q) (by rw [z]; exact Nat.lt_irrefl _)
  ·exact n z
 show wpAny (model P w) (A.deeper (envOfC qual scope s.heap.objs.size f cd)) (leaving (envOfC qual scope s.heap.objs.size f cd) (.ref a)) _ _ _
 refine wpAny_leaves_onW I.ok.frames hf W.fly fun h3 x1 x2 => ?_
 have keepB : ∀ b o, s.heap.get? b = some o → H b = none → b ∉ frs outer → B.get? b = some o := fun b o q n nf =>
  W.kb b o (ib.keep b o q n nf (by simp)) (ib.free b o q n (by simp)) (ne b o q nf)
 have thB : ∀ b o, s.heap.get? b = some o → b ∉ frs outer → ∃ o', B.get? b = some o' := fun b o q nf => by
  obtain ⟨o', z⟩ := ib.there b o q (by simp)
  exact W.thB b o' z (ne b o q nf)
 have slotF : ∀ b, b ∈ frs outer → ∀ o, s2.heap.get? b = some o → ∃ sl, h3.get? b = some { o with slots := sl } := fun b hb o q => by
  obtain ⟨_, o2, q2, nd⟩ := W.fly.2.2.1.mem ((eqB hf).mpr (.inr hb))
  rw [q] at q2
  cases q2
  exact x2 b o q nd
 refine ⟨a, t, C, B, H2, rfl, hE, ⟨W.os.trans I.os, W.bare, W.st, x1, W.hok, ⟨fun b o q n nf _ => x1.1 b o (keepB b o q n nf), fun b o q n hb _ => ?_, fun b o q n _ => ?_, fun b o q _ => ?_, fun b xs q => W.un.tups b xs (ib.tups b xs q), fun b o u q => W.un.frzs b o u (ib.frzs b o u q), fun b ps q => ?_⟩, keepB, thB⟩⟩
 ·obtain ⟨sl, z⟩ := ib.slot b o q n hb (by simp)
  obtain ⟨sl1, z1⟩ := W.un.slot b _ z (ib.free b o q n (by simp)) ((eqB hf).mpr (.inr hb)) (by simp)
  obtain ⟨sl', z'⟩ := slotF b hb _ z1
  exact ⟨sl', z'⟩
 ·obtain ⟨o', z⟩ := ib.there b o q (by simp)
  exact W.un.free b o' z (ib.free b o q n (by simp)) (by simp)
 ·by_cases hb : b ∈ frs outer
  ·obtain ⟨o', z⟩ := ib.there b o q (by simp)
   obtain ⟨o'', z1⟩ := W.un.there b o' z (by simp)
   obtain ⟨sl', z'⟩ := slotF b hb _ z1
   exact ⟨_, z'⟩
  ·obtain ⟨o', z⟩ := thB b o q hb
   exact ⟨o', x1.1 b o' z⟩
 ·obtain ⟨m1, z⟩ := ib.tbls b ps q
  obtain ⟨m2, z2⟩ := W.un.tbls b _ z
  exact ⟨m1 ++ m2, by rw [z2, Array.append_assoc]⟩
end
def exO (a C : Addr) : HO := .ext fun h => ∃ o, h.get? a = some o ∧ o.cls = .ref C
abbrev Cx.handling (X : Cx) (e : Value) : Cx := { X with A := X.A.mark (some e), calm := false, xe := fun _ _ => False }
section
variable {X : Cx} {pins : List (Addr × Obj)} {σ : St} {H H1 H2 : Hp} {s s1 s2 : Shared}
theorem Inv.handling (e : Value) (I : Inv X pins σ H s) : Inv (X.handling e) pins σ H s :=
 ⟨⟨I.ok.mod, I.ok.kind, I.ok.glob, I.ok.blt, I.ok.above, I.ok.inj, I.ok.has, I.ok.cab, (fun z => by cases z), I.ok.frames, I.ok.stk, I.ok.exf, I.ok.bs, I.ok.bsz, I.ok.noex, I.ok.exfs, I.ok.funs, I.ok.frf⟩, I.os, I.bare, I.base, I.loc, I.cell, I.free, I.freeC, I.pin, I.hok, I.len⟩
theorem Inv.handled {e : Value} (J : X.Ok) (I : Inv (X.handling e) pins σ H s) : Inv X pins σ H s := ⟨J, I.os, I.bare, I.base, I.loc, I.cell, I.free, I.freeC, I.pin, I.hok, I.len⟩
theorem Flown.new {P : Program} {w : World} {base B h5 : Heap} {outer : List Env} {a t C : Addr} {a0 : Value} (W : Flown P w base outer H1 s1 a t C B H2 s2) : H2 a = none := by
 cases q : H2 a with
 | none => rfl
 | some u =>
  obtain ⟨o, z⟩ := (W.hok a u q).ex
  rw [W.fly.2.1] at z
  cases z
theorem Inv.caught {a t C : Addr} {B h5 : Heap} {a0 : Value} (I : Inv X pins σ H1 s1) (W : Flown X.prog X.w X.base X.stack H1 s1 a t C B H2 s2) (f5 : Heap.FlyingW B X.stack a (.ref C) a0 h5) (sm : s2.heap.UpToSlots h5) :
  Inv X pins σ (upd H2 a (exO a C)) { s2 with heap := h5 } := by
 have hn : H2 a = none := W.new (h5 := h5) (a0 := a0)
 obtain ⟨oe, vs, T, oT, ts, he, _, hd, _⟩ := W.fly.2.2.2
 have fr : ∀ b ∈ frs X.stack, ∀ o, s2.heap.get? b = some o → b ≠ a ∧ ∃ sl, h5.get? b = some { o with slots := sl } := fun b hb o q => by
  obtain ⟨_, o2, q2, nd⟩ := W.fly.2.2.1.mem hb
  rw [q] at q2
  cases q2
  refine ⟨fun z => ?_, sm b o q nd⟩
  rw [z, he] at q
  cases q
  exact nd _ hd
 have na : ∀ b o, s1.heap.get? b = some o → b ≠ a := fun b o q => by
  by_cases hb : b ∈ frs X.stack
  ·obtain ⟨o', z⟩ := W.un.there b o q (by simp)
   exact (fr b hb o' z).1
  ·obtain ⟨o', z⟩ := W.thB b o q hb
   rintro rfl
   rw [W.fly.2.1] at z
   cases z
 refine I.call' (H' := upd H2 a (exO a C)) (s' := { s2 with heap := h5 }) (ch := []) W.os ⟨fun b o q n nf _ => f5.1 b o (W.kb b o q n nf), fun b o q n hb _ => ?_, fun b o q n _ => ?_, fun b o q _ => ?_, fun b xs q => ?_, fun b o u q => ?_, fun b ps q => ?_⟩ (fun b u q => ?_) W.bare (fun b z => by cases z)
 ·obtain ⟨sl, z⟩ := W.un.slot b o q n hb (by simp)
  obtain ⟨_, sl', z'⟩ := fr b hb _ z
  exact ⟨sl', z'⟩
 ·rw [aqj (na b o q)]
  exact W.un.free b o q n (by simp)
 ·by_cases hb : b ∈ frs X.stack
  ·obtain ⟨o', z⟩ := W.un.there b o q (by simp)
   obtain ⟨_, sl', z'⟩ := fr b hb _ z
   exact ⟨_, z'⟩
  ·obtain ⟨o', z⟩ := W.thB b o q hb
   exact ⟨o', f5.1 b o' z⟩
 ·have z := W.un.tups b xs q
  rw [aqj (aqh z hn)]
  exact z
 ·have z := W.un.frzs b o u q
  rw [aqj (aqh z hn)]
  exact z
 ·obtain ⟨m, z⟩ := W.un.tbls b ps q
  exact ⟨m, by rw [aqj (aqh z hn)]; exact z⟩
 ·by_cases hb : b = a
  ·subst hb
   rw [aqk] at q
   cases q
   obtain ⟨ob, hob, hoc⟩ := f5.there
   exact ⟨⟨ob, hob, hoc⟩, ⟨ob, hob⟩, fun h1 h2 ⟨o, z, c⟩ k => ⟨o, k o z, c⟩⟩
  ·rw [aqj hb] at q
   refine (W.hok b u q).stay (fun c v _ z => f5.1 c v z) (fun c z => ?_) fun c xs z => ?_
   ·rw [aqj (aqh z hn)]; exact z
   ·rw [aqj (aqh z hn)]; exact z
theorem Inv.goes {M : Model} {A : Around} {E : Value → Shared → Prop} {i : Nat} {n : Str} {pos : Pos} {Q : Unit → Shared → Prop} (I : Inv X pins σ H s) (nd : X.N.Nodup) (hi : X.N[i]? = some n) (hl : X.env.scope.names.lookup n = some .local)
  (h : ∀ s', Inv X pins (σ.set i none) H s' → Q () s') : wpAny M A (do bindName X.env n .none; unbindBehindTheSuite X.env n pos) Q E s := by
 obtain ⟨m, hn, hlk⟩ := id I.loc
 have hcls : (X.env.scope.kind == .class || (X.env.scope.kind == .module && X.env.locals != X.env.globals)) = false := by rw [I.ok.kind]; rfl
 have hiσ : i < σ.length := by rw [I.len]; exact (List.getElem?_eq_some_iff.mp hi).1
 refine wpAny_nameGoes_keeps hl hn hcls fun h' v hn' hs => h _ ?_
 have neL : ∀ b o, X.s₀.heap.get? b = some o → b ≠ X.env.locals := fun b o e => Nat.ne_of_lt (Nat.lt_of_lt_of_le (Heap.lt_size e) I.ok.above)
 refine ⟨I.ok, I.os, I.bare, ⟨fun b o e z hb hx => (hs.2 b (neL b o e)).trans (I.base.keep b o e z hb hx), fun b o e z hb hx => ?_, I.base.free, fun b o e hx => ?_, I.base.tups, I.base.frzs, I.base.tbls⟩, ⟨_, hn', fun j y v' e1 e2 e3 => ?_⟩, fun y c e => ?_, I.free, I.freeC, fun p hp => ?_, fun b ob e => ?_, by simpa using I.len⟩
 ·obtain ⟨sl, e1⟩ := I.base.slot b o e z hb hx
  exact ⟨sl, (hs.2 b (neL b o e)).trans e1⟩
 ·obtain ⟨o', e1⟩ := I.base.there b o e hx
  exact ⟨o', (hs.2 b (neL b o e)).trans e1⟩
 ·by_cases hj : j = i
  ·subst hj
   rw [List.getElem?_set_self hiσ] at e2
   cases e2
  ·rw [List.getElem?_set_ne (Ne.symm hj)] at e2
   obtain ⟨u', r', q⟩ := hlk j y v' e1 e2 e3
   refine ⟨u', r', ?_⟩
   rcases q with ⟨k, e⟩ | ⟨k, c, e, z⟩
   ·refine .inl ⟨k, ?_⟩
    have : y ≠ n := fun e => hj (hqo nd e1 (e ▸ hi))
    simp [this, e]
   ·exact .inr ⟨k, c, e, z.sameBut hs (I.cne y c e)⟩
 ·obtain ⟨w', z⟩ := I.cell y c e
  exact ⟨w', z.sameBut hs (I.cne y c e)⟩
 ·obtain ⟨e, n1, ne, nf, d⟩ := I.pin p hp
  exact ⟨(hs.2 p.1 ne).trans e, n1, ne, nf, d⟩
 ·refine (I.hok b ob e).stay (fun c w' hc q => (hs.2 c ?_).trans q) (fun _ q => q) fun _ _ q => q
  rintro rfl
  rcases hc with rfl | hc
  ·rw [I.free] at e; cases e
  ·rw [I.free] at hc; cases hc
end
structure Catch (K : Frag) (W : Addr) : Prop where
 ty : typeIn K (.ref W) = some (.type "type")
 ex : subIn K (.ref W) (.type "BaseException") = some true
 cl : (clsIn K W).isSome = true
theorem jqx {K : Frag} {M : Model} {h : Heap} {a W C : Addr} {o : Obj} (kin : K.In h) (ha : h.get? a = some o) (hc : o.cls = .ref C) (cw : Catch K W) (hs : subIn K (.ref C) (.ref W) = some true) : Looks M h (excMatches (.ref a) (.ref W)) true := by
 have L1 := looks_typeIn (M := M) kin cw.ty
 have L2 := looks_subIn (M := M) kin cw.ex
 have L3 := looks_subIn (M := M) kin hs
 have L4 : Looks M h (typeOf (.ref a)) (.ref C) := hc ▸ (Looks.ld ha).andThen .now
 have L5 : Looks M h (isInstance (.ref W) (.type "tuple")) false := L1.andThen (Looks.of_pure tc_notTuple)
 have L6 : Looks M h (isType (.ref W)) true := by
  have z := cw.cl
  unfold clsIn at z
  split at z
  ·next lk =>
   intro A' Q' E' s' k q
   unfold isType loadHead
   exact wpAny_bind (wpAny_loadPart (k _ _ (kin _ _ lk)) (wpAny_pure q))
  ·cases z
 intro A Q E s k q
 unfold excMatches isExcClass
 refine wpAny_bind (L5 A _ E s k ?_)
 simp only [Bool.false_eq_true, if_false]
 refine wpAny_bind (wpAny_pure ?_)
 refine wpAny_bind ?_
 rw [List.forIn_cons]
 refine wpAny_bind (wpAny_bind (wpAny_bind (L6 A _ E s k ?_)))
 simp only [if_true]
 refine L2 A _ E s k ?_
 simp only [Bool.not_true, Bool.false_eq_true, if_false]
 refine wpAny_pure ?_
 dsimp only
 rw [List.forIn_nil]
 refine wpAny_pure ?_
 refine wpAny_bind (L4 A _ E s k ?_)
 refine wpAny_bind ?_
 rw [List.forIn_cons]
 refine wpAny_bind (wpAny_bind (L3 A _ E s k ?_))
 simp only [if_true]
 refine wpAny_pure ?_
 dsimp only
 exact wpAny_pure (wpAny_pure q)
def tTry (K : Frag) (sp : Sp) (t : TA) (W : Addr) (i : Nat) (tb : TS) : TS := fun D σ H => t σ H fun vs H1 => sp vs H1 (fun _ H2 => D.nx σ H2) fun cls _ H2 =>
 ∃ C, cls = .ref C ∧ subIn K (.ref C) (.ref W) = some true ∧ ∀ a, H2 a = none → tb { nx := fun σ' H' => D.nx (σ'.set i none) H', rt := D.rt } (σ.set i (some (.ref a))) (upd H2 a (exO a C))
end L2
namespace L2
open PySem PySem.Spec PySem.W PySem.Calls PyProof.Rows PySem.Builtin PySem.Builtin.ObjectAttr PySem.Builtin.Getset_descriptor
structure ExLook (K : Frag) (C : Addr) : Prop where
 ga : findIn K (.ref C) "__getattribute__" = some (some (.builtin "BaseException.__getattribute__"))
 cl : findIn K (.ref C) "__class__" = some (some (.builtin "object.__class__"))
 na : findIn K (.ref C) "__getattr__" = some none
 mo : mroIn K C (.type "object") = some true
 mb : mroIn K C (.type "BaseException") = some true
 is : (clsIn K C).isSome = true
section
variable {prog : Program} {w : World} {A : Around} {E : Value → Shared → Prop} {hh : Heap} {g : Array GenState} {dr : Drawn} {t : Nat} {os : OsState} {K : Frag} {a C : Addr} {o : Obj}
theorem dqL {M : Model} (hx : hh.get? a = some o) (hc : o.cls = .ref C) : Looks M hh (typeOf (.ref a)) (.ref C) := hc ▸ (Looks.ld hx).andThen .now
theorem hqA {tp : Value} {R : Result → Shared → Prop} (kin : K.In hh) (hx : hh.get? a = some o) (hc : o.cls = .ref C) (hm : mroIn K C (.type "object") = some true)
  (h : R (.ok (.ret (.ref C))) ⟨hh, g, dr, t, os⟩) : codeAny (model prog w) A (.call (.builtin "getset_descriptor.__get__") ⟨[.builtin "object.__class__", .ref a, tp], []⟩) R ⟨hh, g, dr, t, os⟩ := by
 have lt := dqL (M := model prog w) hx hc; have ls := looks_mroIn (M := model prog w) kin hm
 refine codeAny_call_builtin KF.slot_gs.plain KF.entry_gs (KF.slot_gs.check _ _ _ _ _ _ _ _ KF.type_class (KF.args_gs _ _ _) ?_); unfold Builtin.«getset_descriptor.__get__» descrGet; rw [dga_obj]
 refine wpAny_bind (wpAny_pure ?_); unfold descrGetter descrCheckInstance descrNameAndClass isInstance; simp only [KF.owner_class]
 repeat lk
 refine ⟨Code.quiet_builtin _ (by decide +kernel), codeAny_builtin KF.entry_class ?_⟩; unfold Builtin.«object.__class__» shownTypeOf
 repeat lk
 exact h
theorem fqY {tk : Tok} {Q : Fin → Shared → Prop} (kin : K.In hh) (hx : hh.get? a = some o) (hc : o.cls = .ref C) (L : ExLook K C) (hq : Q (.done (.ret (.ref C))) ⟨hh, g, dr, t, os⟩) :
  wpAny (model prog w) A (Builtin.«object.__getattribute__» ⟨[.ref a, .str "__class__" tk], []⟩) Q E ⟨hh, g, dr, t, os⟩ := by
 have lt := dqL (M := model prog w) hx hc; have lc := looks_findIn (M := model prog w) kin L.cl
 have hT5 : (⟨hh, g, dr, t, os⟩ : Shared).TypeIs (.builtin "object.__class__") "getset_descriptor" := F.typeOf_object_class
 have f5 := F.typeOf_object_class; have f6 := F.slot_gs_get.lookup; have f7 := F.slot_gs_set.lookup
 repeat (any_goals (first | assumption | with_reducible refine Looks.at lt ?_ | with_reducible refine Looks.at lc ?_ | wp_step))
 refine hqA kin hx hc L.mo ?_
 repeat (any_goals (first | assumption | wp_step))
theorem fqh {M : Model} {nv : Value} {Q : Unit → Shared → Prop} (kin : K.In hh) (hx : hh.get? a = some o) (hc : o.cls = .ref C) (L : ExLook K C) (hq : Q () ⟨hh, g, dr, t, os⟩) :
  wpAny M A (checkBuiltinCall "BaseException.__getattribute__" ⟨[.ref a, nv], []⟩) Q E ⟨hh, g, dr, t, os⟩ := by
 have lt := dqL (M := M) hx hc; have lb := looks_mroIn (M := M) kin L.mb
 have z1 : builtinKind "BaseException.__getattribute__" = some .slot := by decide +kernel
 have z2 : splitId "BaseException.__getattribute__" = some ("BaseException", "__getattribute__") := by decide +kernel
 have z3 := F.args_bexc_ga (.ref a) nv
 simp only [checkBuiltinCall, z1, z2]; refine wpAny_bind ?_; unfold isInstance
 repeat (first | with_reducible refine Looks.at lt ?_ | with_reducible refine Looks.at lb ?_ | wp_step)
 exact hq
theorem iqN {tk : Tok} {Q : Value → Shared → Prop} (kin : K.In hh) (hx : hh.get? a = some o) (hc : o.cls = .ref C) (L : ExLook K C) (gb : Slot "ValueError" "__getattribute__" "BaseException.__getattribute__") (hq : Q (.ref C) ⟨hh, g, dr, t, os⟩) :
  wpAny (model prog w) A (getAttrBy (.ref a) (.str "__class__" tk) false) Q E ⟨hh, g, dr, t, os⟩ := by
 have lt := dqL (M := model prog w) hx hc; have lg := looks_findIn (M := model prog w) kin L.ga; have ln := looks_findIn (M := model prog w) kin L.na
 have f3 := gb.bind (.ref a)
 have y2 : (Value.builtin "BaseException.__getattribute__" == Value.builtin "object.__getattribute__") = false := by decide +kernel
 have y1 : (onTheHeap (Value.ref C) && Value.builtin "BaseException.__getattribute__" == Value.builtin "object.__getattribute__") = false := by rw [y2]; rfl
 repeat (any_goals (first | assumption | with_reducible refine Looks.at lt ?_ | with_reducible refine Looks.at lg ?_ | with_reducible refine Looks.at ln ?_ | wp_step))
 refine codeAny_call_builtin gb.plain F.entry_bexc_ga (fqh kin hx hc L (fqY kin hx hc L ?_))
 repeat (any_goals (first | assumption | wp_step))
theorem gqt {s : Shared} {Q : Option Value → Shared → Prop} (kin : K.In s.heap) (hx : s.heap.get? a = some o) (hc : o.cls = .ref C) (L : ExLook K C) (gb : Slot "ValueError" "__getattribute__" "BaseException.__getattribute__") (hq : Q (some (.ref C)) { s with toks := s.toks + 1 }) :
  wpAny (model prog w) A (getAttr? (.ref a) "__class__") Q E s := by
 obtain ⟨hh, g, dr, t, os⟩ := s
 unfold getAttr? getAttrBy?
 repeat (any_goals (first | assumption | with_reducible apply iqN kin hx hc L gb | wp_step))
theorem lq7 (L : ExLook K C) (gb : Slot "ValueError" "__getattribute__" "BaseException.__getattribute__") : KitX K (.ref a) (.ref C) (fun h => ∃ o, h.get? a = some o ∧ o.cls = .ref C) where
 ty := fun _ _ _ ⟨o, hx, hc⟩ => dqL hx hc
 it := fun _ _ X _ => by
  have z := L.is
  unfold clsIn at z
  split at z
  ·next lk =>
   intro A' Q' E' s' k q
   unfold isType loadHead
   exact wpAny_bind (wpAny_loadPart (k _ _ (X _ _ lk)) (wpAny_pure q))
  ·cases z
 ne := fun h tp dd its n sl X htp => by
  have z := L.is
  refine Bool.eq_false_iff.mpr fun q => ?_
  obtain rfl : C = tp := Value.ref.inj (beq_iff_eq.mp q)
  unfold clsIn at z
  split at z
  ·next lk =>
   have y := (X _ _ lk).symm.trans htp
   cases y
  ·cases z
 ca := fun X ⟨o, hx, hc⟩ k => gqt X hx hc L gb k
end
inductive KitAns (K : Frag) (H : Hp) (C : Addr) : V → Bool → Prop
 | cls {W : Addr} {b : Bool} : kitOne K (.ref C) (.ref W) = some b → KitAns K H C (.ref W) b
 | ty {T : String} {b : Bool} : kitOne K (.ref C) (.type T) = some b → KitAns K H C (.ty T) b
 | tup {p : Addr} {cs : List Addr} {b : Bool} : H p = some (.tup (cs.map V.ref)) → kitAny K (.ref C) (cs.map Value.ref) = some b → KitAns K H C (.ref p) b
theorem iqz : ∀ {cs : List Addr} {us : List Value}, Vals (cs.map V.ref) us → us = cs.map Value.ref
 | [], _, .nil => rfl
 | _ :: _, _, .cons r rs => by cases r; rw [iqz rs]; rfl
def rIsE (K : Frag) : List V → Hp → VK → Prop := fun vs H Q => ∃ a c C b, vs = [.ref a, c] ∧ H a = some (exO a C) ∧ ExLook K C ∧ KitAns K H C c b ∧ Q (.bl b) H
end L2
namespace L2
open PySem PySem.W
theorem hqK : bootBuiltins "ValueError" = some (.type "ValueError") := by decide +kernel
theorem qqq {K : Frag} {a : Addr} {c : V} {H : Hp} {Q : VK} : rIsE K [.ref a, c] H Q ↔ ∃ C b, H a = some (exO a C) ∧ ExLook K C ∧ KitAns K H C c b ∧ Q (.bl b) H :=
 ⟨fun ⟨_, _, C, b, e, h⟩ => by cases e; exact ⟨C, b, h⟩, fun ⟨C, b, h⟩ => ⟨a, c, C, b, rfl, h⟩⟩
theorem pq9 {K : Frag} {sp : Sp} {t : TA} {W : Addr} {i : Nat} {tb : TS} {D : Ends} {σ : St} {H : Hp} : tTry K sp t W i tb D σ H ↔ t σ H fun vs H1 => sp vs H1 (fun _ H2 => D.nx σ H2) fun cls _ H2 =>
 ∃ C, cls = .ref C ∧ subIn K (.ref C) (.ref W) = some true ∧ ∀ a, H2 a = none → tb { nx := fun σ' H' => D.nx (σ'.set i none) H', rt := D.rt } (σ.set i (some (.ref a))) (upd H2 a (exO a C)) := Iff.rfl
end L2
namespace L2
open PySem PySem.Spec PyProof.Rows
section
variable {X : Cx}
def rStarts : V → List V → Hp → VK → Prop := fun x vs H Q => ∃ z y, ∃ i : Nat, x = .str z ∧ vs = [.str y, .int (i : Int)] ∧ Q (.bl (decide (i + y.length ≤ z.length) && Builtin.Str.subAt z y i)) H
end
section
variable {X : Cx}
def rPart : V → List V → Hp → VK → Prop := fun x vs H Q => ∃ z y, x = .str z ∧ vs = [.str y] ∧ (y.length == 0) = false ∧ z.length ≤ sizeLine ∧
 ∀ p, H p = none → Q (.ref p) (upd H p (.tup [.str (Txt.partition z y).1, .str (Txt.partition z y).2.1, .str (Txt.partition z y).2.2]))
end
section
variable {X : Cx}
def rIntS : List V → Hp → VK → Prop := fun xs H Q => ∃ z n, xs = [.str z] ∧ z.length ≤ 640 ∧ PySem.intText? z = some n ∧ Q (.int n) H
theorem oqr {z : Str} {H : Hp} {Q : VK} : rIntS [.str z] H Q ↔ ∃ n, z.length ≤ 640 ∧ PySem.intText? z = some n ∧ Q (.int n) H :=
 ⟨fun ⟨_, n, e, h⟩ => by cases e; exact ⟨n, h⟩, fun ⟨n, h⟩ => ⟨z, n, rfl, h⟩⟩
theorem pqK {z y : Str} {i : Nat} {H : Hp} {Q : VK} : rStarts (.str z) [.str y, .int (i : Int)] H Q ↔ Q (.bl (decide (i + y.length ≤ z.length) && Builtin.Str.subAt z y i)) H :=
 ⟨fun ⟨_, _, j, e1, e2, h⟩ => by
  cases e1
  injection e2 with e2 e3
  cases e2
  injection e3 with e3
  injection e3 with e3
  obtain rfl : i = j := by lia
  exact h, fun h => ⟨z, y, i, rfl, rfl, h⟩⟩
theorem qqr {z y : Str} {H : Hp} {Q : VK} : rPart (.str z) [.str y] H Q ↔ (y.length == 0) = false ∧ z.length ≤ sizeLine ∧ ∀ p, H p = none → Q (.ref p) (upd H p (.tup [.str (Txt.partition z y).1, .str (Txt.partition z y).2.1, .str (Txt.partition z y).2.2])) :=
 ⟨fun ⟨_, _, e1, e2, h⟩ => by cases e1; cases e2; exact h, fun h => ⟨z, y, rfl, rfl, h⟩⟩
theorem pqy {K : PySem.W.Frag} {ta : TE} {f : Str} {σ : St} {H : Hp} {Q : VK} : (tFld K ta f σ H Q) = (ta σ H fun x H1 => ∃ a C dx fs v, x = .ref a ∧ H1 a = some (.ins C dx fs) ∧ Cls K C ∧ NoAttr K C f ∧ fs.lookup f = some v ∧ Q v H1) := rfl
theorem oq9 {K : PySem.W.Frag} {ta tv : TE} {f : Str} {D : Ends} {σ : St} {H : Hp} : (sFld K ta tv f D σ H) = (tv σ H fun y H1 => ta σ H1 fun x H2 => ∃ a C dx fs, x = .ref a ∧ H2 a = some (.ins C dx fs) ∧ Cls K C ∧ NoAttr K C f ∧ fs.length < 1000 ∧ D.nx σ (upd H2 a (.ins C dx (putF f y fs)))) := rfl
theorem nqK {C : Addr} {m : Str} {sp : Sp} {dvs : List V} {E : XK} {ta : TE} {t : TA} {σ : St} {H : Hp} {Q : VK} : (tMeth C m sp dvs E ta t σ H Q) = (ta σ H fun x H1 => ∃ a dx fs, x = .ref a ∧ H1 a = some (.ins C dx fs) ∧ fs.lookup m = none ∧ t σ H1 fun vs H2 => sp (x :: (vs ++ dvs)) H2 Q E) := rfl
theorem oqU {C : Addr} {sp : Sp} {dvs : List V} {E : XK} {t : TA} {σ : St} {H : Hp} {Q : VK} : (tMake C sp dvs E t σ H Q) = (t σ H fun vs H1 => ∀ x dx, H1 x = none → H1 dx = none → dx ≠ x → sp (.ref x :: (vs ++ dvs)) (upd (upd H1 dx (.own x)) x (.ins C dx [])) (fun v H2 => v = .non ∧ Q (.ref x) H2) E) := rfl
end
end L2
namespace Wm
open PySem L2
def ahead (t : List Nat) : List Nat := t.takeWhile fun c => decide (c ≠ 58)
inductive WrT (fr : List Nat) : List Nat → List Nat → Prop
 | nil : WrT fr [] []
 | self {c : Nat} {s w : List Nat} : (isPl c = true ∨ c ∈ fr) → c ≠ 126 → WrT fr s w → WrT fr (c :: s) (c :: w)
 | pair {c a b : Nat} {s w : List Nat} : sgO a b = some c → WrT fr s w → WrT fr (c :: s) (126 :: a :: b :: w)
section
variable {K : PySem.W.Frag} {H : Hp} {C p : Addr} {t : List Nat} {i : Nat}
end
def frS : List Nat := (Str.ofString "!$'()*,;@&=+").cps.toList
def frQ : List Nat := (Str.ofString "!$'()*,;@+/?:").cps.toList
def ValW (o : Option (List Nat)) (w : List Nat) : Prop := match o with
 | none => w = []
 | some s => ∃ v, w = 61 :: v ∧ WrT frQ s v
inductive TlW : List (List Nat) → Bool → List Nat → Prop
 | stop : TlW [] false []
 | ends : TlW [] true [47]
 | more {s w : List Nat} {ss : List (List Nat)} {e : Bool} {v : List Nat} : WrT frS s w → s ≠ [] → TlW ss e v → TlW (s :: ss) e (47 :: (w ++ v))
inductive StpW : List (List Nat) → Bool → List Nat → Prop
 | none {e : Bool} : StpW [] e []
 | some {s w : List Nat} {ss : List (List Nat)} {e : Bool} {v : List Nat} : WrT frS s w → s ≠ [] → TlW ss e v → StpW (s :: ss) e (w ++ v)
inductive PrsW : List (List Nat × Option (List Nat)) → List Nat → Prop
 | nil : PrsW [] []
 | cons {n w v : List Nat} {o : Option (List Nat)} {ps : List (List Nat × Option (List Nat))} {r : List Nat} : WrT frQ n w → n ≠ [] → ValW o v → PrsW ps r → PrsW ((n, o) :: ps) (38 :: (w ++ (v ++ r)))
def valD (ds : List Nat) : Nat := ds.foldl (fun a c => a * 10 + (c - 48)) 0
theorem dqD (ds : List Nat) (c : Nat) : valD (ds ++ [c]) = valD ds * 10 + (c - 48) := by unfold valD; rw [List.foldl_append]; rfl
theorem kqM : ∀ (es ds : List Nat), valD ds ≤ valD (ds ++ es)
 | [], ds => by rw [List.append_nil]; exact Nat.le_refl _
 | c :: es, ds => by
  have h := kqM es (ds ++ [c])
  rw [dqD, List.append_assoc] at h
  exact Nat.le_trans (by lia) h
theorem mqn {ds : List Nat} {c : Nat} {r : List Nat} (h : ds = c :: r) (hc : 49 ≤ c) : 0 < valD ds := by
 have := kqM r [c]
 rw [h]
 have e : valD [c] = c - 48 := by unfold valD; simp
 show 0 < valD ([c] ++ r)
 lia
end Wm
namespace L2
open PySem
end L2
namespace Wm
open PySem L2
theorem gq7 : ∀ n : Nat, valD ((Nat.toDigits 10 n).map Char.toNat) = n ∧ (Nat.toDigits 10 n).map Char.toNat ≠ [] ∧ (((Nat.toDigits 10 n).map Char.toNat).head? = some 48 → n = 0)
 | n => by
  by_cases h : n < 10
  ·rw [Nat.toDigits_of_lt_base h]
   have key : ∀ n, n < 10 → valD ([Nat.digitChar n].map Char.toNat) = n ∧ ([Nat.digitChar n].map Char.toNat).head? = some (48 + n) := by decide +kernel
   obtain ⟨k1, k2⟩ := key n h
   refine ⟨k1, by simp, fun z => ?_⟩
   rw [k2] at z
   injection z with z
   lia
  ·have h' : 10 ≤ n := by lia
   rw [Nat.toDigits_of_base_le (by decide) h', List.map_append]
   obtain ⟨i1, i2, i3⟩ := gq7 (n / 10)
   have key : ∀ n, n < 10 → ([Nat.digitChar n].map Char.toNat) = [48 + n] := by decide +kernel
   rw [key (n % 10) (by lia), dqD, i1]
   refine ⟨by lia, by simp, fun z => ?_⟩
   cases hh : (Nat.toDigits 10 (n / 10)).map Char.toNat with
   | nil => exact absurd hh i2
   | cons c r =>
    rw [hh] at z i3
    have := i3 z
    lia
def GoodsT (n : Nat) (H : Hp) (vs : List V) : Prop := ∀ v ∈ vs, ∃ x : Ad, (x.Wf ∧ x.Tiny ∧ x.steps.length ≤ n) ∧ IsT H x.data v
theorem GoodsT.cons {n : Nat} {H : Hp} {v : V} {vs : List V} {x : Ad} (h1 : x.Wf ∧ x.Tiny ∧ x.steps.length ≤ n) (h3 : IsT H x.data v) (h : GoodsT n H vs) : GoodsT n H (v :: vs) := fun u hu => by
 rcases List.mem_cons.mp hu with rfl | hu
 ·exact ⟨x, h1, h3⟩
 ·exact h u hu
theorem Ad.Tiny.local {x : Ad} (h : x.Tiny) : ({ x with scheme := [], house := none, door := none } : Ad).Tiny := ⟨h.stp, h.que, h.mar, fun l e => by cases e⟩
end Wm
namespace L2
open PySem
end L2
namespace Wm
open PySem L2
def PrW (p : List Nat × Option (List Nat)) (w : List Nat) : Prop := ∃ a v, w = a ++ v ∧ WrT frQ p.1 a ∧ ValW p.2 v
inductive PrWs : List (List Nat × Option (List Nat)) → List (List Nat) → Prop
 | nil : PrWs [] []
 | cons {p : List Nat × Option (List Nat)} {w : List Nat} {ps : List (List Nat × Option (List Nat))} {ws : List (List Nat)} : PrW p w → PrWs ps ws → PrWs (p :: ps) (w :: ws)
inductive StWs : List (List Nat) → List (List Nat) → Prop
 | nil : StWs [] []
 | cons {s w : List Nat} {ss ws : List (List Nat)} : WrT frS s w → StWs ss ws → StWs (s :: ss) (w :: ws)
end Wm
namespace L2
open PySem PySem.Spec PyProof.Rows
section
variable {X : Cx} {pins : List (Addr × Obj)} {σ : St} {H : Hp} {s : Shared} {h' : Heap}
theorem Inv.walked {t' : Nat} {wr : List Addr} {T : Addr} {o : HO} (I : Inv X pins σ H s) (hf : ∀ b ∈ wr, FpOk X pins H b) (k : ∀ b u, b ∉ wr → s.heap.get? b = some u → h'.get? b = some u) (hT : s.heap.objs.size ≤ T)
  (new : ObjOk X.prog X.w (upd H T o) h' T o) : Inv X pins σ (upd H T o) { s with heap := h', toks := t' } := by
 have hn : H T = none := I.hok.fresh hT
 have nw : ∀ b u, H b = some u → b ∉ wr := fun b u e z => by rw [(hf b z).1] at e; cases e
 refine I.step (g' := s.gens) (d' := s.drawn) (ch := wr) (fun b hb => ?_) (fun b u _ _ hc e _ => k b u hc e) (fun b u _ _ hc e _ => ⟨u.slots, k b u hc e⟩) (fun b u _ q n => ?_)
  (fun b u hc e => ⟨u, k b u hc e⟩) (fun b xs q => ?_) (fun b u xs q => ?_) (fun b ps q => ?_) (fun m hm => ?_) (fun b u e => ?_) I.bare
 ·obtain ⟨f0, f1, f2, f3, f4, f5⟩ := hf b hb
  exact ⟨f3, f1, f4, f5⟩
 ·rw [aqj (Nat.ne_of_lt (Nat.lt_of_lt_of_le (Heap.lt_size q) hT))]; exact n
 ·rw [aqj (aqh q hn)]; exact q
 ·rw [aqj (aqh q hn)]; exact q
 ·exact ⟨#[], by rw [aqj (aqh q hn), q]; simp⟩
 ·obtain ⟨u, es, ep, ho, r⟩ := hm
  refine ⟨u, es, ep, k _ u (fun z => ?_) ho, r⟩
  exact (hf _ z).2.1 rfl
 ·by_cases hb : b = T
  ·subst hb; rw [aqk] at e; cases e; exact new
  ·rw [aqj hb] at e
   refine (I.hok b u e).stay (fun c v hc q => k c v ?_ q) (fun c q => by rw [aqj (aqh q hn)]; exact q) fun c xs q => by rw [aqj (aqh q hn)]; exact q
   rcases hc with z | z
   ·rw [z]; exact nw b u e
   ·exact nw c _ z
theorem Inv.turnedL {t' : Nat} {wr : List Addr} (I : Inv X pins σ H s) (hf : ∀ b ∈ wr, FpOk X pins H b) (k : ∀ b u, b ∉ wr → s.heap.get? b = some u → h'.get? b = some u) : Inv X pins σ H { s with heap := h', toks := t' } := by
 have nw : ∀ b u, H b = some u → b ∉ wr := fun b u e z => by rw [(hf b z).1] at e; cases e
 refine I.step (g' := s.gens) (d' := s.drawn) (ch := wr) (fun b hb => ?_) (fun b u _ _ hc e _ => k b u hc e) (fun b u _ _ hc e _ => ⟨u.slots, k b u hc e⟩) (fun _ _ _ _ n => n)
  (fun b u hc e => ⟨u, k b u hc e⟩) (fun _ _ e => e) (fun _ _ _ e => e) (fun b ps e => ⟨#[], by rw [e]; simp⟩) (fun m hm => ?_) (fun b u e => ?_) I.bare
 ·obtain ⟨f0, f1, f2, f3, f4, f5⟩ := hf b hb
  exact ⟨f3, f1, f4, f5⟩
 ·obtain ⟨u, es, ep, ho, r⟩ := hm
  refine ⟨u, es, ep, k _ u (fun z => ?_) ho, r⟩
  exact (hf _ z).2.1 rfl
 ·refine (I.hok b u e).stay (fun c v hc q => k c v ?_ q) (fun _ q => q) fun _ _ q => q
  rcases hc with z | z
  ·rw [z]; exact nw b u e
  ·exact nw c _ z
end
def ItW (n : Nat) (ok : Hp → Prop) (pt : Nat → Hp → List V → Prop) : It :=
 ⟨fun i H => i < n ∧ ok H, fun i H x H' => ∃ T xs, x = .ref T ∧ H T = none ∧ H' = upd H T (.tup xs) ∧ pt i H xs, fun i H => i = n ∧ ok H⟩
theorem iqj {P : Program} {w : World} {K : PySem.W.Frag} {elts : List Expr} {k : Nat} {pos : Pos} {I : Addr} {fp wr fq : List Addr} {n : Nat} {α : Type} {Pt : α → Nat → Array Value → Prop} {Sn : α → Nat → Heap → Prop} {Mid : α → Nat → Addr → Heap → Prop} {tn : Nat → Heap → Prop} {ok : Hp → Prop} {pt : Nat → Hp → List V → Prop}
  (hI : I ∈ fq) (hq : ∀ b ∈ wr, b ∈ fq) (hW : ∀ (A : Around) (a : α), A.handled = none → WalksT P w A I fp wr n (Pt a) (Sn a) (Mid a))
  (hself : ∀ (A : Around) (i : Nat) (s : Shared) (Q : Value → Shared → Prop) (E : Value → Shared → Prop), tn i s.heap → Q (.ref I) s → wpAny (model P w) A (pyIter (.ref I)) Q E s)
  (hobj : ∀ i h, tn i h → ∀ b ∈ fq, ∃ o, h.get? b = some o ∧ ∀ v, o.data ≠ .cell v)
  (hkeep : ∀ i h h', tn i h → (∀ b ∈ fq, ∀ o, h.get? b = some o → h'.get? b = some o) → tn i h')
  (hin : ∀ (X : Cx), X.prog = P → X.w = w → X.K = K → ∀ (i : Nat) (pins : List (Addr × Obj)) (s : Shared) (σ : St) (H : Hp), Inv X pins σ H s → (∀ b ∈ fq, FpOk X pins H b) → tn i s.heap → ok H → ∃ a, Sn a i s.heap ∧ ∀ vals, Pt a i vals → ∃ xs, xs.length ≤ sizeLine ∧ Vals xs vals.toList ∧ pt i H xs)
  (hout : ∀ a i h, Sn a i h → tn i h) :
  Turn P w K (.Tuple elts k pos) (ItW n ok pt) fq I tn where
 mem := hI
 obj := hobj
 keep := hkeep
 item := by
  intro X hP hw hK hc i pins s σ H E J hf st hg
  obtain ⟨hi, hok⟩ := hg
  have hfw : ∀ b ∈ wr, FpOk X pins H b := fun b hb => hf b (hq b hb)
  obtain ⟨a, hst, hv⟩ := hin X hP hw hK i pins s σ H J hf st hok
  obtain ⟨hW1, hW2, hW3, hW4, hW5, hW6, hW7⟩ := hW X.A a (J.ok.hd hc)
  refine hW3 i s _ E hi hst fun T vals h1 tk hPt hT hTup hmid hk => ?_
  refine ⟨.ref T, rfl, ?_⟩
  refine hW4 elts k pos i T _ _ E hmid fun h2 st2 hk2 => ?_
  obtain ⟨xs, hxl, hvs, hpt⟩ := hv vals hPt
  have hTw : T ∉ wr := hW5 i T h1 hmid
  have hTn : H T = none := J.hok.fresh hT
  have hk3 : ∀ b u, b ∉ wr → s.heap.get? b = some u → h2.get? b = some u := fun b u hb e => hk2 b u hb (hk b u hb e)
  obtain ⟨o, ho, hcl, m, hd⟩ := hTup
  have hT2 : IsTup h2 T vals.toList.toArray := by
   refine ⟨o, hk2 T o hTw ho, hcl, m, ?_⟩
   rw [hd]
  refine ⟨.ref T, upd H T (.tup xs), J.walked (t' := tk) hfw hk3 hT ⟨hxl, vals.toList, hvs, hT2⟩, rfl, ⟨T, xs, rfl, hTn, rfl, hpt⟩, hout a _ _ st2, fun b hb => ?_⟩
  have : b ≠ T := fun z => by
   obtain ⟨o, e, _⟩ := hobj i _ st b hb
   exact absurd (Heap.lt_size e) (by rw [z]; exact Nat.not_lt.mpr hT)
  rw [aqj this]
  exact (hf b hb).1
 done := by
  intro X hP hw hK hc i pins s σ H E J hf st hg
  obtain ⟨hi, hok⟩ := hg
  subst hi
  have hfw : ∀ b ∈ wr, FpOk X pins H b := fun b hb => hf b (hq b hb)
  obtain ⟨a, hst, _⟩ := hin X hP hw hK i pins s σ H J hf st hok
  obtain ⟨hW1, hW2, hW3, hW4, hW5, hW6, hW7⟩ := hW X.A a (J.ok.hd hc)
  exact hW6 s _ E hst fun h1 tk hk => ⟨rfl, J.turnedL hfw hk⟩
 self := hself
section
variable {σ : St} {H : Hp} {D : Ends} {g : TG} {tb : TS}
theorem lqW {n : Nat} {ok : Hp → Prop} {pt : Nat → Hp → List V → Prop} (Pv : Nat → St → Hp → Prop) (h0 : Pv 0 σ H) (hl : ∀ i σ H, i ≤ n → Pv i σ H → ok H)
  (hs : ∀ i σ H T xs, i < n → Pv i σ H → H T = none → pt i H xs → g (.ref T) σ (upd H T (.tup xs)) fun σ2 H2 => tb { D with nx := Pv (i + 1), ct := Pv (i + 1), bk := D.nx } σ2 H2) (hd : ∀ σ H, Pv n σ H → D.nx σ H) : LoopI (ItW n ok pt) g tb D σ H := by
 refine ⟨fun i m σ H => m = n - i ∧ i ≤ n ∧ Pv i σ H, ⟨n, by simp, Nat.zero_le _, h0⟩, ?_⟩
 rintro i m σ H ⟨rfl, hi, p⟩
 have hq := hl i σ H hi p
 by_cases hlt : i < n
 ·refine .inr ⟨⟨hlt, hq⟩, Pv (i + 1), fun σ' H' p' => ⟨n - (i + 1), by lia, rfl, hlt, p'⟩, fun x H' y => ?_⟩
  obtain ⟨T, xs, rfl, hT, rfl, hp⟩ := y
  exact hs i σ _ T xs hlt p hT hp
 ·have e : i = n := by lia
  subst e
  exact .inl ⟨⟨rfl, hq⟩, hd σ H p⟩
end
section
variable {prog : Program} {w : World} {A : Around} {E : Value → Shared → Prop} {s : Shared}
end
abbrev enuO (it : Addr) : Obj := { cls := .type "enumerate", data := .fields #[.none, .bool false, .ref it, rawInt 0, .none, .none] }
section
variable {prog : Program} {w : World} {A : Around} {E : Value → Shared → Prop} {s : Shared}
end
def ItE (K : PySem.W.Frag) (a : Addr) (xs : List V) : It := ItW xs.length (fun H => SqT K H a xs) fun i _ ys => ∃ v, xs[i]? = some v ∧ ys = [.int (i : Int), v]
section
variable {X : Cx} {K : PySem.W.Frag} {elts : List Expr} {kk : Nat} {tpos : Pos}
def iEnum (K : PySem.W.Frag) (ta : TA) : TI := fun σ H R => ta σ H fun vs H1 => ∃ a xs, vs = [.ref a] ∧ SqT K H1 a xs ∧ R (ItE K a xs) H1
variable {σ : St} {H : Hp} {D : Ends} {g : TG} {tb : TS} {aa : TA}
theorem pqc : (tFor (iEnum K aa) g tb D σ H) = (aa σ H fun vs H1 => ∃ a xs, vs = [.ref a] ∧ SqT K H1 a xs ∧ LoopI (ItE K a xs) g tb D σ H1) := rfl
end
structure Zap (z TI TO i1 i2 l1 l2 : Addr) : Prop where
 a1 : TI ≠ z ∧ TO ≠ z ∧ i1 ≠ z ∧ i2 ≠ z ∧ l1 ≠ z ∧ l2 ≠ z
 a2 : TI ≠ TO ∧ TI ≠ i1 ∧ TI ≠ i2 ∧ TO ≠ i1 ∧ TO ≠ i2 ∧ i1 ≠ i2
 a3 : l1 ≠ TO ∧ l2 ≠ TO ∧ l1 ≠ i2 ∧ l2 ≠ i1
section
variable {prog : Program} {w : World} {A : Around} {E : Value → Shared → Prop} {s : Shared}
variable {z TI TO i1 i2 l1 l2 : Addr} {n1 n2 k : Nat} {P1 P2 : Nat → Value → Prop} {S1 S2 : Nat → Heap → Prop}
theorem still {it l b : Addr} {n i : Nat} {P : Nat → Value → Prop} {S : Nat → Heap → Prop} {h h' : Heap} (D : Draws prog w A it [it, l] n P S) (st : S i h) (e : Heap.ExtBut b h h') (h1 : it ≠ b) (h2 : l ≠ b) : S i h' :=
 D.frame i h h' st fun c hc o q => e c o (by rcases List.mem_cons.mp hc with rfl | hc; exact h1; rw [List.mem_singleton.mp hc]; exact h2) q
theorem mqz (hh : A.handled = none) (d1 : ∀ A : Around, A.handled = none → Draws prog w A i1 [i1, l1] n1 P1 S1) (d2 : ∀ A : Around, A.handled = none → Draws prog w A i2 [i2, l2] n2 P2 S2) (ap : Zap z TI TO i1 i2 l1 l2) {a b : Value} {Q : Value → Shared → Prop}
  (hz : IsZip s.heap z TI TO .none) (hTI : IsPair s.heap TI (.ref i1) (.ref i2)) (hTO : IsPair s.heap TO a b) (t1 : S1 k s.heap) (t2 : S2 k s.heap) (k1 : k < n1) (k2 : k < n2)
  (q : ∀ x y h' tk, P1 k x → P2 k y → IsZip h' z TI TO (rawInt s.heap.objs.size) → IsPair h' TO x y → S1 (k + 1) h' → S2 (k + 1) h' → IsPair h' s.heap.objs.size x y →
   (∀ c o, c ≠ z → c ≠ TO → c ≠ i1 → c ≠ i2 → s.heap.get? c = some o → h'.get? c = some o) → Q (.ref s.heap.objs.size) { s with heap := h', toks := tk }) :
  wpAny (model prog w) A (Builtin.«zip.__next__» ⟨[.ref z], []⟩) (fun fin s' => ∃ v, fin = .done (.ret v) ∧ Q v s') E s := by
 obtain ⟨⟨p1, p2, p3, p4, p5, p6⟩, ⟨q1, q2, q3, q4, q5, q6⟩, r1, r2, r3, r4⟩ := ap
 show wpAny _ _ (field (.ref z) 2 >>= _) _ _ s
 refine wpAny_bind (wpAny_field (s := s) hz rfl (x := .bool false) rfl ?_)
 show wpAny _ _ (field (.ref z) 3 >>= _) _ _ s
 refine wpAny_bind (wpAny_field (s := s) hz rfl (x := .ref TI) rfl (wpAny_bind (wpAny_seqItems hTI rfl ?_)))
 show wpAny _ _ (Builtin.SmallTypes.ownedTupleIsFree (.ref z) >>= _) _ _ s
 unfold Builtin.SmallTypes.ownedTupleIsFree
 refine wpAny_bind (wpAny_bind (wpAny_field (s := s) hz rfl (x := .none) rfl (wpAny_pure ?_)))
 simp only [if_true]
 refine wpAny_bind (wpAny_rule (wpAny_bind (wpAny_field (s := s) hz rfl (x := .ref TO) rfl (wpAny_bind (wpAny_setField_rec hz (by simp) fun ha za sa => ?_)))))
 replace za : IsZip ha z TI TO .ellipsis := za
 simp only [List.zipIdx_cons, List.zipIdx_nil, List.forIn_cons, List.forIn_nil]
 refine wpAny_bind (wpAny_bind (wpAny_bind (wpAny_onRaise ?_)))
 show wpAny _ _ (Builtin.SmallTypes.nextOf (.ref i1) >>= _) _ _ _
 refine wpAny_bind ((d1 A hh).item k _ _ _ k1 (still (d1 A hh) t1 sa.extBut p3 p5) fun x hb tb px s1b sb => wpAny_pure ?_)
 have ob : IsPair hb TO a b := sb.extBut _ _ q4 (sa.extBut _ _ p2 hTO)
 refine wpAny_bind (wpAny_seqItems ob rfl (wpAny_bind (wpAny_updateSeq_pair ob fun hc oc sc => wpAny_bind (wpAny_letGo (wpAny_pure ?_)))))
 replace oc : IsPair hc TO x b := oc
 refine wpAny_bind (wpAny_bind (wpAny_onRaise ?_))
 show wpAny _ _ (Builtin.SmallTypes.nextOf (.ref i2) >>= _) _ _ _
 have t2c : S2 k hc := still (d2 A hh) (still (d2 A hh) (still (d2 A hh) t2 sa.extBut p4 p6) sb.extBut q6.symm r4) sc.extBut q5.symm r2
 refine wpAny_bind ((d2 A hh).item k _ _ _ k2 t2c fun y hd td py s2d sd => wpAny_pure ?_)
 have od : IsPair hd TO x b := sd.extBut _ _ q5 oc
 refine wpAny_bind (wpAny_seqItems od rfl (wpAny_bind (wpAny_updateSeq_pair od fun he oe se => wpAny_bind (wpAny_letGo (wpAny_pure (wpAny_pure ?_))))))
 replace oe : IsPair he TO x y := oe
 refine wpAny_bind (wpAny_seqItems oe rfl (wpAny_bind (wpAny_newTuple ?_)))
 have ze : IsZip he z TI TO .ellipsis := se.extBut _ _ p2.symm (sd.extBut _ _ p4.symm (sc.extBut _ _ p2.symm (sb.extBut _ _ p3.symm za)))
 have hsz : he.objs.size = s.heap.objs.size := by rw [se.1, sd.1, sc.1, sb.1, sa.1]
 have ke : ∀ c o, c ≠ z → c ≠ TO → c ≠ i1 → c ≠ i2 → s.heap.get? c = some o → he.get? c = some o := fun c o c1 c2 c3 c4 e => se.extBut _ _ c2 (sd.extBut _ _ c4 (sc.extBut _ _ c2 (sb.extBut _ _ c3 (sa.extBut _ _ c1 e))))
 have s1e : S1 (k + 1) he := still (d1 A hh) (still (d1 A hh) (still (d1 A hh) s1b sc.extBut q4.symm r1) sd.extBut q6 r3) se.extBut q4.symm r1
 have s2e : S2 (k + 1) he := still (d2 A hh) s2d se.extBut q5.symm r2
 have zl : z < he.objs.size := Heap.lt_size ze
 show wpAny _ _ (Builtin.SmallTypes.ownedTupleHandOut (.ref z) (.ref he.objs.size) >>= _) _ _ _
 unfold Builtin.SmallTypes.ownedTupleHandOut
 have zf : IsZip (he.push { cls := .type "tuple", data := .seq #[x, y] }) z TI TO .ellipsis := Heap.get?_push_of_some _ ze
 refine wpAny_bind (wpAny_bind (wpAny_setField_rec zf (by simp) fun hf zg sf => ?_))
 replace zg : IsZip hf z TI TO (rawInt he.objs.size) := zg
 refine wpAny_setField_rec zg (by simp) fun hg zh sg => ?_
 replace zh : IsZip hg z TI TO (rawInt he.objs.size) := zh
 have up : ∀ c o, c ≠ z → he.get? c = some o → hg.get? c = some o := fun c o c1 e => sg.extBut _ _ c1 (sf.extBut _ _ c1 (Heap.get?_push_of_some _ e))
 have tg : IsPair hg he.objs.size x y := sg.extBut _ _ (Nat.ne_of_gt zl) (sf.extBut _ _ (Nat.ne_of_gt zl) (Heap.get?_push_size _ rfl))
 rw [hsz] at zh tg
 refine wpAny_pure ⟨_, rfl, ?_⟩
 show Q (.ref he.objs.size) _
 rw [hsz]
 exact q x y hg td px py zh (up _ _ p2 oe) ((d1 A hh).frame _ _ _ s1e fun c hc o e => up c o (by rcases List.mem_cons.mp hc with rfl | hc; exact p3; rw [List.mem_singleton.mp hc]; exact p5) e) ((d2 A hh).frame _ _ _ s2e fun c hc o e => up c o (by rcases List.mem_cons.mp hc with rfl | hc; exact p4; rw [List.mem_singleton.mp hc]; exact p6) e) tg fun c o c1 c2 c3 c4 e => up c o c1 (ke c o c1 c2 c3 c4 e)
theorem mq1 (hh : A.handled = none) (d1 : ∀ A : Around, A.handled = none → Draws prog w A i1 [i1, l1] n1 P1 S1) (d2 : ∀ A : Around, A.handled = none → Draws prog w A i2 [i2, l2] n2 P2 S2) (ap : Zap z TI TO i1 i2 l1 l2) {a b : Value} {Q : Fin → Shared → Prop}
  (hz : IsZip s.heap z TI TO .none) (hTI : IsPair s.heap TI (.ref i1) (.ref i2)) (hTO : IsPair s.heap TO a b) (t1 : S1 k s.heap) (t2 : S2 k s.heap) (hk : k = n1 ∨ (k < n1 ∧ k = n2))
  (q : ∀ h' e tk, (∀ c o, c ≠ z → c ≠ TO → c ≠ i1 → c ≠ i2 → s.heap.get? c = some o → h'.get? c = some o) → (∃ o, h'.get? e = some o ∧ o.cls = .type "StopIteration") → E (.ref e) { s with heap := h', toks := tk }) :
  wpAny (model prog w) A (Builtin.«zip.__next__» ⟨[.ref z], []⟩) Q E s := by
 obtain ⟨⟨p1, p2, p3, p4, p5, p6⟩, ⟨q1, q2, q3, q4, q5, q6⟩, r1, r2, r3, r4⟩ := ap
 show wpAny _ _ (field (.ref z) 2 >>= _) _ _ s
 refine wpAny_bind (wpAny_field (s := s) hz rfl (x := .bool false) rfl ?_)
 show wpAny _ _ (field (.ref z) 3 >>= _) _ _ s
 refine wpAny_bind (wpAny_field (s := s) hz rfl (x := .ref TI) rfl (wpAny_bind (wpAny_seqItems hTI rfl ?_)))
 show wpAny _ _ (Builtin.SmallTypes.ownedTupleIsFree (.ref z) >>= _) _ _ s
 unfold Builtin.SmallTypes.ownedTupleIsFree
 refine wpAny_bind (wpAny_bind (wpAny_field (s := s) hz rfl (x := .none) rfl (wpAny_pure ?_)))
 simp only [if_true]
 refine wpAny_bind (wpAny_rule (wpAny_bind (wpAny_field (s := s) hz rfl (x := .ref TO) rfl (wpAny_bind (wpAny_setField_rec hz (by simp) fun ha za sa => ?_)))))
 replace za : IsZip ha z TI TO .ellipsis := za
 simp only [List.zipIdx_cons, List.zipIdx_nil, List.forIn_cons, List.forIn_nil]
 refine wpAny_bind (wpAny_bind (wpAny_bind (wpAny_onRaise ?_)))
 show wpAny _ _ (Builtin.SmallTypes.nextOf (.ref i1) >>= _) _ _ _
 rcases hk with rfl | ⟨k1, rfl⟩
 ·refine wpAny_bind ((d1 A hh).done _ _ _ (still (d1 A hh) t1 sa.extBut p3 p5) fun hb e sb W' => ?_)
  obtain ⟨oe, ho, hc⟩ := W'
  have zb : IsZip hb z TI TO .ellipsis := sb _ _ p3.symm za
  have ez : e ≠ z := fun y => by subst y; rw [zb] at ho; cases ho; simp at hc
  exact wpAny_setField_rec zb (by simp) fun hd _ sd => q hd e _ (fun c o c1 _ c3 _ y => sd.extBut _ _ c1 (sb _ _ c3 (sa.extBut _ _ c1 y))) ⟨oe, sd.extBut _ _ ez ho, hc⟩
 refine wpAny_bind ((d1 A hh).item _ _ _ _ k1 (still (d1 A hh) t1 sa.extBut p3 p5) fun x hb tb px s1b sb => wpAny_pure ?_)
 have ob : IsPair hb TO a b := sb.extBut _ _ q4 (sa.extBut _ _ p2 hTO)
 refine wpAny_bind (wpAny_seqItems ob rfl (wpAny_bind (wpAny_updateSeq_pair ob fun hc oc sc => wpAny_bind (wpAny_letGo (wpAny_pure ?_)))))
 refine wpAny_bind (wpAny_bind (wpAny_onRaise ?_))
 show wpAny _ _ (Builtin.SmallTypes.nextOf (.ref i2) >>= _) _ _ _
 have t2c := still (d2 A hh) (still (d2 A hh) (still (d2 A hh) t2 sa.extBut p4 p6) sb.extBut q6.symm r4) sc.extBut q5.symm r2
 refine wpAny_bind ((d2 A hh).done _ _ _ t2c fun hd e sd W' => ?_)
 obtain ⟨oe, ho, hce⟩ := W'
 have zd : IsZip hd z TI TO .ellipsis := sd _ _ p4.symm (sc.extBut _ _ p2.symm (sb.extBut _ _ p3.symm za))
 have ez : e ≠ z := fun y => by subst y; rw [zd] at ho; cases ho; simp at hce
 exact wpAny_setField_rec zd (by simp) fun hf _ sf => q hf e _ (fun c o c1 c2 c3 c4 y => sf.extBut _ _ c1 (sd _ _ c4 (sc.extBut _ _ c2 (sb.extBut _ _ c3 (sa.extBut _ _ c1 y))))) ⟨oe, sf.extBut _ _ ez ho, hce⟩
theorem lq6 (hh : A.handled = none) (d1 : ∀ A : Around, A.handled = none → Draws prog w A i1 [i1, l1] n1 P1 S1) (d2 : ∀ A : Around, A.handled = none → Draws prog w A i2 [i2, l2] n2 P2 S2) (ap : Zap z TI TO i1 i2 l1 l2) :
  WalksT prog w A z [z, TI, TO, i1, i2, l1, l2] [z, TO, i1, i2] (min n1 n2) (fun i vals => ∃ x y, P1 i x ∧ P2 i y ∧ vals = #[x, y])
   (fun i h => IsZip h z TI TO .none ∧ IsPair h TI (.ref i1) (.ref i2) ∧ (∃ a b, IsPair h TO a b) ∧ S1 i h ∧ S2 i h)
   (fun i T h => IsZip h z TI TO (rawInt T) ∧ IsPair h TI (.ref i1) (.ref i2) ∧ (∃ a b, IsPair h TO a b) ∧ S1 (i + 1) h ∧ S2 (i + 1) h ∧ T ≠ z ∧ T ≠ TO ∧ T ≠ i1 ∧ T ≠ i2) where
 sub := fun c hc => by simp at hc ⊢; rcases hc with rfl | rfl | rfl | rfl <;> simp
 frame := fun i h h' st hk => by
  obtain ⟨hz, hTI, ⟨a, b, hTO⟩, t1, t2⟩ := st
  exact ⟨hk z (by simp) _ hz, hk TI (by simp) _ hTI, ⟨a, b, hk TO (by simp) _ hTO⟩, (d1 A hh).frame _ _ _ t1 fun c hc o e => hk c (by simp at hc ⊢; rcases hc with rfl | rfl <;> simp) o e, (d2 A hh).frame _ _ _ t2 fun c hc o e => hk c (by simp at hc ⊢; rcases hc with rfl | rfl <;> simp) o e⟩
 item := fun i s Q E hi st hQ => by
  obtain ⟨hz, hTI, ⟨a, b, hTO⟩, t1, t2⟩ := st
  have hT : s.TypeIs (.ref z) "zip" := ⟨_, hz, rfl⟩
  have lt : ∀ {c o}, s.heap.get? c = some o → s.heap.objs.size ≠ c := fun e => Nat.ne_of_gt (Heap.lt_size e)
  unfold pyNext
  refine wpAny_bind (wpAny_attempt (wpAny_callSpecial?_slot (name := Str.ofString "__next__") hT F.slot_zip_next (wpAny_call_entry F.slot_zip_next hT F.entry_zip_next ?_ (F.args_zip_next_1 _))))
  refine mqz (A := A.in1) hh d1 d2 ap hz hTI hTO t1 t2 (Nat.lt_of_lt_of_le hi (Nat.min_le_left ..)) (Nat.lt_of_lt_of_le hi (Nat.min_le_right ..)) fun x y h' tk px py z' o' s1 s2 T' hk => wpAny_pure ?_
  obtain ⟨o1, e1⟩ := (d1 A hh).live _ _ t1
  obtain ⟨o2, e2⟩ := (d2 A hh).live _ _ t2
  exact hQ s.heap.objs.size #[x, y] h' tk ⟨x, y, px, py, rfl⟩ (Nat.le_refl _) ⟨_, T', rfl, _, rfl⟩
   ⟨z', hk _ _ ap.a1.1 ap.a2.1 ap.a2.2.1 ap.a2.2.2.1 hTI, ⟨_, _, o'⟩, s1, s2, lt hz, lt hTO, lt e1, lt e2⟩
   fun c o hc e => hk c o (fun y => hc (by simp [y])) (fun y => hc (by simp [y])) (fun y => hc (by simp [y])) (fun y => hc (by simp [y])) e
 go := fun elts k pos i T s Q E hm hQ => by
  obtain ⟨hz, hTI, ⟨a, b, hTO⟩, t1, t2, _⟩ := hm
  obtain ⟨⟨p1, p2, p3, p4, p5, p6⟩, _⟩ := ap
  exact wpAny_letOwnedTupleGo_zip hz fun h' z' s' => hQ h' ⟨z', s'.extBut _ _ p1 hTI, ⟨a, b, s'.extBut _ _ p2 hTO⟩, still (d1 A hh) t1 s'.extBut p3 p5, still (d2 A hh) t2 s'.extBut p4 p6⟩ fun c o hc e => s'.extBut _ _ (fun y => hc (by simp [y])) e
 apart := fun i T h hm hT => by
  obtain ⟨_, _, _, _, _, t1, t2, t3, t4⟩ := hm
  simp only [List.mem_cons, List.not_mem_nil, or_false] at hT
  rcases hT with h | h | h | h
  ·exact t1 h
  ·exact t2 h
  ·exact t3 h
  ·exact t4 h
 done := fun s Q E st hQ => by
  obtain ⟨hz, hTI, ⟨a, b, hTO⟩, t1, t2⟩ := st
  have hT : s.TypeIs (.ref z) "zip" := ⟨_, hz, rfl⟩
  unfold pyNext
  refine wpAny_bind (wpAny_attempt (wpAny_callSpecial?_slot (name := Str.ofString "__next__") hT F.slot_zip_next (wpAny_call_entry F.slot_zip_next hT F.entry_zip_next ?_ (F.args_zip_next_1 _))))
  refine mq1 (A := A.in1) hh d1 d2 ap hz hTI hTO t1 t2 (by lia) fun h' e tk hk W' => ?_
  obtain ⟨o, ho, hc⟩ := W'
  refine wpAny_bind (wpAny_isInstance (T := "StopIteration") (b := true) ⟨o, ho, hc⟩ isSubtype_stop (wpAny_pure (hQ h' tk fun c o hc e => ?_)))
  exact hk c o (fun y => hc (by simp [y])) (fun y => hc (by simp [y])) (fun y => hc (by simp [y])) (fun y => hc (by simp [y])) e
 self := fun i s Q E st hQ => wpAny_pyIter_zip st.1 hQ
end
section
variable {prog : Program} {w : World} {A : Around} {E : Value → Shared → Prop} {s : Shared}
end
def ItZ (K : PySem.W.Frag) (a b : Addr) (xs ys : List V) : It := ItW (min xs.length ys.length) (fun H => SqT K H a xs ∧ SqT K H b ys) fun i _ vs => ∃ x y, xs[i]? = some x ∧ ys[i]? = some y ∧ vs = [x, y]
section
variable {X : Cx} {K : PySem.W.Frag} {elts : List Expr} {kk : Nat} {tpos : Pos}
theorem nqF {n a b : Nat} (ha : a < n) (hb : b < n) : Zap (n + 4) (n + 2) (n + 3) n (n + 1) a b := by
 refine ⟨⟨?_, ?_, ?_, ?_, ?_, ?_⟩, ⟨?_, ?_, ?_, ?_, ?_, ?_⟩, ?_, ?_, ?_, ?_⟩ <;> (show ¬ ((_ : Nat) = _)) <;> lia
def iZip (K : PySem.W.Frag) (ta : TA) : TI := fun σ H R => ta σ H fun vs H1 => ∃ a b xs ys, vs = [.ref a, .ref b] ∧ SqT K H1 a xs ∧ SqT K H1 b ys ∧ R (ItZ K a b xs ys) H1
variable {σ : St} {H : Hp} {D : Ends} {g : TG} {tb : TS} {aa : TA}
theorem oqn : (tFor (iZip K aa) g tb D σ H) = (aa σ H fun vs H1 => ∃ a b xs ys, vs = [.ref a, .ref b] ∧ SqT K H1 a xs ∧ SqT K H1 b ys ∧ LoopI (ItZ K a b xs ys) g tb D σ H1) := rfl
variable {p : Addr} {fv : St} {tt : TT} {te : TE} {Q : VK} {H1 : Hp} {fr : List Nat}
theorem lq2 : (tComp2 K (iZip K aa) fr tt te σ H Q) = (aa σ H fun vs H1 => ∃ a b xs ys, vs = [.ref a, .ref b] ∧ SqT K H1 a xs ∧ SqT K H1 b ys ∧ ∀ p, H1 p = none → CompI2 K (ItZ K a b xs ys) p (frV σ fr) tt te Q H1) := rfl
end
section
variable {p : Addr} {fv : St} {tt : TT} {te : TE} {Q : VK} {H1 H : Hp} {fr : List Nat} {aa : TA} {σ : St}
theorem kqN : (tComp (iRng1 aa) fr tt te σ H Q) = (aa σ H fun vs H1 => ∃ j : Int, vs = [.int j] ∧ -(2 ^ 62) ≤ j ∧ j < 2 ^ 62 ∧ ∀ p, H1 p = none → CompI (Itr 0 j.toNat) p (frV σ fr) tt te Q H1) := rfl
theorem jqd {n : Nat} (J : Nat → List V → Hp → Prop) (hlen : n ≤ sizeLine) (h0 : J 0 [] (upd H1 p (.lst [])))
  (he : ∀ (i : Nat) (ys : List V) (H2 : Hp) (T : VK), i < n → J i ys H2 → H2 p = some (.lst ys) → (∀ y H3, H3 p = some (.lst ys) → J (i + 1) (ys ++ [y]) (upd H3 p (.lst (ys ++ [y]))) → T y H3) → te (some (.int (0 + (i : Int))) :: fv) H2 T)
  (hQ : ∀ ys H2, J n ys H2 → H2 p = some (.lst ys) → Q (.ref p) H2) : CompI (Itr 0 n) p fv tYes te Q H1 := by
 refine ⟨fun i m ys H2 => m = n - i ∧ i ≤ n ∧ ys.length = i ∧ H2 p = some (.lst ys) ∧ J i ys H2, ⟨n, by simp, Nat.zero_le _, rfl, aqk, h0⟩, ?_⟩
 rintro i m ys H2 ⟨rfl, hi, hyl, hp2, hJ⟩
 refine ⟨hp2, ?_⟩
 by_cases hlt : i < n
 ·refine .inr ⟨hlt, by lia, fun x H3 y => ?_⟩
  obtain ⟨rfl, rfl⟩ := y
  unfold tYes
  dsimp only
  rw [if_pos rfl]
  exact he i ys _ _ hlt hJ hp2 fun y H5 hp5 hJ5 => ⟨hp5, n - (i + 1), by lia, rfl, hlt, by rw [List.length_append, hyl]; rfl, aqk, hJ5⟩
 ·have e : i = n := by lia
  subst e
  exact .inl ⟨Nat.le_refl _, hQ ys H2 hJ hp2⟩
end
abbrev litO (t : Addr) : Obj := { cls := .type "list_iterator", data := .fields #[.ref t, .int 0 0] }
abbrev yA (h : Heap) (a : Addr) : Heap := h.push (litO a)
abbrev yB (h : Heap) (a b : Addr) : Heap := (yA h a).push (litO b)
abbrev yC (h : Heap) (a b : Addr) : Heap := (yB h a b).push { cls := .type "tuple", data := .seq #[.ref h.objs.size, .ref (yA h a).objs.size] }
abbrev yD (h : Heap) (a b : Addr) : Heap := (yC h a b).push { cls := .type "tuple", data := .seq #[.none, .none] }
abbrev yE (h : Heap) (a b : Addr) : Heap := (yD h a b).push { cls := .type "zip", data := .fields #[.none, .bool false, .bool false, .ref (yB h a b).objs.size, .ref (yC h a b).objs.size] }
theorem mqR (a b : Addr) (xs ys : Array Value) : Meets (Builtin.«zip.__new__» ⟨[.type "zip", .ref a, .ref b], []⟩) (fun _ R s => s.heap.IsList a xs ∧ s.heap.IsList b ys ∧ R (.ok (.ret (.ref (yD s.heap a b).objs.size))) { s with heap := yE s.heap a b }) :=
 .of_wp fun prog w A R s h => by
  obtain ⟨hp, g, d, tk, os⟩ := s; obtain ⟨ha, hb, h⟩ := h
  have hsub := sub_zip
  have h1 : Heap.IsList (Shared.heap ⟨hp, g, d, tk, os⟩) a xs := ha
  have h2 : Heap.IsList (Shared.heap ⟨hp.push (litO a), g, d, tk, os⟩) b ys := Heap.IsList.push hb _
  wp_walk using wpAny_pyIter_list h1, wpAny_pyIter_list h2
  exact ⟨_, rfl, h⟩
section
variable {prog : Program} {w : World} {A : Around} {E : Value → Shared → Prop} {s : Shared}
theorem kqQ {a b : Addr} {xs ys : Array Value} {Q : Value → Shared → Prop} (ha : s.heap.IsList a xs) (hb : s.heap.IsList b ys)
  (h : ∀ h', IsZip h' (s.heap.objs.size + 4) (s.heap.objs.size + 2) (s.heap.objs.size + 3) .none → IsPair h' (s.heap.objs.size + 2) (.ref s.heap.objs.size) (.ref (s.heap.objs.size + 1)) → IsPair h' (s.heap.objs.size + 3) .none .none →
   h'.IsListIter s.heap.objs.size a 0 → h'.IsListIter (s.heap.objs.size + 1) b 0 → (∀ c o, s.heap.get? c = some o → h'.get? c = some o) → Q (.ref (s.heap.objs.size + 4)) { s with heap := h' }) :
  wpAny (model prog w) A (call (.type "zip") [.ref a, .ref b]) Q E s := by
 refine callType_new F.called_zip (by decide) (F.typeCall_zip_2 _ _) (F.newCall_zip_2 _ _) (fun obj => F.args_object_init_3 obj _ _) F.entry_zip_new (mqR a b xs ys) ⟨ha, hb, ?_⟩
 have y1 : (yA s.heap a).objs.size = s.heap.objs.size + 1 := Heap.size_push ..
 have y2 : (yB s.heap a b).objs.size = s.heap.objs.size + 2 := by rw [Heap.size_push, y1]
 have y3 : (yC s.heap a b).objs.size = s.heap.objs.size + 3 := by rw [Heap.size_push, y2]
 have y4 : (yD s.heap a b).objs.size = s.heap.objs.size + 4 := by rw [Heap.size_push, y3]
 have up : ∀ {h : Heap} {o : Obj} {c : Addr} {u : Obj}, h.get? c = some u → (h.push o).get? c = some u := fun e => Heap.get?_push_of_some _ e
 have e5 : (yE s.heap a b).get? (yD s.heap a b).objs.size = some _ := Heap.get?_push_size _ rfl
 have e4 : (yE s.heap a b).get? (yC s.heap a b).objs.size = some _ := up (Heap.get?_push_size _ rfl)
 have e3 : (yE s.heap a b).get? (yB s.heap a b).objs.size = some _ := up (up (Heap.get?_push_size _ rfl))
 have e2 : (yE s.heap a b).get? (yA s.heap a).objs.size = some _ := up (up (up (Heap.get?_push_size _ rfl)))
 have e1 : (yE s.heap a b).get? s.heap.objs.size = some _ := up (up (up (up (Heap.get?_push_size _ rfl))))
 show _ ∧ _
 rw [y2, y3, y4] at e5
 rw [y1, y2] at e3
 rw [y3] at e4
 rw [y1] at e2
 rw [y4]
 exact ⟨⟨_, e5, rfl⟩, h _ e5 e3 e4 ⟨_, e1, rfl, rfl⟩ ⟨_, e2, rfl, rfl⟩ fun c o x => up (up (up (up (up x))))⟩
end
def ItZL (K : PySem.W.Frag) (a b : Addr) (xs ys : List V) : It := ItW (min xs.length ys.length) (fun H => SqL K H a xs ∧ SqL K H b ys) fun i _ vs => ∃ x y, xs[i]? = some x ∧ ys[i]? = some y ∧ vs = [x, y]
theorem lqN {P : Program} {w : World} {K : PySem.W.Frag} {elts : List Expr} {k : Nat} {pos : Pos} {z TI TO i1 i2 a b : Addr} (xs ys : List V) (ap : Zap z TI TO i1 i2 a b) (h1 : a ≠ i1) (h2 : b ≠ i2) :
  Turn P w K (.Tuple elts k pos) (ItZL K a b xs ys) [z, TO, i1, i2, TI] z (fun i h => IsZip h z TI TO .none ∧ IsPair h TI (.ref i1) (.ref i2) ∧ (∃ u v, IsPair h TO u v) ∧ h.IsListIter i1 a i ∧ h.IsListIter i2 b i) := by
 refine iqj (fp := [z, TI, TO, i1, i2, a, b]) (wr := [z, TO, i1, i2]) (α := { q : Array Value × Array Value // q.1.size = xs.length ∧ q.2.size = ys.length }) (Pt := fun q i vals => ∃ x y, q.1.1[i]? = some x ∧ q.1.2[i]? = some y ∧ vals = #[x, y])
  (Sn := fun q i h => IsZip h z TI TO .none ∧ IsPair h TI (.ref i1) (.ref i2) ∧ (∃ a b, IsPair h TO a b) ∧ (h.IsListIter i1 a i ∧ h.IsList a q.1.1) ∧ (h.IsListIter i2 b i ∧ h.IsList b q.1.2))
  (Mid := fun q i T h => IsZip h z TI TO (rawInt T) ∧ IsPair h TI (.ref i1) (.ref i2) ∧ (∃ a b, IsPair h TO a b) ∧ (h.IsListIter i1 a (i + 1) ∧ h.IsList a q.1.1) ∧ (h.IsListIter i2 b (i + 1) ∧ h.IsList b q.1.2) ∧ T ≠ z ∧ T ≠ TO ∧ T ≠ i1 ∧ T ≠ i2)
  (by simp) (fun b hb => by simp at hb ⊢; rcases hb with rfl | rfl | rfl | rfl <;> simp) (fun A q hh => ?_) (fun A i s Q E st q => wpAny_pyIter_zip st.1 q) (fun i h st b hb => ?_) (fun i h h' st kp => ?_) ?_ (fun q i h st => ⟨st.1, st.2.1, st.2.2.1, st.2.2.2.1.1, st.2.2.2.2.1⟩)
 ·have := lq6 (prog := P) (w := w) (A := A) hh (fun B hB => Draws.list (prog := P) (w := w) (A := B) hB i1 a h1 q.1.1) (fun B hB => Draws.list (prog := P) (w := w) (A := B) hB i2 b h2 q.1.2) ap
  rw [q.2.1, q.2.2] at this
  exact this
 ·obtain ⟨hz, hI, ⟨u, v, hO⟩, ⟨o1, e1, c1, d1⟩, o2, e2, c2, d2⟩ := st
  simp only [List.mem_cons, List.not_mem_nil, or_false] at hb
  rcases hb with rfl | rfl | rfl | rfl | rfl
  ·exact ⟨_, hz, fun v z => by cases z⟩
  ·exact ⟨_, hO, fun v z => by cases z⟩
  ·exact ⟨o1, e1, fun v z => by rw [d1] at z; cases z⟩
  ·exact ⟨o2, e2, fun v z => by rw [d2] at z; cases z⟩
  ·exact ⟨_, hI, fun v z => by cases z⟩
 ·obtain ⟨hz, hI, ⟨u, v, hO⟩, ⟨o1, e1, r1⟩, o2, e2, r2⟩ := st
  exact ⟨kp z (by simp) _ hz, kp TI (by simp) _ hI, ⟨u, v, kp TO (by simp) _ hO⟩, ⟨o1, kp i1 (by simp) _ e1, r1⟩, o2, kp i2 (by simp) _ e2, r2⟩
 ·intro X hP hw hK i pins s σ H J hf st hok
  subst hP hw hK
  obtain ⟨l1, rv1, p1, hz1⟩ := J.list hok.1
  obtain ⟨l2, rv2, p2, hz2⟩ := J.list hok.2
  refine ⟨⟨(l1.toArray, l2.toArray), by have := rv1.length; simp; lia, by have := rv2.length; simp; lia⟩, ⟨st.1, st.2.1, st.2.2.1, ⟨st.2.2.2.1, p1.isList⟩, st.2.2.2.2, p2.isList⟩, ?_⟩
  rintro vals ⟨x, y, hx, hy, rfl⟩
  have hx' : l1[i]? = some x := by simpa using hx
  have hy' : l2[i]? = some y := by simpa using hy
  have hi : i < xs.length := by have := rv1.length; have := (List.getElem?_eq_some_iff.mp hx').1; lia
  have hj : i < ys.length := by have := rv2.length; have := (List.getElem?_eq_some_iff.mp hy').1; lia
  obtain ⟨u, hu, ru⟩ := rv1.get (List.getElem?_eq_getElem hi)
  obtain ⟨v, hv, rv⟩ := rv2.get (List.getElem?_eq_getElem hj)
  rw [hx'] at hu
  rw [hy'] at hv
  cases hu
  cases hv
  exact ⟨[xs[i], ys[i]], (show 2 ≤ sizeLine by decide), .cons ru (.cons rv .nil), xs[i], ys[i], List.getElem?_eq_getElem hi, List.getElem?_eq_getElem hj, rfl⟩
section
variable {X : Cx} {K : PySem.W.Frag} {elts : List Expr} {kk : Nat} {tpos : Pos}
def iZipL (K : PySem.W.Frag) (ta : TA) : TI := fun σ H R => ta σ H fun vs H1 => ∃ a b xs ys, vs = [.ref a, .ref b] ∧ SqL K H1 a xs ∧ SqL K H1 b ys ∧ R (ItZL K a b xs ys) H1
theorem oqE {a b : Expr} {ta : TA} {p pos : Pos} (h : X.K = K) (hg : Gl X "zip") (hm : X.mg "zip" = none) (ha : PA X [a, b] ta) (hs : starEach [a, b] X.env = [(false, eval a X.env), (false, eval b X.env)] := by rfl) (hs2 : starEach [b] X.env = [(false, eval b X.env)] := by rfl) : PI X (.Tuple elts kk tpos) (.Call (.Name "zip" p) [a, b] [] pos) (iZipL K ta) := by
 subst h
 intro pins s σ H R I q
 refine Call_ (eqD I hg hm boot_zip (PyProof.Rows.callWith_type1 (thn (ha pos pins s σ H _ I q) fun us s1 W' => ?_) (by rw [hs, hs2]) (by rw [hs2]; rfl)))
 obtain ⟨vs, H1, I1, r1, q1⟩ := W'
 obtain ⟨a, b, xs, ys, e, hq1, hq2, q⟩ := q1
 subst e
 obtain ⟨u, v, rfl, ru, rv⟩ := vals2 r1
 cases ru
 cases rv
 obtain ⟨l1, rv1, p1, hz1⟩ := I1.list hq1
 obtain ⟨l2, rv2, p2, hz2⟩ := I1.list hq2
 refine kqQ p1.isList p2.isList fun h' he hI hO hi hj hk => ?_
 refine wpAny_pyIter_zip (s := { s1 with heap := h' }) he ?_
 have hal : a < s1.heap.objs.size := by obtain ⟨o, _, ho, _⟩ := p1; exact Heap.lt_size ho
 have hbl : b < s1.heap.objs.size := by obtain ⟨o, _, ho, _⟩ := p2; exact Heap.lt_size ho
 have hkept : Inv X pins σ H1 { s1 with heap := h' } := I1.kept (t' := s1.toks) hk
 refine ⟨s1.heap.objs.size + 4, [s1.heap.objs.size + 4, s1.heap.objs.size + 3, s1.heap.objs.size, s1.heap.objs.size + 1, s1.heap.objs.size + 2], _, _, H1, rfl, hkept, lqN xs ys (nqF hal hbl) (Nat.ne_of_lt hal) (Nat.ne_of_lt (Nat.lt_succ_of_lt hbl)), ⟨he, hI, ⟨_, _, hO⟩, hi, hj⟩, fun b hb => ?_, q⟩
 simp only [List.mem_cons, List.not_mem_nil, or_false] at hb
 have hb' : s1.heap.objs.size ≤ b := by
  rcases hb with rfl | rfl | rfl | rfl | rfl
  ·exact Nat.le_add_right _ _
  ·exact Nat.le_add_right _ _
  ·exact Nat.le_refl _
  ·exact Nat.le_add_right _ _
  ·exact Nat.le_add_right _ _
 exact I1.fpOk hb' (I1.hok.fresh hb')
variable {σ : St} {H : Hp} {D : Ends} {g : TG} {tb : TS} {aa : TA}
theorem nqb : (tFor (iZipL K aa) g tb D σ H) = (aa σ H fun vs H1 => ∃ a b xs ys, vs = [.ref a, .ref b] ∧ SqL K H1 a xs ∧ SqL K H1 b ys ∧ LoopI (ItZL K a b xs ys) g tb D σ H1) := rfl
variable {p : Addr} {fv : St} {tt : TT} {te : TE} {Q : VK} {H1 : Hp} {fr : List Nat}
theorem kql : (tComp2 K (iZipL K aa) fr tt te σ H Q) = (aa σ H fun vs H1 => ∃ a b xs ys, vs = [.ref a, .ref b] ∧ SqL K H1 a xs ∧ SqL K H1 b ys ∧ ∀ p, H1 p = none → CompI2 K (ItZL K a b xs ys) p (frV σ fr) tt te Q H1) := rfl
end
section
variable {K : PySem.W.Frag} {p : Addr} {fv : St} {te : TE} {Q : VK} {H1 : Hp}
theorem kqB {a b : Addr} {xs ys : List V} (J : Nat → List V → Hp → Prop) (hm : ∀ i ws H H', Same H H' → J i ws H → J i ws H') (hlen : xs.length ≤ sizeLine) (h0 : J 0 [] (upd H1 p (.lst []))) (hS : ∀ i ws H2, J i ws H2 → SqL K H2 a xs ∧ SqL K H2 b ys)
  (he : ∀ (i : Nat) (x y : V) (ws : List V) (H2 : Hp) (T : VK), xs[i]? = some x → ys[i]? = some y → J i ws H2 → H2 p = some (.lst ws) → (∀ z H3, H3 p = some (.lst ws) → J (i + 1) (ws ++ [z]) (upd H3 p (.lst (ws ++ [z]))) → T z H3) → te (some x :: some y :: fv) H2 T)
  (hQ : ∀ ws H2, J (min xs.length ys.length) ws H2 → H2 p = some (.lst ws) → Q (.ref p) H2) : CompI2 K (ItZL K a b xs ys) p fv tYes te Q H1 := by
 refine ⟨fun i m ws H2 => m = min xs.length ys.length - i ∧ i ≤ min xs.length ys.length ∧ ws.length = i ∧ H2 p = some (.lst ws) ∧ J i ws H2, ⟨min xs.length ys.length, by simp, Nat.zero_le _, rfl, aqk, h0⟩, ?_⟩
 rintro i m ws H2 ⟨rfl, hi, hwl, hp2, hJ⟩
 refine ⟨hp2, ?_⟩
 obtain ⟨qx, qy⟩ := hS _ _ _ hJ
 by_cases hlt : i < min xs.length ys.length
 ·refine .inr ⟨⟨hlt, qx, qy⟩, by lia, fun x H3 y => ?_⟩
  obtain ⟨T, vs, rfl, hT, rfl, x, y, hx, hy, rfl⟩ := y
  have s3 : Same H2 (upd H2 T (.tup [x, y])) := fun b o e => by rw [aqj (aqh e hT)]; exact e
  refine ⟨T, x, y, rfl, .inl (.inl aqk), ?_⟩
  unfold tYes
  dsimp only
  rw [if_pos rfl]
  exact he i x y ws _ _ hx hy (hm _ _ _ _ s3 hJ) (s3 _ _ hp2) fun z H5 hp5 hJ5 => ⟨hp5, min xs.length ys.length - (i + 1), by lia, rfl, hlt, by rw [List.length_append, hwl]; rfl, aqk, hJ5⟩
 ·have e : i = min xs.length ys.length := by lia
  subst e
  exact .inl ⟨⟨rfl, qx, qy⟩, hQ ws H2 hJ hp2⟩
end
theorem kqR (t : Addr) (its : Array Value) : Meets (Builtin.«enumerate.__new__» ⟨[.type "enumerate", .ref t], []⟩) (fun _ R s => s.heap.IsList t its ∧
  R (.ok (.ret (.ref (s.heap.push (litO t)).objs.size))) { s with heap := (s.heap.push (litO t)).push (enuO s.heap.objs.size) }) :=
 .of_wp fun prog w A R s h => by
  obtain ⟨hp, g, d, tk, os⟩ := s; obtain ⟨hl, h⟩ := h
  have hsub := sub_enumerate
  wp_walk using wpAny_pyIter_list hl
  refine wpAny_stack_any fun _ => wpAny_pure ?_
  split
  ·rename_i z _ _ _ _ _
   cases (z == Value.type "enumerate") <;> (wp_walk using wpAny_pyIter_list hl) <;> exact ⟨_, rfl, h⟩
  ·wp_walk using wpAny_pyIter_list hl
   exact ⟨_, rfl, h⟩
section
variable {prog : Program} {w : World} {A : Around} {E : Value → Shared → Prop} {s : Shared}
theorem kqe {t : Addr} {its : Array Value} {Q : Value → Shared → Prop} (ht : s.heap.IsList t its)
  (h : ∀ h', IsEnum h' (s.heap.objs.size + 1) s.heap.objs.size 0 .none → h'.IsListIter s.heap.objs.size t 0 → (∀ b o, s.heap.get? b = some o → h'.get? b = some o) → Q (.ref (s.heap.objs.size + 1)) { s with heap := h' }) :
  wpAny (model prog w) A (call (.type "enumerate") [.ref t]) Q E s := by
 refine callType_new F.called_enumerate (by decide) (F.typeCall_enumerate_1 _) (F.newCall_enumerate_1 _) (fun obj => F.args_object_init_2 obj _) F.entry_enumerate_new (kqR t its) ⟨ht, ?_⟩
 have hz : (s.heap.push (litO t)).objs.size = s.heap.objs.size + 1 := Heap.size_push ..
 show _ ∧ _
 rw [hz]
 have he : IsEnum ((s.heap.push (litO t)).push (enuO s.heap.objs.size)) (s.heap.objs.size + 1) s.heap.objs.size 0 .none := by
  have := Heap.get?_push_size (s.heap.push (litO t)) (o := enuO s.heap.objs.size) rfl
  rw [hz] at this
  exact this
 exact ⟨⟨_, he, rfl⟩, h _ he ⟨_, Heap.get?_push_of_some _ (Heap.get?_push_size _ rfl), rfl, rfl⟩ fun b o x => Heap.get?_push_of_some _ (Heap.get?_push_of_some _ x)⟩
end
def ItEL (K : PySem.W.Frag) (a : Addr) (xs : List V) : It := ItW xs.length (fun H => SqL K H a xs) fun i _ ys => ∃ v, xs[i]? = some v ∧ ys = [.int (i : Int), v]
theorem kqk {P : Program} {w : World} {K : PySem.W.Frag} {elts : List Expr} {k : Nat} {pos : Pos} (a it e : Addr) (xs : List V) (h1 : a ≠ it) (h2 : e ≠ it) (h3 : e ≠ a) :
  Turn P w K (.Tuple elts k pos) (ItEL K a xs) [e, it] e (fun i h => (∃ old, IsEnum h e it i old) ∧ h.IsListIter it a i) := by
 refine iqj (fp := e :: [it, a]) (α := { its : Array Value // its.size = xs.length }) (Pt := fun z i vals => ∃ t x, z.1[i]? = some x ∧ vals = #[.int i t, x])
  (Sn := fun z i h => (∃ old, IsEnum h e it i old) ∧ (h.IsListIter it a i ∧ h.IsList a z.1)) (Mid := fun z i T h => (∃ x, IsEnumOut h e it ((i : Int) + 1) x T) ∧ (h.IsListIter it a (i + 1) ∧ h.IsList a z.1) ∧ T ≠ e ∧ T ≠ it)
  (by simp) (fun _ z => z) (fun A z hh => ?_) (fun A i s Q E st q => ?_) (fun i h st b hb => ?_) (fun i h h' st kp => ?_) ?_ (fun z i h st => ⟨st.1, st.2.1⟩)
 ·have := WalksT.enumerateD (Draws.list (prog := P) (w := w) (A := A.in1) hh it a h1 z.1) e h2 (by simp [h2, h3]) (by simp)
  rw [z.2] at this
  exact this
 ·obtain ⟨⟨old, he⟩, _⟩ := st
  exact wpAny_pyIter_enum he q
 ·obtain ⟨⟨old, he⟩, o, ho, hc, hd⟩ := st
  rcases List.mem_cons.mp hb with rfl | hb
  ·exact ⟨_, he, fun v z => by cases z⟩
  ·rw [List.mem_singleton.mp hb]
   exact ⟨o, ho, fun v z => by rw [hd] at z; cases z⟩
 ·obtain ⟨⟨old, he⟩, o, ho, r⟩ := st
  exact ⟨⟨old, kp e (by simp) _ he⟩, o, kp it (by simp) o ho, r⟩
 ·intro X hP hw hK i pins s σ H J hf st hok
  subst hP hw hK
  obtain ⟨its, rv, p, hz⟩ := J.list hok
  refine ⟨⟨its.toArray, by have := rv.length; simp; lia⟩, ⟨st.1, st.2, p.isList⟩, ?_⟩
  rintro vals ⟨t, x, hx, rfl⟩
  have hx' : its[i]? = some x := by simpa using hx
  have hi : i < xs.length := by have := rv.length; have := (List.getElem?_eq_some_iff.mp hx').1; lia
  obtain ⟨u, hu, ru⟩ := rv.get (List.getElem?_eq_getElem hi)
  rw [hx'] at hu
  cases hu
  exact ⟨[.int (i : Int), xs[i]], (show 2 ≤ sizeLine by decide), .cons ⟨t, rfl⟩ (.cons ru .nil), xs[i], List.getElem?_eq_getElem hi, rfl⟩
section
variable {X : Cx} {K : PySem.W.Frag} {elts : List Expr} {kk : Nat} {tpos : Pos}
def iEnumL (K : PySem.W.Frag) (ta : TA) : TI := fun σ H R => ta σ H fun vs H1 => ∃ a xs, vs = [.ref a] ∧ SqL K H1 a xs ∧ R (ItEL K a xs) H1
theorem nqe {a : Expr} {ta : TA} {p pos : Pos} (h : X.K = K) (hg : Gl X "enumerate") (hm : X.mg "enumerate" = none) (ha : PA X [a] ta) (hs : starEach [a] X.env = [(false, eval a X.env)] := by rfl) : PI X (.Tuple elts kk tpos) (.Call (.Name "enumerate" p) [a] [] pos) (iEnumL K ta) := by
 subst h
 intro pins s σ H R I q
 refine Call_ (eqD I hg hm boot_enumerate (PyProof.Rows.callWith_type1 (thn (ha pos pins s σ H _ I q) fun us s1 W' => ?_) hs rfl))
 obtain ⟨vs, H1, I1, r1, q1⟩ := W'
 obtain ⟨a, xs, e, hq, q⟩ := q1
 subst e
 obtain ⟨u, rfl, ru⟩ := vals1 r1
 cases ru
 obtain ⟨its, rv, pt, hz⟩ := I1.list hq
 refine kqe pt.isList fun h' he hi hk => ?_
 refine wpAny_pyIter_enum (s := { s1 with heap := h' }) he ?_
 have hal : a < s1.heap.objs.size := by obtain ⟨o, _, ho, _⟩ := pt; exact Heap.lt_size ho
 have hkept : Inv X pins σ H1 { s1 with heap := h' } := I1.kept (t' := s1.toks) hk
 refine ⟨s1.heap.objs.size + 1, [s1.heap.objs.size + 1, s1.heap.objs.size], _, _, H1, rfl, hkept, kqk a s1.heap.objs.size (s1.heap.objs.size + 1) xs (Nat.ne_of_lt hal) (Nat.succ_ne_self _) (Nat.ne_of_gt (Nat.lt_succ_of_lt hal)), ⟨⟨_, he⟩, hi⟩, fun b hb => ?_, q⟩
 simp only [List.mem_cons, List.not_mem_nil, or_false] at hb
 have hb' : s1.heap.objs.size ≤ b := by
  rcases hb with rfl | rfl
  ·exact Nat.le_succ _
  ·exact Nat.le_refl _
 exact I1.fpOk hb' (I1.hok.fresh hb')
variable {σ : St} {H : Hp} {D : Ends} {g : TG} {tb : TS} {aa : TA}
theorem mqC : (tFor (iEnumL K aa) g tb D σ H) = (aa σ H fun vs H1 => ∃ a xs, vs = [.ref a] ∧ SqL K H1 a xs ∧ LoopI (ItEL K a xs) g tb D σ H1) := rfl
theorem kqE {a : Addr} {xs : List V} (Pv : Nat → St → Hp → Prop) (h0 : Pv 0 σ H) (hl : ∀ i σ H, i ≤ xs.length → Pv i σ H → SqL K H a xs)
  (hs : ∀ i v σ H T, xs[i]? = some v → Pv i σ H → H T = none → g (.ref T) σ (upd H T (.tup [.int (i : Int), v])) fun σ2 H2 => tb { D with nx := Pv (i + 1), ct := Pv (i + 1), bk := D.nx } σ2 H2) (hd : ∀ σ H, Pv xs.length σ H → D.nx σ H) : LoopI (ItEL K a xs) g tb D σ H :=
 lqW Pv h0 hl (fun i σ H T ys _ p hT hy => by obtain ⟨v, hv, rfl⟩ := hy; exact hs i v σ H T hv p hT) hd
variable {p : Addr} {fv : St} {tt : TT} {te : TE} {Q : VK} {H1 : Hp} {fr : List Nat}
theorem kqb : (tComp2 K (iEnumL K aa) fr tt te σ H Q) = (aa σ H fun vs H1 => ∃ a xs, vs = [.ref a] ∧ SqL K H1 a xs ∧ ∀ p, H1 p = none → CompI2 K (ItEL K a xs) p (frV σ fr) tt te Q H1) := rfl
theorem kqh : (tComp2 K (iEnum K aa) fr tt te σ H Q) = (aa σ H fun vs H1 => ∃ a xs, vs = [.ref a] ∧ SqT K H1 a xs ∧ ∀ p, H1 p = none → CompI2 K (ItE K a xs) p (frV σ fr) tt te Q H1) := rfl
end
end L2
namespace L2
open PySem PySem.Spec PySem.W PyProof.Rows
def SameD (h h' : Heap) : Prop := ∀ (b : Nat) (o : Obj), h.objs[b]? = some o → ∃ o', h'.objs[b]? = some o' ∧ o'.dict = o.dict
theorem SameD.refl (h : Heap) : SameD h h := fun _ o e => ⟨o, e, rfl⟩
theorem SameD.trans {a b c : Heap} (x : SameD a b) (y : SameD b c) : SameD a c := fun d o e => by
 obtain ⟨o1, e1, q1⟩ := x d o e
 obtain ⟨o2, e2, q2⟩ := y d o1 e1
 exact ⟨o2, e2, q2.trans q1⟩
theorem SameD.push (h : Heap) (o : Obj) : SameD h (h.push o) := fun b u e => by
 refine ⟨u, ?_, rfl⟩
 have hb : b < h.objs.size := (Array.getElem?_eq_some_iff.mp e).1
 show (h.objs.push o)[b]? = some u
 rw [Array.getElem?_push, if_neg (Nat.ne_of_lt hb)]
 exact e
theorem SameD.upd (h : Heap) (a : Addr) {f : Obj → Obj} (hf : ∀ o, (f o).dict = o.dict) : SameD h (h.update a f) := fun b u e => by
 show ∃ o', (h.objs.modify a f)[b]? = some o' ∧ _
 rw [Array.getElem?_modify]
 by_cases q : a = b
 ·rw [if_pos q, e]; exact ⟨f u, rfl, hf u⟩
 ·rw [if_neg q, e]; exact ⟨u, rfl, rfl⟩
theorem SameD.get {h h' : Heap} (x : SameD h h') {b : Addr} {o o' : Obj} (e : h.get? b = some o) (e' : h'.get? b = some o') : o'.dict = o.dict := by
 obtain ⟨o1, q, r⟩ := x b o (Heap.get?_some_iff.mp e).1
 have := (Heap.get?_some_iff.mp e').1
 rw [q] at this
 cases this
 exact r
def kd {α : Type} : Sem α → Prop
 | .pure _ => True
 | .raise _ => False
 | .unsupported _ => True
 | .finish _ => True
 | .rule _ k => kd (k ())
 | .at _ k => kd (k ())
 | .load _ _ k => ∀ o, kd (k o)
 | .update _ _ f k => (∀ o, (f o).dict = o.dict) ∧ kd (k ())
 | .alloc _ k => ∀ a, kd (k a)
 | .loadIfAlive _ k => ∀ o, kd (k o)
 | .point _ k => kd (k ())
 | .register _ _ => True
 | .fresh k => ∀ t, kd (k t)
 | .ask k => ∀ t, kd (k t)
 | .choose _ _ k => ∀ t, kd (k t)
 | .os _ _ _ => False
 | .call _ _ _ _ _ => False
 | .handled _ k => ∀ t, kd (k t)
 | .newGen _ _ => False
 | .genState _ _ => False
 | .resume _ _ _ _ => False
 | .yield _ _ _ _ => True
 | .stack k => ∀ t, kd (k t)
 | .fork _ _ => True
 | .thread k => ∀ t, kd (k t)
 | .await _ _ _ _ _ => True
theorem aqG {α β : Type} {m : Sem α} {f : α → Sem β} (a : kd m) (b : ∀ x, kd (f x)) : kd (m >>= f) := by
 show kd (Sem.bind m f)
 induction m with
 | pure x => exact b x
 | raise _ => exact a.elim
 | unsupported _ => exact True.intro
 | finish _ => exact True.intro
 | rule _ k ih => exact ih () a
 | «at» _ k ih => exact ih () a
 | load _ _ k ih => exact fun o => ih o (a o)
 | update _ _ g k ih => exact ⟨a.1, ih () a.2⟩
 | alloc _ k ih => exact fun o => ih o (a o)
 | loadIfAlive _ k ih => exact fun o => ih o (a o)
 | point _ k ih => exact ih () a
 | register _ k ih => exact True.intro
 | fresh k ih => exact fun o => ih o (a o)
 | ask k ih => exact fun o => ih o (a o)
 | choose _ _ k ih => exact fun o => ih o (a o)
 | os _ _ k ih => exact a.elim
 | call _ _ _ _ k ih => exact a.elim
 | handled _ k ih => exact fun o => ih o (a o)
 | newGen _ k ih => exact a.elim
 | genState _ k ih => exact a.elim
 | resume _ _ _ k ih => exact a.elim
 | yield _ _ _ k ih => exact True.intro
 | stack k ih => exact fun o => ih o (a o)
 | fork _ k ih => exact True.intro
 | thread k ih => exact fun o => ih o (a o)
 | await _ _ _ _ k ih => exact True.intro
theorem qqR {α : Type} {M : Model} {Γ : PySem.Ctx} (t : Sem α) : ∀ {Q : α → Pos → Shared → Prop} {E : Value → Pos → Shared → Prop} {p : Pos} {s : Shared}, kd t → Sem.wp M Γ t Q E p s →
  Sem.wp M Γ t (fun a p' s' => Q a p' s' ∧ SameD s.heap s'.heap) (fun _ _ _ => False) p s := by
 induction t with
 | pure x => intro Q E p s _ h; exact ⟨h, .refl _⟩
 | raise _ => intro Q E p s a h; exact a.elim
 | unsupported _ => intro Q E p s _ h; exact h.elim
 | finish _ => intro Q E p s _ h; exact h.elim
 | rule _ k ih => intro Q E p s a h; exact ih () a h
 | «at» _ k ih => intro Q E p s a h; exact ih () a h
 | load _ _ k ih => intro Q E p s a h; obtain ⟨o, e, h⟩ := h; exact ⟨o, e, ih o (a o) h⟩
 | update x _ g k ih =>
  intro Q E p s a h
  obtain ⟨e, h⟩ := h
  exact ⟨e, Sem.wp_mono M Γ (k ()) (fun _ _ _ z => ⟨z.1, (SameD.upd _ _ a.1).trans z.2⟩) (fun _ _ _ z => z) _ _ (ih () a.2 h)⟩
 | alloc o k ih => intro Q E p s a h; exact Sem.wp_mono M Γ (k _) (fun _ _ _ z => ⟨z.1, (SameD.push _ _).trans z.2⟩) (fun _ _ _ z => z) _ _ (ih _ (a _) h)
 | loadIfAlive _ k ih => intro Q E p s a h; exact ih _ (a _) h
 | point _ k ih => intro Q E p s a h; exact ih () a h
 | register _ k ih => intro Q E p s _ h; exact h.elim
 | fresh k ih => intro Q E p s a h; exact ih _ (a _) h
 | ask k ih => intro Q E p s a h; exact ih _ (a _) h
 | choose _ _ k ih => intro Q E p s a h; exact ⟨h.1, ih _ (a _) h.2⟩
 | os _ _ k ih => intro Q E p s a h; exact a.elim
 | call _ _ _ _ k ih => intro Q E p s a h; exact a.elim
 | handled _ k ih => intro Q E p s a h; exact ih _ (a _) h
 | newGen _ k ih => intro Q E p s a h; exact a.elim
 | genState _ k ih => intro Q E p s a h; exact a.elim
 | resume _ _ _ k ih => intro Q E p s a h; exact a.elim
 | yield _ _ _ k ih => intro Q E p s a h; exact h.elim
 | stack k ih => intro Q E p s a h; exact ih _ (a _) h
 | fork _ k ih => intro Q E p s a h; exact h.elim
 | thread k ih => intro Q E p s a h; exact ih _ (a _) h
 | await _ _ _ _ k ih => intro Q E p s a h; exact h.elim
theorem eqz {α : Type} {M : Model} {A : Around} {t : Sem α} {Q : α → Shared → Prop} {E : Value → Shared → Prop} {s : Shared} (k : kd t) (h : wpAny M A t Q E s) : wpAny M A t (fun a s' => Q a s' ∧ SameD s.heap s'.heap) (fun _ _ => False) s :=
 fun Γ p hΓ => qqR t k (h Γ p hΓ)
theorem jqj (v : Value) : kd (fieldsOf v) := by
 cases v <;> first | exact True.intro | (refine aqG (fun _ => True.intro) fun o => ?_; split <;> exact True.intro)
theorem fqQ (v : Value) (i : Nat) : kd (field v i) := by
 refine aqG (jqj v) fun x => ?_
 split <;> exact True.intro
theorem dq9 (v : Value) (i : Nat) (x : Value) : kd (setField v i x) := by
 cases v <;> first | exact True.intro | skip
 refine aqG (fun _ => True.intro) fun o => ?_
 split
 ·split
  ·refine ⟨fun o => ?_, True.intro⟩
   unfold Obj.mapFields
   first | rfl | (split <;> rfl) | (cases o; rename_i d _; cases d <;> rfl)
  ·exact True.intro
 ·exact True.intro
theorem dqn (e : Value) (f : Option Addr) : kd (setFlight e f) := by
 refine aqG (fqQ e 1) fun tb => ?_
 try dsimp only
 split
 ·exact dq9 _ _ _
 ·exact True.intro
theorem dqZ : ∀ l : List Env, kd (readyFrames l)
 | [] => True.intro
 | env :: outer => by
  unfold readyFrames
  split
  ·refine aqG (fun _ => True.intro) fun o => ?_
   try dsimp only
   split
   ·exact True.intro
   ·refine aqG ?_ fun im => ?_
    ·unfold behindIsImport
     try dsimp only
     split
     ·exact True.intro
     ·split
      ·exact True.intro
      ·exact aqG (fqQ _ _) fun _ => True.intro
    ·refine aqG ?_ fun bk => ?_
     ·unfold keptBack
      split
      ·split
       ·exact True.intro
       ·exact aqG (aqG (fun _ => True.intro) fun _ => True.intro) fun _ => by split <;> exact True.intro
      ·exact True.intro
     ·exact aqG ⟨fun _ => rfl, True.intro⟩ fun _ => dqZ outer
  ·exact True.intro
theorem kqq (env : Env) : kd (PySem.frameOf env) := by
 unfold PySem.frameOf
 refine aqG (aqG (fun _ => True.intro) fun _ => True.intro) fun l => aqG ?_ fun r => ?_
 ·unfold frameObject
  split
  ·exact True.intro
  ·exact aqG (dqZ _) fun _ => True.intro
 ·split <;> exact True.intro
theorem iqH (ty : String) (vs : List Value) : kd (newFields ty vs) := by
 unfold newFields newObj newObjAsIs
 try dsimp only
 split
 ·exact True.intro
 ·exact fun _ => True.intro
theorem fqr (e : Value) (env : Env) : kd (noteFrame e env) := by
 unfold noteFrame
 split
 ·refine aqG (fqQ e 1) fun hd => ?_
  try dsimp only
  have rest : ∀ (x : Unit) (f : Addr) (hd : Value), kd (do setField e 1 (← EntryCells.newEntry hd (← PySem.frameOf env) .none (rawInt f) .none (← entryPlaceOf f (hd != .none))) : Sem Unit) := fun _ f hd => by
   refine aqG (kqq env) fun _ => aqG ?_ fun _ => aqG ?_ fun _ => dq9 _ _ _
   ·unfold entryPlaceOf
    refine aqG (fun _ => True.intro) fun acts => ?_
    split <;> exact True.intro
   ·unfold EntryCells.newEntry
    exact iqH _ _
  split
  ·refine aqG (fqQ _ _) fun g => ?_
   try dsimp only
   split
   ·exact True.intro
   ·exact aqG (dq9 _ _ _) fun _ => rest () _ _
  ·exact rest () _ _
 ·exact True.intro
theorem hqa (env : Env) (e : Value) : kd (leaving env e) := aqG (fqr e env) fun _ => dqn e none
end L2
namespace L2
open PySem PySem.Spec PySem.W PySem.Calls PyProof.Rows PySem.Builtin PySem.Builtin.ObjectAttr
def errTail : List Value → Bool
 | .ref _ :: r => errTail r
 | l => l == vErr
theorem gqQ (self : Value) : ∀ {l : List Value}, errTail l = true → refuseLoop self "__setattr__" l = pure ()
 | [], e => by cases e
 | v :: r, e => by
  cases v <;> first | (rw [refuseLoop_ref]; exact gqQ self (by unfold errTail at e; exact e)) | (rw [show (_ :: r) = vErr from beq_iff_eq.mp e]; exact PySem.F.store_ValueError.passes self)
theorem lqX : ∀ {l : List Value}, errTail l = true → l.contains (.type "object") = true
 | [], e => by cases e
 | v :: r, e => by
  cases v <;> first | (rw [List.contains_cons, lqX (l := r) (by unfold errTail at e; exact e), Bool.or_true]) | (rw [show (_ :: r) = vErr from beq_iff_eq.mp e]; decide +kernel)
def overErr (K : Frag) (C : Addr) : Bool := (clsIn K C).any fun cd => errTail cd.mro
section
variable {prog : Program} {w : World} {A : Around} {E : Value → Shared → Prop} {s : Shared} {K : Frag} {x C : Addr} {name : Str} {v : Value} {ox : Obj} {od : Option Obj}
theorem oqG {tk : Tok} {R : Result → Shared → Prop} (X : K.In s.heap) (I : PySem.W.InstAt s.heap x ox C od) (hp : overErr K C = true) (ht : takerIn K C name = some none)
  (h : ∀ b, wpAny (model prog w) A.in1 (storeInOwnDict (.ref x) (.ref C) (.str name tk) name v b)
   (fun fin s' => match fin with | .done f => R (.ok f) s' | .again c' => c'.quiet = true ∧ codeAny (model prog w) A c' R s') (fun e s' => R (.error e) s') s) :
  codeAny (model prog w) A (.call (.builtin "object.__setattr__") ⟨[.ref x, .str name tk, v], []⟩) R s := by
 have SF := PySem.F.store_object
 obtain ⟨cd, hc, ho⟩ := any_some hp
 have ne : cd.mro.isEmpty = false := by cases q : cd.mro with | nil => rw [q] at ho; cases ho | cons _ _ => rfl
 have sub : Looks (model prog w) s.heap (isInstance (.ref x) (.type "object")) true := I.type.andThen (looks_mroIn X (by unfold mroIn; rw [hc, Option.bind_some, if_neg (by rw [ne]; decide), lqX ho]))
 refine codeAny_call_builtin SF.slot.plain SF.entry (@check_slot (model prog w) _ _ s "object.__setattr__" "object" "__setattr__" (.ref x) [.str name tk, v] [] _ SF.kind SF.split sub (SF.args (.ref x) (.str name tk) v) ?_)
 obtain ⟨attr, ha, hr⟩ := Option.bind_eq_some_iff.mp ht
 have hm : Looks (model prog w) s.heap (mroOf (.ref C)) cd.mro := (looks_clsIn X hc).andThen .now
 have L3 : Looks (model prog w) s.heap (storeTaker? attr) none := by
  cases attr with
  | none => exact .now
  | some a =>
   obtain ⟨b, hb, hbn⟩ := Option.map_eq_some_iff.mp hr
   refine (looks_takesIn X hb).andThen ?_
   cases b with
   | true => cases hbn
   | false => exact .now
 rw [osa_eq, refuse_eq]
 refine wpAny_bind (wpAny_bind (I.type.here (wpAny_bind (hm.here ?_))))
 rw [gqQ _ ho]
 refine wpAny_pure (wpAny_bind (I.type.here (wpAny_bind ((looks_findIn X ha).here (wpAny_bind (L3.here ?_))))))
 exact h _
theorem oqh {Q : Unit → Shared → Prop} (X : K.In s.heap) (hx : s.heap.get? x = some ox) (hc : ox.cls = .ref C) (hd : ox.dict = none) (hn : notCls ox = true)
  (hs : findIn K (.ref C) "__setattr__" = some (some (.builtin "object.__setattr__"))) (hp : overErr K C = true) (ht : takerIn K C name = some none) (hh : hasDictIn K C = true)
  (h : ∀ h' tk, h'.get? x = some { ox with dict := some s.heap.objs.size } → h'.Ns1 s.heap.objs.size (fun y => if y = name then some v else none) → (∀ b o, b ≠ x → s.heap.get? b = some o → h'.get? b = some o) → Q () { s with heap := h', toks := tk }) :
  wpAny (model prog w) A (setAttr (.ref x) name v) Q E s := by
 have J : PySem.W.InstAt s.heap x ox C none := ⟨hx, hc, hn, by rw [hd]; exact True.intro⟩
 refine PySem.W.set_plain X J hs (oqG (s := { s with toks := s.toks + 1 }) X J hp ht fun b => ?_)
 obtain ⟨cd, hcd, hd'⟩ := any_some hh
 obtain ⟨oc, odi, oda, osl⟩ := ox
 dsimp only at hc hd
 subst hc hd
 refine wpAny_bind (wpAny_pure (wpAny_bind (wpAny_bind (wpAny_loadPart hx (wpAny_bind (Looks.here (s := { s with toks := s.toks + 1 }) (looks_clsIn X hcd) ?_))))))
 rw [hd']
 have nc : ∀ c, oda ≠ .cls c := fun c q => by subst q; cases hn
 have hx₁ : (s.heap.push { cls := .type "dict", data := .dict #[] }).get? x = some ⟨.ref C, none, oda, osl⟩ := Heap.get?_push_of_some _ hx
 have hxs : x ≠ s.heap.objs.size := Nat.ne_of_lt (Heap.lt_size hx)
 have hgd : ((s.heap.push { cls := .type "dict", data := .dict #[] }).update x fun o => { o with dict := some s.heap.objs.size }).get? s.heap.objs.size = some { cls := .type "dict", data := .dict #[] } :=
  (Heap.get?_update_ne _ _ _ _ hxs.symm).trans (Heap.get?_push_at rfl rfl)
 have hnd : ((s.heap.push { cls := .type "dict", data := .dict #[] }).update x fun o => { o with dict := some s.heap.objs.size }).Ns s.heap.objs.size (fun _ => none) :=
  ⟨_, #[], _, hgd, rfl, fun e he => absurd he (by simp), fun _ => rfl⟩
 have fin : wpAny (model prog w) A.in1 (storeInDict s.heap.objs.size (.str name (s.toks)) name v)
   (fun fin s' => match fin with | .done f => (match (Except.ok f : Result) with | .ok (.ret _) => Q () s' | .ok _ => False | .error e => E e s') | .again c' => c'.quiet = true ∧ codeAny (model prog w) A c' (fun r s' => match r with | .ok (.ret _) => Q () s' | .ok _ => False | .error e => E e s') s') (fun e s' => E e s')
   { s with heap := ((s.heap.push { cls := .type "dict", data := .dict #[] }).update x fun o => { o with dict := some s.heap.objs.size }), toks := s.toks + 1 } := by
  unfold storeInDict newKeyGuard
  refine wpAny_bind (wpAny_pure (wpAny_bind (wpAny_nsSet1 (s := { s with heap := ((s.heap.push { cls := .type "dict", data := .dict #[] }).update x fun o => { o with dict := some s.heap.objs.size }), toks := s.toks + 1 }) (Heap.Ns1.of_empty hnd) fun h' hn' hs' => ?_)))
  obtain ⟨oD, esD, epD, hoD, hdD, hcD⟩ := hn'.count (Within.cons name v Within.nil)
  refine wpAny_bind (wpAny_lookBehind hoD (by rw [hdD]; exact pastItsLine_dict (Nat.le_trans hcD (by rw [List.length_cons, List.length_nil, sizeLine_eq]; lia))) ?_)
  refine wpAny_pure (h h' _ ?_ hn' fun b o hb e => ?_)
  ·refine (hs'.2 x hxs).trans (Heap.get?_update_self _ hx₁ ?_)
   have hfr := (Heap.get?_some_iff.mp hx).2
   cases oda <;> first | rfl | exact hfr
  ·exact (hs'.2 b (Nat.ne_of_lt (Heap.lt_size e))).trans ((Heap.get?_update_ne _ _ _ _ hb).trans (Heap.get?_push_of_some _ e))
 cases oda <;> first | exact absurd rfl (nc _) | exact wpAny_bind (wpAny_alloc' (wpAny_bind (wpAny_update' hx₁ (wpAny_pure fin))))
end
end L2
namespace L2
open PySem PySem.Spec PySem.W PySem.Calls PyProof.Rows
theorem oqu {K : Frag} {h : Heap} {N : Addr} {m : Str → Option Value} {n : Str} {v : Value} (X : K.In h) (G : h.Ns N m) (e : nsIn K N n = some (some v)) : m n = some v := by
 obtain ⟨o, es, ep, ho, hd, _, hf⟩ := G
 unfold nsIn at e
 split at e
 ·next q =>
  have := X _ _ q
  rw [ho] at this
  cases this
  cases hd
  split at e
  ·next he =>
   cases e
   rw [← hf]
   unfold nsFind findBy
   rw [← Array.find?_toList, he]
   rfl
  ·split at e <;> cases e
 ·cases e
abbrev newExc (C t : Addr) : Obj := { cls := .ref C, data := .fields #[.ref t, .none, .none, .none, .bool false, .none] }
abbrev newTup (vs : List Value) : Obj := { cls := .type "tuple", data := .seq vs.toArray }
section
variable {prog : Program} {w : World} {A : Around} {E : Value → Shared → Prop} {h : Heap} {g : Array GenState} {d : Drawn} {t : Nat} {os : OsState}
variable {nm q : Str} {C N : Addr} {bs bm bmB : List Value} {hdct : Bool} {sn : List Str} {sub : List Value} {ab : Bool} {col : Option Bool} {dd : Option Addr} {k0 k1 k2 k3 k5 : Option Value} {B newId initId : String}
theorem gqs (F : ExcBaseFacts B newId initId bmB) (T : OwnTail h bmB bm) {mN : Str → Option Value} {rest : List Value} {fI : Addr} {oI : Obj} {Q : Fin → Shared → Prop}
  (hC : h.get? C = some (excClassObj nm q C N bs bm hdct sn sub ab col dd k0 k1 k2 k3 k5 newId)) (hn : h.Ns N mN) (hi : mN "__init__" = some (.ref fI))
  (hfI : h.get? fI = some oI) (hfc : oI.cls = .type "function")
  (hq : wpAny (model prog w) A (call (.ref fI) (.ref (h.objs.size + 1) :: rest)) (fun r s' => r = .none ∧ Q (.done (.ret (.ref (h.objs.size + 1)))) s') E ⟨(h.push (newTup rest)).push (newExc C h.objs.size), g, d, t, os⟩) (hrest : rest.length ≤ sizeLine) :
  wpAny (model prog w) A (Builtin.«type.__call__» ⟨.ref C :: rest, []⟩) Q E ⟨h, g, d, t, os⟩ := by
 repeat (first | with_reducible refine wpAny_loadPart_at hC ?_ | with_reducible refine wpAny_madeBy_exc hC ?_ | wp_step)
 refine codeAny_call_builtin_code (Code.quiet_builtin _ F.quiet) (wpAny_check_new_subU F F.hasB T hC ?_)
 refine codeAny_exc_new_subU F F.hasB F T hC ?_ hrest
 show wpAny _ _ _ _ _ _
 have kp : ∀ b o, h.get? b = some o → ((h.push (newTup rest)).push (newExc C h.objs.size)).get? b = some o := fun b o e => Heap.get?_push_of_some _ (Heap.get?_push_of_some _ e)
 have hC₁ := kp _ _ hC
 have hfI₁ := kp _ _ hfI
 have hn₁ : ((h.push (newTup rest)).push (newExc C h.objs.size)).Ns N mN := hn.keeps kp
 have hget : ((h.push (newTup rest)).push (newExc C h.objs.size)).get? (h.objs.size + 1) = some (newExc C h.objs.size) := by heap_get
 have hcC : (Value.ref C :: bm).contains (.ref C) = true := by simp
 have T₁ := T.keeps kp
 unfold isInstance
 repeat (first | with_reducible refine wpAny_loadPart_at hget ?_ | (with_reducible refine wpAny_isSubtype_exc hC₁ ?_; rw [hcC]) | wp_step)
 show wpAny _ _ (typeLookup (.ref C) _) _ _ _
 refine wpAny_typeLookup_tail hC₁ hn₁ T₁ F.mroIs F.init.lookup ?_
 rw [hi]
 refine wpAny_holding (wpAny_bind ?_)
 unfold bindSpecial
 refine wpAny_bind (wpAny_typeOf (T := "function") ⟨_, hfI₁, hfc⟩ ?_)
 rw [if_pos (by decide)]
 refine wpAny_pure (wpAny_bind (wpAny_mono hq (fun r s' hr => ?_) fun _ _ x => x))
 obtain ⟨rfl, hQ⟩ := hr
 wp_walk
 exact hQ
theorem kqV (F : ExcBaseFacts B newId initId bmB) (T : OwnTail h bmB bm) {mN : Str → Option Value} {rest : List Value} {fI : Addr} {oI : Obj} {Q : Value → Shared → Prop}
  (hC : h.get? C = some (excClassObj nm q C N bs bm hdct sn sub ab col dd k0 k1 k2 k3 k5 newId)) (hn : h.Ns N mN) (hi : mN "__init__" = some (.ref fI))
  (hfI : h.get? fI = some oI) (hfc : oI.cls = .type "function")
  (hq : wpAny (model prog w) (A.under (.builtin "type.__call__" ⟨.ref C :: rest, []⟩)) (call (.ref fI) (.ref (h.objs.size + 1) :: rest)) (fun r s' => r = .none ∧ Q (.ref (h.objs.size + 1)) s') E ⟨(h.push (newTup rest)).push (newExc C h.objs.size), g, d, t, os⟩) (hrest : rest.length ≤ sizeLine) :
  wpAny (model prog w) A (call (.ref C) rest) Q E ⟨h, g, d, t, os⟩ := by
 have f1 := tc_lookup
 have f2 := tc_bind (.ref C)
 have hT : (⟨h, g, d, t, os⟩ : Shared).TypeIs (.ref C) "type" := ⟨_, hC, rfl⟩
 refine wpAny_call (codeAny_of_tree ?_)
 show wpAny _ _ (callAny (.ref C) _) _ _ _
 repeat (any_goals (first | assumption | with_reducible refine wpAny_loadPart_at hC ?_ | wp_step))
 refine ⟨rfl, ?_⟩
 exact codeAny_call_builtin_at (Code.quiet_builtin _ (by decide +kernel)) entry_typeCall (wpAny_check_type_call_sub hC (gqs (hrest := hrest) F T hC hn hi hfI hfc hq))
theorem hqV {M : Model} {s : Shared} {env : Env} {x : Sem Value} {Q : Flow → Shared → Prop} (hbase : bm.contains (.type "BaseException") = true) (hh : A.handled = none)
  (h : wpAny M A x (fun v s₁ => ∃ e t dx sl, v = .ref e ∧ s₁.heap.get? C = some (excClassObj nm q C N bs bm hdct sn sub ab col dd k0 k1 k2 k3 k5 newId) ∧
   s₁.heap.get? e = some ⟨.ref C, dx, .fields #[.ref t, .none, .none, .none, .bool false, .none], sl⟩ ∧ E (.ref e) s₁) E s) :
  wpAny M A (raiseStmt env (some x) none) Q E s := by
 have hcB : (Value.ref C :: bm).contains (.type "BaseException") = true := by rw [List.contains_cons, hbase, Bool.or_true]
 unfold raiseStmt
 refine wpAny_bind (wpAny_mono h (fun v s₁ h₁ => ?_) fun _ _ x => x)
 obtain ⟨e, t, dx, sl, rfl, hC, he, hE⟩ := h₁
 obtain ⟨hp, g, d, tk, os⟩ := s₁
 repeat (first | with_reducible refine wpAny_loadPart_at he ?_ | with_reducible refine wpAny_loadPart_at hC ?_ | (with_reducible refine wpAny_isSubtype_exc hC ?_; rw [hcB]) | wp_step)
 exact wpAny_raiseNew_none hh hE
end
def exNew (e C : Addr) : HO := .ext fun h => ∃ t sl, h.get? e = some ⟨.ref C, none, .fields #[.ref t, .none, .none, .none, .bool false, .none], sl⟩
def exSet (e C d : Addr) : HO := .ext fun h => ∃ t sl, h.get? e = some ⟨.ref C, some d, .fields #[.ref t, .none, .none, .none, .bool false, .none], sl⟩
def exC (a C : Addr) (d : Option Addr) : HO := .ext fun h => ∃ o, h.get? a = some o ∧ o.cls = .ref C ∧ (∀ x, d = some x → o.dict = some x) ∧ notCls o = true
structure ExSt (K : Frag) (C : Addr) (f : Str) : Prop where
 sa : findIn K (.ref C) "__setattr__" = some (some (.builtin "object.__setattr__"))
 po : overErr K C = true
 na : findIn K (.ref C) f = some none
 hd : hasDictIn K C = true
def sFldE (K : Frag) (ta tv : TE) (f : Str) : TS := fun D σ H => tv σ H fun y H1 => ta σ H1 fun x H2 => ∃ a C, x = .ref a ∧ H2 a = some (exNew a C) ∧ ExSt K C f ∧ ∀ d, H2 d = none → D.nx σ (upd (upd H2 a (exSet a C d)) d (.xd [(f, y)]))
section
variable {X : Cx} {ta tv : TE} {o value : Expr} {f : Str} {pos pos' : Pos}
theorem oqq (ha : PE X o ta) (hv : PE X value tv) (hs : swapsWith value (some (.Attribute o f pos')) pos.line X.env = pure false) : PS X (.Assign [.Attribute o f pos'] value pos) (sFldE X.K ta tv f) := by
 intro pins s σ H D I h
 refine plainObj_wpAny_Assign_Attribute (thn (hv pins s σ H _ I h) fun u s1 ⟨y, H1, I1, ry, q⟩ => thn (ha pins s1 σ H1 _ I1 q) fun ov s2 W' => ?_) hs
 obtain ⟨x, H2, I2, rx, a, C, ex, ea, c, q2⟩ := W'
 subst ex
 obtain rfl : ov = Value.ref a := rx
 obtain ⟨⟨t, sl, hx⟩, _, _⟩ := I2.hok a _ ea
 refine oqh I2.kIn hx rfl rfl rfl c.sa c.po (NoAttr.taker (show NoAttr X.K C f from c.na)) c.hd fun h' tk e1 e2 e3 => ?_
 have hd : H2 s2.heap.objs.size = none := I2.hok.fresh (Nat.le_refl _)
 have na : ∀ b u, H2 b = some u → u ≠ exNew a C → b ≠ a := fun b u q n z => by subst z; rw [ea] at q; exact n (Option.some.inj q).symm
 have nd : ∀ b u, s2.heap.get? b = some u → b ≠ s2.heap.objs.size := fun b u q => Nat.ne_of_lt (Heap.lt_size q)
 have nf : ∀ b, H2 b = none → b ≠ a := fun b q z => by subst z; rw [ea] at q; cases q
 have ndh : ∀ b u, H2 b = some u → b ≠ s2.heap.objs.size := fun b u q => aqh q hd
 refine ⟨σ, upd (upd H2 a (exSet a C s2.heap.objs.size)) s2.heap.objs.size (.xd [(f, y)]), I2.un (t' := tk) ⟨fun b ob q n _ _ => e3 b ob (nf b n) q, fun b ob q n _ _ => ⟨ob.slots, e3 b ob (nf b n) q⟩, fun b ob q n _ => ?_, fun b ob q _ => ?_, fun b xs q => ?_, fun b ob u q => ?_, fun b ps q => ?_⟩ (fun b u q => ?_), q2 _ hd⟩
 ·rw [aqj (nd b ob q), aqj (nf b n)]; exact n
 ·by_cases z : b = a
  ·subst z; exact ⟨_, e1⟩
  ·exact ⟨ob, e3 b ob z q⟩
 ·rw [aqj (ndh b _ q), aqj (na b _ q (by intro z; cases z))]; exact q
 ·rw [aqj (ndh b _ q), aqj (na b _ q (by intro z; cases z))]; exact q
 ·exact ⟨#[], by rw [aqj (ndh b _ q), aqj (na b _ q (by intro z; cases z)), Array.append_empty]; exact q⟩
 ·by_cases zd : b = s2.heap.objs.size
  ·subst zd
   rw [aqk] at q
   cases q
   refine ⟨_, e2, fun g => ?_⟩
   by_cases z : g = f
   ·subst z
    rw [if_pos rfl]
    simp only [List.lookup, beq_self_eq_true]
    exact ry
   ·rw [if_neg z]
    simp only [List.lookup, beq_eq_false_iff_ne.mpr z]
    exact True.intro
  ·rw [aqj zd] at q
   by_cases za : b = a
   ·subst za
    rw [aqk] at q
    cases q
    exact ⟨⟨t, sl, e1⟩, ⟨_, e1⟩, fun h1 h2 ⟨t, sl, z⟩ k => ⟨t, sl, k _ z⟩⟩
   ·rw [aqj za] at q
    refine (I2.hok b u q).stay (fun c v hc z => e3 c v ?_ z) (fun c z => ?_) fun c xs z => ?_
    ·rcases hc with rfl | hc
     ·exact za
     ·exact na c _ hc (by intro z; cases z)
    ·rw [aqj (ndh c _ z), aqj (na c _ z (by intro z; cases z))]; exact z
    ·rw [aqj (ndh c _ z), aqj (na c _ z (by intro z; cases z))]; exact z
theorem nqX {K : Frag} {D : Ends} {σ : St} {H : Hp} : (sFldE K ta tv f D σ H) = (tv σ H fun y H1 => ta σ H1 fun x H2 => ∃ a C, x = .ref a ∧ H2 a = some (exNew a C) ∧ ExSt K C f ∧ ∀ d, H2 d = none → D.nx σ (upd (upd H2 a (exSet a C d)) d (.xd [(f, y)]))) := rfl
end
def forget (H : Hp) (a : Addr) : Hp := fun b => if b = a then none else H b
theorem iq8 {H : Hp} {a : Addr} : forget H a a = none := if_pos rfl
theorem bqi {H : Hp} {a b : Addr} (h : b ≠ a) : forget H a b = H b := if_neg h
structure FlownN (P : Program) (w : World) (base : Heap) (outer : List Env) (H : Hp) (s : Shared) (a t C : Addr) (d : Option Addr) (B : Heap) (H' : Hp) (s' : Shared) : Prop where
 f : Flown P w base outer H s a t C B H' s'
 dc : ∀ x, d = some x → ∃ oe, s'.heap.get? a = some oe ∧ oe.dict = some x
def CXN (P : Program) (w : World) (base : Heap) : CXT := fun outer H s E e s' => ∃ (a t C : Addr) (d : Option Addr) (B : Heap) (H' : Hp), e = .ref a ∧ E (.ref C) d H' ∧ FlownN P w base outer H s a t C d B H' s'
theorem Inv.xe {X : Cx} {pins : List (Addr × Obj)} {σ : St} {H : Hp} {s : Shared} (y : Value → Shared → Prop) (I : Inv X pins σ H s) : Inv { X with xe := y } pins σ H s :=
 ⟨⟨I.ok.mod, I.ok.kind, I.ok.glob, I.ok.blt, I.ok.above, I.ok.inj, I.ok.has, I.ok.cab, I.ok.hd, I.ok.frames, I.ok.stk, I.ok.exf, I.ok.bs, I.ok.bsz, I.ok.noex, I.ok.exfs, I.ok.funs, I.ok.frf⟩, I.os, I.bare, I.base, I.loc, I.cell, I.free, I.freeC, I.pin, I.hok, I.len⟩
section
variable {P : Program} {w : World} {K : Frag} {mg : Str → Option Value} {base : Heap} {N : List Str} {qual : Str} {scope : Scope} {f : Addr} {cd : Value} {A : Around} {outer : List Env} {s : Shared} {H : Hp} {E : XK}
theorem gqF : Passes (CXN P w base) (cxOf (CXN P w base) P w K mg base N qual scope f cd A outer s H E) E := by
 intro pins σ H1 s1 e s2 I hq
 obtain ⟨a, t, C, d, B, H2, rfl, hE, W⟩ := hq
 have I' : Inv (cxOf (CXE P w base) P w K mg base N qual scope f cd A outer s H fun c _ H' => E c d H') pins σ H1 s1 := I.xe _
 have z := lqJ (E := fun c _ H' => E c d H') pins σ H1 s1 (.ref a) s2 I' ⟨a, t, C, B, H2, rfl, hE, W.f⟩
 refine wpAny_mono (eqz (hqa _ _) z) (fun _ s3 W' => ?_) fun _ _ z => z.elim
 obtain ⟨⟨a', t', C', B', H', ea, hE', W'⟩, sd⟩ := W'
 cases ea
 refine ⟨a, t', C', d, B', H', rfl, hE', W', fun x hx => ?_⟩
 obtain ⟨oe, ho, hd⟩ := W.dc x hx
 obtain ⟨ob, hob, _⟩ := W'.fly.there
 exact ⟨ob, hob, (sd.get ho hob).trans hd⟩
def Raises1 (X : Cx) (E : XK) : Prop := ∀ (pins : List (Addr × Obj)) (σ : St) (H : Hp) (s : Shared) (a C d : Addr), Inv X pins σ H s → H a = some (exSet a C d) → X.s₀.heap.objs.size ≤ a → E (.ref C) (some d) (forget H a) → X.xe (.ref a) s
theorem gqL : Raises1 (cxOf (CXN P w base) P w K mg base N qual scope f cd A outer s H E) E := by
 intro pins σ H1 s1 e C d I ha hsz hE
 have hf : (envOfC qual scope s.heap.objs.size f cd).frame = some s.heap.objs.size := rfl
 have stk : s1.heap.FunFrames base (envOfC qual scope s.heap.objs.size f cd :: outer) := I.stack
 have stf : ∀ b ∈ frs (envOfC qual scope s.heap.objs.size f cd :: outer), H1 b = none := I.stkFree
 have ib : Un (frs outer) [] H H1 s.heap s1.heap := I.base
 obtain ⟨⟨t, sl, he⟩, _, _⟩ := I.hok e _ ha
 have hsz' : s.heap.objs.size ≤ e := hsz
 have nde : ∀ b o, s.heap.get? b = some o → b ≠ e := fun b o q => Nat.ne_of_lt (Nat.lt_of_lt_of_le (Heap.lt_size q) hsz')
 have ne : ∀ b o, s.heap.get? b = some o → b ∉ frs outer → b ∉ e :: frs (envOfC qual scope s.heap.objs.size f cd :: outer) := fun b o q n z => by
  rcases List.mem_cons.mp z with z | z
  ·exact nde b o q z
  ·rcases (eqB hf).mp z with z | z
   ·exact absurd (Heap.lt_size q) (by rw [z]; exact Nat.lt_irrefl _)
   ·exact n z
 have eN : e ∉ frs (envOfC qual scope s.heap.objs.size f cd :: outer) := fun z => by rw [stf e z] at ha; cases ha
 show wpAny (model P w) (A.deeper (envOfC qual scope s.heap.objs.size f cd)) (leaving (envOfC qual scope s.heap.objs.size f cd) (.ref e)) _ _ _
 have kB : Heap.StaysIn (hideAll s1.heap (e :: frs (envOfC qual scope s.heap.objs.size f cd :: outer))) s1.heap := fun b o q => of_hideAll _ q
 refine wpAny_mono (eqz (hqa _ _) (wpAny_leaving_firstW (E := fun _ _ => False) (Q := fun _ s3 => ∃ h', s3 = { s1 with heap := h' } ∧ Heap.LeftW (hideAll s1.heap (e :: frs (envOfC qual scope s.heap.objs.size f cd :: outer))) (envOfC qual scope s.heap.objs.size f cd :: outer) e (.ref C) (.ref t) s1.heap h')
  (base := hideAll s1.heap (e :: frs (envOfC qual scope s.heap.objs.size f cd :: outer))) (oe := ⟨.ref C, some d, .fields #[.ref t, .none, .none, .none, .bool false, .none], sl⟩) (a0 := .ref t) I.ok.frames
  (funFrames_hide stk fun env he b hb => List.mem_cons_of_mem _ (List.mem_filterMap.mpr ⟨env, he, hb⟩)) hf he kB (hideAll_none _ (.head _)) rfl rfl rfl fun h' L => ⟨h', rfl, L⟩)) (fun _ s3 ⟨⟨h2, es3, L⟩, sd⟩ => ?_) fun _ _ z => z.elim
 subst es3
 obtain ⟨x1, ⟨_, _, x2⟩, x3, x4⟩ := L
 have keepB : ∀ b o, s.heap.get? b = some o → H b = none → b ∉ frs outer → (hideAll s1.heap (e :: frs (envOfC qual scope s.heap.objs.size f cd :: outer))).get? b = some o := fun b o q n nf =>
  hideAll_get _ (ib.keep b o q n nf (by simp)) (ne b o q nf)
 have thB : ∀ b o, s.heap.get? b = some o → b ∉ frs outer → ∃ o', (hideAll s1.heap (e :: frs (envOfC qual scope s.heap.objs.size f cd :: outer))).get? b = some o' := fun b o q nf => by
  obtain ⟨o', z⟩ := ib.there b o q (by simp)
  exact ⟨o', hideAll_get _ z (ne b o q nf)⟩
 have slotF : ∀ b, b ∈ frs outer → ∀ o, s1.heap.get? b = some o → ∃ sl, h2.get? b = some { o with slots := sl } := fun b hb o q => by
  obtain ⟨_, o2, q2, nd⟩ := stk.mem ((eqB hf).mpr (.inr hb))
  rw [q] at q2
  cases q2
  exact x4 b o q nd
 have fly : Heap.FlyingW (hideAll s1.heap (e :: frs (envOfC qual scope s.heap.objs.size f cd :: outer))) outer e (.ref C) (.ref t) h2 := ⟨x1, hideAll_none _ (.head _), x2, x3⟩
 have nee : ∀ b u, H1 b = some u → u ≠ exSet e C d → b ≠ e := fun b u q n z => by subst z; rw [ha] at q; exact n (Option.some.inj q).symm
 refine ⟨e, t, C, some d, _, forget H1 e, rfl, hE, ⟨I.os, I.bare, fun b o q => ?_, fly, fun a u q => ?_, ⟨fun b o q n nf _ => x1 b o (keepB b o q n nf), fun b o q n hb _ => ?_, fun b o q n hx => ?_, fun b o q _ => ?_, fun b xs q => ?_, fun b o u q => ?_, fun b ps q => ?_⟩, keepB, thB⟩, fun x hx => ?_⟩
 ·refine hideAll_get _ (I.bk b o q) fun z => ?_
  rcases List.mem_cons.mp z with z | z
  ·exact absurd (Nat.lt_of_lt_of_le (Heap.lt_size q) (Nat.le_trans I.ok.bsz hsz')) (by rw [z]; exact Nat.lt_irrefl _)
  ·rw [(stk.mem z).1] at q; cases q
 ·by_cases z : a = e
  ·subst z; rw [iq8] at q; cases q
  ·rw [bqi z] at q
   refine (I.hok a u q).stay (fun b v hb y => hideAll_get _ y fun m => ?_) (fun b y => ?_) fun b xs y => ?_
   ·rcases List.mem_cons.mp m with m | m
    ·rcases hb with rfl | hb
     ·exact z m
     ·exact nee b _ hb (by intro y; cases y) m
    ·have := stf b m
     rcases hb with rfl | hb
     ·rw [q] at this; cases this
     ·rw [hb] at this; cases this
   ·rw [bqi (nee b _ y (by intro y; cases y))]; exact y
   ·rw [bqi (nee b _ y (by intro y; cases y))]; exact y
 ·obtain ⟨sl, z⟩ := ib.slot b o q n hb (by simp)
  obtain ⟨sl', z'⟩ := slotF b hb _ z
  exact ⟨sl', z'⟩
 ·rw [bqi (nde b o q)]
  exact ib.free b o q n hx
 ·by_cases hb : b ∈ frs outer
  ·obtain ⟨o', z⟩ := ib.there b o q (by simp)
   obtain ⟨sl', z'⟩ := slotF b hb _ z
   exact ⟨_, z'⟩
  ·obtain ⟨o', z⟩ := thB b o q hb
   exact ⟨o', x1 b o' z⟩
 ·have z := ib.tups b xs q
  rw [bqi (nee b _ z (by intro y; cases y))]; exact z
 ·have z := ib.frzs b o u q
  rw [bqi (nee b _ z (by intro y; cases y))]; exact z
 ·obtain ⟨m, z⟩ := ib.tbls b ps q
  exact ⟨m, by rw [bqi (nee b _ z (by intro y; cases y))]; exact z⟩
 ·cases hx
  obtain ⟨ob, hob, _⟩ := fly.there
  exact ⟨ob, hob, sd.get he hob⟩
end
structure Mk1 (K : Frag) (C f : Addr) : Prop where
 ex : excInJ K C vErr vNew (some (.ref f)) = true
 fn : isFn K (.ref f) = true
 kp : keepIn K (.ref C) = true
def tRaise1 (E : XK) (C : Addr) (sp : Sp) (t : TA) : TS := fun _ σ H => t σ H fun vs H1 => ∀ a, H1 a = none → sp (.ref a :: vs) (upd H1 a (exNew a C)) (fun v H2 => v = .non ∧ ∃ d, H2 a = some (exSet a C d) ∧ E (.ref C) (some d) (forget H2 a)) E0
theorem lqM {E : XK} {C : Addr} {sp : Sp} {t : TA} {D : Ends} {σ : St} {H : Hp} : (tRaise1 E C sp t D σ H) = (t σ H fun vs H1 => ∀ a, H1 a = none → sp (.ref a :: vs) (upd H1 a (exNew a C)) (fun v H2 => v = .non ∧ ∃ d, H2 a = some (exSet a C d) ∧ E (.ref C) (some d) (forget H2 a)) E0) := rfl
theorem iqo {X : Cx} {x : Str} {C f : Addr} {E : XK} {CX : CXT} {k : Nat} {fd : FuncData} {ps : List Str} {sp : Sp} {np cpos pos : Pos} {e : Expr} {t : TA}
  (hx : Raises1 X E) (hg : Gl X x) (hm : X.mg x = some (.ref C)) (M : Mk1 X.K C f) (F : FnOk X.prog X.w X.K X.mg X.base CX k f fd ps sp) (hr : Room (k + 1) X.A) (hb : Binds X.K fd ps []) (hps : ps.length = 2) (h0 : Passes CX X E0) (hcalm : X.calm = true) (ha : PA X [e] t)
  (hdb : (x == ("__debug__" : Str)) = false := by decide) (he : starEach [e] X.env = (false, eval e X.env) :: starEach [] X.env := by rfl) (hpl : (backTo cpos (starEach [] X.env)).any (·.1) = false := by rfl) :
  PS X (.Raise (some (.Call (.Name x np) [e] [] cpos)) none pos) (tRaise1 E C sp t) := by
 intro pins s σ H D I h
 obtain ⟨cd, tl, dd, a, hC, ⟨hno, hni⟩, T⟩ := excObjJ I.ok.mod.kin M.ex
 have hN := Heap.Ns.of_isNs (isNs_of_in I.ok.mod.kin hno)
 have hni := oqu I.ok.mod.kin hN hni
 obtain ⟨oI, hoI, hcI⟩ : ∃ oI, X.base.get? f = some oI ∧ oI.cls = .type "function" := by
  have z : typeIn X.K (.ref f) = some (.type "function") := beq_iff_eq.mp M.fn
  unfold typeIn at z
  obtain ⟨o, ho, hc⟩ := Option.map_eq_some_iff.mp z
  exact ⟨o, I.ok.mod.kin _ _ ho, hc⟩
 rw [arm_exec_Raise]
 have hbase := T.hasType PySem.F.excBase_ValueError.hasBase
 refine wpAny_bind (wpAny_standAt (hqV (C := C) (nm := cd.name) (q := cd.qualname) (N := cd.ns) (bs := cd.bases) (bm := tl) (hdct := cd.hasDict) (sn := cd.slotNames) (sub := cd.subclasses) (ab := cd.abstract) (col := cd.collection) (dd := dd) (k0 := a 0) (k1 := a 1) (k2 := a 2) (k3 := a 3) (k5 := a 5) (newId := vNew) hbase (I.ok.hd hcalm) ?_))
 refine wpAny_bind (wpAny_mono (wpAny_Call_Name_kw (eq3 I hg hm ?_ hdb)) (fun v s₃ h₃ => wpAny_bind (wpAny_standAt (wpAny_pure h₃))) fun _ _ x => x)
 refine callWith_K (h₀ := X.base) I.ok.mod.kin M.kp (thn (ha cpos pins s σ H _ I h) fun us s1 ⟨vs, H1, I1, r, q⟩ => ⟨I1.kIn, ?_⟩) he hpl
 rw [List.nil_append]
 obtain ⟨hh, g, dw, tk, os⟩ := s1
 have hlu : us.length ≤ sizeLine := by
  have z := F.len _ _ _ _ (q (hh.objs.size + 1) (I1.hok.fresh (Nat.le_succ _)))
  rw [List.length_cons, hps] at z
  rw [← r.length, sizeLine_eq]
  lia
 have kb : ∀ b o, X.base.get? b = some o → hh.get? b = some o := fun b o e => I1.bk b o e
 refine kqV PySem.F.excBase_ValueError (T.keeps kb) (kb _ _ hC) (hN.keeps kb) hni (kb _ _ hoI) hcI ?_ hlu
 have I2 : Inv X pins σ (upd H1 (hh.objs.size + 1) (exNew (hh.objs.size + 1) C)) ⟨(hh.push (newTup us)).push (newExc C hh.objs.size), g, dw, tk, os⟩ := by
  refine I1.laid (t' := tk) (fun b u e => Heap.get?_push_of_some _ (Heap.get?_push_of_some _ e)) (Nat.le_succ _) ?_
  have hg2 : ((hh.push (newTup us)).push (newExc C hh.objs.size)).get? (hh.objs.size + 1) = some (newExc C hh.objs.size) := by heap_get
  exact ⟨⟨_, _, hg2⟩, ⟨_, hg2⟩, fun h1 h2 ⟨t, sl, z⟩ k => ⟨t, sl, k _ z⟩⟩
 have q2 := q (hh.objs.size + 1) (I1.hok.fresh (Nat.le_succ _))
 have r2 : Vals (V.ref (hh.objs.size + 1) :: vs) (Value.ref (hh.objs.size + 1) :: us) := .cons rfl r
 have hl : (Value.ref (hh.objs.size + 1) :: us).length = ps.length := by rw [← r2.length]; exact F.len _ _ _ _ q2
 have hbb := hb ⟨(hh.push (newTup us)).push (newExc C hh.objs.size), g, dw, tk, os⟩ (Value.ref (hh.objs.size + 1) :: us) I2.kIn (by rw [List.append_nil]; exact hl)
 rw [List.append_nil] at hbb
 refine wpAny_call (codeAny_mono (F.run _ X.stack _ _ ⟨Value.ref (hh.objs.size + 1) :: us, []⟩ (Value.ref (hh.objs.size + 1) :: us) _ _ E0 (hr.make C us []) (I2.env0.make C us []) hbb r2 q2) fun r s' hq' => ?_)
 cases r with
 | error ev => exact h0 pins σ _ _ ev s' I2 hq'
 | ok fl =>
  cases fl with
  | ret u =>
   obtain ⟨v, H', I3, rv, ev, d, hd, hE⟩ := I2.after hq'
   subst ev
   obtain ⟨⟨t, sl, hx3⟩, _, _⟩ := I3.hok _ _ hd
   exact ⟨rv, _, t, some d, sl, rfl, I3.bk _ _ hC, hx3, hx pins σ H' s' _ C d I3 hd (Nat.le_trans I1.sz (Nat.le_succ _)) hE⟩
  | next => exact False.elim hq'
  | brk => exact False.elim hq'
  | cont => exact False.elim hq'
theorem Fun.okn {P : Program} {w : World} {K : Frag} {mg : Str → Option Value} {base : Heap} {x qual : Str} {st : Stmt} {f : Addr} {fd : FuncData} {N ps : List Str} {k : Nat} {sp : Sp} (F : Fun K x qual st f fd) (S : FnScope N ps (defScope st)) (len : ∀ vs H Q E, sp vs H Q E → vs.length = ps.length)
  (hbody : ∀ (cdv : Value) (A : Around) (outer : List Env) (s : Shared) (H : Hp) (vs : List V) (Q : VK) (E : XK), Room k (A.deeper (envOfC qual (defScope st) s.heap.objs.size f cdv)) → sp vs H Q E →
   ∃ t, PSs (cxOf (CXN P w base) P w K mg base N qual (defScope st) f cdv A outer s H E) (defBody st) t ∧ t { nx := fun _ H' => Q .non H', rt := Q } (start N vs) H) : FnOk P w K mg base (CXN P w base) (k + 1) f fd ps sp := by
 obtain ⟨oc, od, kV, doc, pm, an, cdv, ct, osl, rfl, lk, hcd⟩ := F.ex
 exact qqj lk hcd S len fun A outer s H vs Q E hr hsp => hbody cdv A outer s H vs Q E hr hsp
def TryB (X : Cx) (body : List Stmt) (t : XK → TS) : Prop := ∀ (pins : List (Addr × Obj)) (s : Shared) (σ : St) (H : Hp) (D : Ends) (Eh : XK), Inv X pins σ H s → t Eh D σ H →
 wpAny (model X.prog X.w) X.A (execs body X.env) (SP X pins D) (fun e s' => ∃ H1 s1, Inv X pins σ H1 s1 ∧ CXN X.prog X.w X.base X.stack H1 s1 Eh e s') s
def tTryCall (sp : Sp) (t : TA) : XK → TS := fun Eh D σ H => t σ H fun vs H1 => sp vs H1 (fun _ H2 => D.nx σ H2) Eh
theorem mqk {X : Cx} {k : Nat} {f : Addr} {fd : FuncData} {ps : List Str} {sp : Sp} {fx : Str} {p cpos epos : Pos} {e : Expr} {es : List Expr} {t : TA}
  (F : FnOk X.prog X.w X.K X.mg X.base (CXN X.prog X.w X.base) k f fd ps sp) (hr : Room k X.A) (hg : Gl X fx) (hm : X.mg fx = some (.ref f)) (hk : keepIn X.K (.ref f) = true) (hb : Binds X.K fd ps []) (ha : PA X (e :: es) t)
  (hx0 : ∀ e s, X.xe e s → False)
  (hdb : (fx == ("__debug__" : Str)) = false := by decide)
  (he : starEach (e :: es) X.env = (false, eval e X.env) :: starEach es X.env := by rfl) (hpl : (backTo cpos (starEach es X.env)).any (·.1) = false := by rfl)
  (hs : swapsWith (.Call (.Name fx p) (e :: es) [] cpos) none epos.line X.env = pure false := by rfl) :
  TryB X [.Expr (.Call (.Name fx p) (e :: es) [] cpos) epos] (tTryCall sp t) := by
 intro pins s σ H D Eh I h
 refine wpAny_execs_cons (wpAny_Expr_any (wpAny_Call_Name_kw (eq3 I hg hm ?_ hdb)) I.quiet hs)
 refine callWith_K (h₀ := X.base) I.ok.mod.kin hk (wpAny_mono (ha cpos pins s σ H _ I h) (fun us s1 ⟨vs, H1, I1, r, q⟩ => ⟨I1.kIn, ?_⟩) fun e s1 z => (hx0 e s1 z).elim) he hpl
 have hlen : (us ++ []).length = ps.length := by rw [List.append_nil, ← r.length]; exact F.len _ _ _ _ q
 have hbb := hb s1 us I1.kIn hlen
 rw [List.append_nil] at hbb
 refine wpAny_call (codeAny_mono (F.run X.A X.stack s1 H1 ⟨us, []⟩ us vs _ _ hr I1.env0 hbb r q) fun r s2 hq => ?_)
 cases r with
 | ok fl =>
  cases fl with
  | ret u =>
   obtain ⟨v, H2, I2, rv, q2⟩ := I1.after hq
   exact wpAny_execs_nil ⟨σ, H2, I2, q2⟩
  | next => exact False.elim hq
  | brk => exact False.elim hq
  | cont => exact False.elim hq
 | error ev => exact ⟨H1, s1, I1, hq⟩
theorem Inv.sharp {X : Cx} {pins : List (Addr × Obj)} {σ : St} {H : Hp} {s : Shared} {a : Addr} {φ ψ : Heap → Prop} (I : Inv X pins σ (upd H a (.ext φ)) s) (h : ψ s.heap) (st : ∀ h1 h2 : Heap, ψ h1 → (∀ o, h1.get? a = some o → h2.get? a = some o) → ψ h2) : Inv X pins σ (upd H a (.ext ψ)) s := by
 have e : upd H a (.ext φ) a = some (.ext φ) := aqk
 obtain ⟨_, ex, _⟩ := I.hok a _ e
 have := I.write (x := a) (e := a) (o := .ext ψ) (t' := s.toks) (h' := s.heap) (by rw [e]; exact True.intro) (.inl rfl) (fun b u _ q => q) ex ⟨h, ex, st⟩
 rwa [pqh] at this
def tTryN (K : Frag) (t : XK → TS) (W : Addr) (i : Nat) (tb : TS) : TS := fun D σ H => t (fun cls d H2 =>
 ∃ C, cls = .ref C ∧ subIn K (.ref C) (.ref W) = some true ∧ ∀ a, H2 a = none → tb { nx := fun σ' H' => D.nx (σ'.set i none) H', rt := D.rt } (σ.set i (some (.ref a))) (upd H2 a (exC a C d))) { nx := D.nx, rt := D.rt } σ H
theorem oqH {X : Cx} {W : Addr} {x n : Str} {np hpos pos : Pos} {body : List Stmt} {b₀ : Stmt} {suite : List Stmt} {t : XK → TS} {tb : TS} {i : Nat}
  (hb : TryB X body t) (hstk : X.stack = X.env :: X.outer) (hf : X.env.frame = some X.env.locals) (hgW : Gl X x) (hmW : X.mg x = some (.ref W)) (cw : Catch X.K W)
  (nd : X.N.Nodup) (hi : X.N[i]? = some n) (hl : X.env.scope.names.lookup n = some .local) (hbd : ∀ a, PSs (X.handling (.ref a)) (b₀ :: suite) tb) (hdW : (x == ("__debug__" : Str)) = false := by decide) :
  PS X (.Try body [.ExceptHandler (some (.Name x np)) (some n) (b₀ :: suite) hpos] [] [] pos) (tTryN X.K t W i tb) := by
 intro pins s σ H D I h
 refine wpAny_Try_except (wpAny_mono (hb pins s σ H _ _ I h) (fun fl s2 q => ?_) fun ev s2 ⟨H1, s1, I1, hq⟩ => ?_)
 ·cases fl with
  | next => exact wpAny_execs_nil q
  | ret u => exact q
  | brk => obtain ⟨_, _, _, q⟩ := q; exact q.elim
  | cont => obtain ⟨_, _, _, q⟩ := q; exact q.elim
 ·obtain ⟨a, tt, C, d, B, H2, rfl, ⟨C', ce, hsub, hq⟩, Wn⟩ := hq
  cases ce
  have hn : H2 a = none := Wn.f.new (h5 := s.heap) (a0 := .none)
  have fl : Heap.FlyingW B (X.env :: X.outer) a (.ref C) (.ref tt) s2.heap := hstk ▸ Wn.f.fly
  have fr : X.A.frames = some (X.env :: X.outer) := hstk ▸ I1.ok.frames
  refine wpAny_mono (eqz (fqr _ _) (wpAny_looks_onW (E := fun _ _ => False) (Q := fun _ s3 => ∃ h4, s3 = { s2 with heap := h4 } ∧ Heap.HeldW B (X.env :: X.outer) a (.ref C) (.ref tt) X.env.locals h4 ∧ s2.heap.UpToSlots h4) fr hf fl fun h4 held4 sm4 => ⟨h4, rfl, held4, sm4⟩)) (fun _ s3 W' => ?_) fun _ _ z => z.elim
  obtain ⟨⟨h4, e3, held4, sm4⟩, sd4⟩ := W'
  subst e3
  refine wpAny_mono (eqz (dqn _ _) (wpAny_landsW (E := fun _ _ => False) (s := { s2 with heap := h4 }) (Q := fun _ s3 => ∃ h5, s3 = { s2 with heap := h5 } ∧ Heap.FlyingW B (X.env :: X.outer) a (.ref C) (.ref tt) h5 ∧ h4.UpToSlots h5) held4 fun h5 f5 sm5 => ⟨h5, rfl, f5, sm5⟩)) (fun _ s3 W' => ?_) fun _ _ z => z.elim
  obtain ⟨⟨h5, e3, f5, sm5⟩, sd5⟩ := W'
  subst e3
  have I5 := I1.caught Wn.f (hstk.symm ▸ f5) (sm4.trans sm5)
  refine wpAny_handleBy_cons (codeAny_handlers_test (eq3 (X := X.handling (.ref a)) (I5.handling _) hgW hmW ?_ hdW)) (by intro q; cases q)
  obtain ⟨ob, hob, hoc⟩ := f5.there
  refine (jqx I5.kIn hob hoc cw hsub) _ _ _ _ (fun b o q => q) ?_
  refine codeAny_handlers_suite_as ?_
  refine wpAny_mono (eqz (dqn _ _) (lands_againW (E := fun _ _ => False) (s := { s2 with heap := h5 }) (Q := fun _ s3 => ∃ h6, s3 = { s2 with heap := h6 } ∧ Heap.FlyingW B (X.env :: X.outer) a (.ref C) (.ref tt) h6 ∧ h5.UpToSlots h6) f5 fun h6 f6 sm6 => ⟨h6, rfl, f6, sm6⟩)) (fun _ s3 W' => ?_) fun _ _ z => z.elim
  obtain ⟨⟨h6, e3, f6, sm6⟩, sd6⟩ := W'
  subst e3
  have I6' := I1.caught Wn.f (hstk.symm ▸ f6) ((sm4.trans sm5).trans sm6)
  obtain ⟨oe, vs6, ho6, hc6, hd6, _⟩ := f6.first
  have I6 : Inv X pins σ (upd H2 a (exC a C d)) { s2 with heap := h6 } := by
   refine I6'.sharp ⟨oe, ho6, hc6, fun y hy => ?_, by unfold notCls; rw [hd6]⟩ fun h1 h2 ⟨o, z, c⟩ k => ⟨o, k o z, c⟩
   obtain ⟨o2, z2, zd⟩ := Wn.dc y hy
   exact (((sd4.trans sd5).trans sd6).get z2 ho6).trans zd
  refine hqR (X := X.handling (.ref a)) (i := i) (v := .ref a) (I6.handling _) nd hi (.inl hl) rfl (fun s7 I7 => ?_) (.inr hl)
  refine wpAny_mono (hbd a pins s7 _ _ _ I7 (hq a hn)) (fun fl s8 q8 => ?_) fun e s8 z => z.elim
  cases fl with
  | next =>
   obtain ⟨σ', H', I', q'⟩ := q8
   exact (Inv.handled I1.ok I').goes nd hi hl fun s9 I9 => ⟨_, _, I9, q'⟩
  | ret u =>
   obtain ⟨v, σ', H', I', rv, q'⟩ := q8
   exact (Inv.handled I1.ok I').goes nd hi hl fun s9 I9 => ⟨_, _, _, I9, rv, q'⟩
  | brk =>
   obtain ⟨_, _, _, q'⟩ := q8
   exact q'.elim
  | cont =>
   obtain ⟨_, _, _, q'⟩ := q8
   exact q'.elim
theorem oqK {K : Frag} {t : XK → TS} {W : Addr} {i : Nat} {tb : TS} {D : Ends} {σ : St} {H : Hp} : tTryN K t W i tb D σ H ↔ t (fun cls d H2 =>
 ∃ C, cls = .ref C ∧ subIn K (.ref C) (.ref W) = some true ∧ ∀ a, H2 a = none → tb { nx := fun σ' H' => D.nx (σ'.set i none) H', rt := D.rt } (σ.set i (some (.ref a))) (upd H2 a (exC a C d))) { nx := D.nx, rt := D.rt } σ H := Iff.rfl
theorem jq9 {sp : Sp} {t : TA} {Eh : XK} {D : Ends} {σ : St} {H : Hp} : (tTryCall sp t Eh D σ H) = (t σ H fun vs H1 => sp vs H1 (fun _ H2 => D.nx σ H2) Eh) := rfl
def rIsX (K : Frag) : List V → Hp → VK → Prop := fun vs H Q => ∃ a c C d b, vs = [.ref a, c] ∧ H a = some (exC a C d) ∧ ExLook K C ∧ KitAns K H C c b ∧ Q (.bl b) H
theorem cqe {X : Cx} {K : Frag} (hk : X.K = K) : CallR X (.builtin "isinstance") (rIsX K) := by
 subst hk
 intro pins s σ H vs us Q I rv h
 obtain ⟨a, c, C, d, b, rfl, ha, L, ans, q⟩ := h
 cases rv with
 | cons r1 rs =>
  cases rs with
  | cons r2 rn =>
   cases rn
   cases r1
   have hobj : ∃ o, s.heap.get? a = some o ∧ o.cls = .ref C := let ⟨⟨o, z, c, _⟩, _⟩ := I.hok a _ ha; ⟨o, z, c⟩
   have Z := lq7 (a := a) L PySem.F.attrBase_ValueError.ga
   cases ans with
   | cls e =>
    cases r2
    exact kia_one Z I.kIn hobj e (by intro z; cases z) fun tk => ⟨.bl b, H, I.tok tk, rfl, q⟩
   | ty e =>
    cases r2
    exact kia_one Z I.kIn hobj e (by intro z; cases z) fun tk => ⟨.bl b, H, I.tok tk, rfl, q⟩
   | tup hp e =>
    cases r2
    obtain ⟨_, its, rv, ⟨oc, od, da, sl⟩, hob, hcl, n, hda⟩ := I.hok _ _ hp
    dsimp only at hcl hda
    subst hcl hda
    rw [iqz rv] at hob
    exact kia_tup Z I.kIn hobj hob e (by intro z; cases z) fun tk => ⟨.bl b, H, I.tok tk, rfl, q⟩
theorem qql {K : Frag} {a : Addr} {c : V} {H : Hp} {Q : VK} : rIsX K [.ref a, c] H Q ↔ ∃ C d b, H a = some (exC a C d) ∧ ExLook K C ∧ KitAns K H C c b ∧ Q (.bl b) H :=
 ⟨fun ⟨_, _, C, d, b, e, h⟩ => by cases e; exact ⟨C, d, b, h⟩, fun ⟨C, d, b, h⟩ => ⟨a, c, C, d, b, rfl, h⟩⟩
end L2
namespace L2
open PySem PySem.Spec PySem.W PySem.Calls PyProof.Rows PySem.Builtin PySem.Builtin.ObjectAttr
section
variable {prog : Program} {w : World} {A : Around} {E : Value → Shared → Prop} {hh : Heap} {g : Array GenState} {dr : Drawn} {t : Nat} {os : OsState} {K : Frag} {a C : Addr} {o : Obj} {od : Option Obj} {name : Str} {v : Value}
theorem hqf {tk : Tok} {Q : Fin → Shared → Prop} (kin : K.In hh) (I : PySem.W.InstAt hh a o C od) (hf : findObj K C od name = some (.value v)) (hq : Q (.done (.ret v)) ⟨hh, g, dr, t, os⟩) :
  wpAny (model prog w) A (Builtin.«object.__getattribute__» ⟨[.ref a, .str name tk], []⟩) Q E ⟨hh, g, dr, t, os⟩ := by
 have L0 := I.type (M := model prog w)
 have L1 := looks_find (M := model prog w) kin I hf
 refine wpAny_bind (wpAny_pure (wpAny_bind (wpAny_pure (wpAny_bind (L0.at (wpAny_bind (L1.at ?_)))))))
 exact wpAny_pure hq
theorem kqG {tk : Tok} {n1 ex : Bool} {Q : Value → Shared → Prop} (kin : K.In hh) (I : PySem.W.InstAt hh a o C od) (hf : findObj K C od name = some (.value v)) (hv : handedIn v = true) (L : ExLook K C) (gb : Slot "ValueError" "__getattribute__" "BaseException.__getattribute__") (hq : Q v ⟨hh, g, dr, t, os⟩) :
  wpAny (model prog w) A (getAttrBy (.ref a) (.str name tk) n1 ex) Q E ⟨hh, g, dr, t, os⟩ := by
 have lt := dqL (M := model prog w) I.at_ I.cls; have lg := looks_findIn (M := model prog w) kin L.ga; have ln := looks_findIn (M := model prog w) kin L.na
 have f3 := gb.bind (.ref a)
 have y2 : (Value.builtin "BaseException.__getattribute__" == Value.builtin "object.__getattribute__") = false := by decide +kernel
 have y1 : (onTheHeap (Value.ref C) && Value.builtin "BaseException.__getattribute__" == Value.builtin "object.__getattribute__") = false := by rw [y2]; rfl
 have y0 : (ex && onTheHeap (Value.builtin "BaseException.__getattribute__")) = false := by cases ex <;> rfl
 repeat (any_goals (first | assumption | with_reducible refine Looks.at lt ?_ | with_reducible refine Looks.at lg ?_ | with_reducible refine Looks.at ln ?_ | rw [y0] | wp_step))
 refine codeAny_call_builtin gb.plain PySem.F.entry_bexc_ga (fqh kin I.at_ I.cls L (hqf kin I hf ?_))
 have hz := handedOut_of hv
 repeat (any_goals (first | assumption | rw [hz] | wp_step))
end
structure ExFld (K : Frag) (C : Addr) (f : Str) : Prop where
 look : ExLook K C
 na : findIn K (.ref C) f = some none
 hd : hasDictIn K C = true
def tFldE (K : Frag) (te : TE) (f : Str) : TE := fun σ H Q => te σ H fun x H1 => ∃ a C d fs v, x = .ref a ∧ H1 a = some (exC a C (some d)) ∧ H1 d = some (.xd fs) ∧ ExFld K C f ∧ fs.lookup f = some v ∧ Q v H1
theorem oqd {K : Frag} {te : TE} {f : Str} {σ : St} {H : Hp} {Q : VK} : (tFldE K te f σ H Q) = (te σ H fun x H1 => ∃ a C d fs v, x = .ref a ∧ H1 a = some (exC a C (some d)) ∧ H1 d = some (.xd fs) ∧ ExFld K C f ∧ fs.lookup f = some v ∧ Q v H1) := rfl
theorem pqe {X : Cx} {e : Expr} {f : Str} {pos : Pos} {te : TE} (he : PE X e te) (hb : attributeBase e f X.env (eval e X.env) = eval e X.env) : PE X (.Attribute e f pos) (tFldE X.K te f) := by
 intro pins s σ H Q I h
 refine oqz hb (thn (he pins s σ H _ I h) fun u s1 W' => ?_)
 obtain ⟨x, H1, I1, rx, a, C, d, fs, v, ex, ea, ed, c, l, q⟩ := W'
 subst ex
 obtain rfl : u = Value.ref a := rx
 obtain ⟨⟨o, ho, hc, hdc, hnc⟩, _, _⟩ := I1.hok a _ ea
 obtain ⟨mA, hN, hR⟩ := I1.hok d _ ed
 obtain ⟨od, hod, hl⟩ := iqT hN
 have dd := hdc d rfl
 have J : PySem.W.InstAt s1.heap a o C (some od) := ⟨ho, hc, hnc, by rw [dd]; exact hod⟩
 obtain ⟨v', hv', rv⟩ := RelO.some_of (v := v) (o := mA f) (by rw [← l]; exact hR f)
 have K1 := I1.kIn
 have fo : findObj X.K C (some od) f = some (.value v') := findObj_own c.hd c.na rfl (by rw [hl, hv'])
 have I2 := I1.tok (s1.toks + 1)
 obtain ⟨hh, g, dr, tk, os⟩ := s1
 unfold getAttr
 refine wpAny_bind (wpAny_mkText ?_)
 refine kqG K1 J fo (kqY rv) c.look PySem.F.attrBase_ValueError.ga ?_
 exact ⟨v, H1, I2, rv, q⟩
theorem jqX {X : Cx} {K : PySem.W.Frag} {e : Expr} {f : Str} {pos : Pos} {te : TE} (hk : X.K = K) (he : PE X e te) (hb : attributeBase e f X.env (eval e X.env) = eval e X.env) : PE X (.Attribute e f pos) (tFldE K te f) := by subst hk; exact pqe he hb
end L2
namespace L2
open PySem PySem.Spec PyProof.Rows
section
variable {X : Cx}
def rStart1 : V → List V → Hp → VK → Prop := fun x vs H Q => ∃ z y : List Nat, x = .str ⟨z.toArray⟩ ∧ vs = [.str ⟨y.toArray⟩] ∧ Q (.bl (decide (z.take y.length = y))) H
def rEnd1 : V → List V → Hp → VK → Prop := fun x vs H Q => ∃ z y : List Nat, x = .str ⟨z.toArray⟩ ∧ vs = [.str ⟨y.toArray⟩] ∧ Q (.bl (decide (z.drop (z.length - y.length) = y))) H
theorem pqD {i j : Nat} {ta : TA} {D : Ends} {σ : St} {H : Hp} : (tPar i j ta D σ H) = (ta σ H fun vs H1 => ∃ v w, vs = [v, w] ∧ D.nx ((σ.set i (some v)).set j (some w)) H1) := rfl
theorem pqd {z y : List Nat} {H : Hp} {Q : VK} : rStart1 (.str ⟨z.toArray⟩) [.str ⟨y.toArray⟩] H Q ↔ Q (.bl (decide (z.take y.length = y))) H :=
 ⟨fun ⟨z', y', e1, e2, h⟩ => by
  injection e1 with e1; injection e1 with e1
  injection e2 with e2; injection e2 with e2; injection e2 with e2
  have h1 : z = z' := by simpa using congrArg Array.toList e1
  have h2 : y = y' := by simpa using congrArg Array.toList e2
  subst h1 h2; exact h, fun h => ⟨z, y, rfl, rfl, h⟩⟩
theorem nq7 {z y : List Nat} {H : Hp} {Q : VK} : rEnd1 (.str ⟨z.toArray⟩) [.str ⟨y.toArray⟩] H Q ↔ Q (.bl (decide (z.drop (z.length - y.length) = y))) H :=
 ⟨fun ⟨z', y', e1, e2, h⟩ => by
  injection e1 with e1; injection e1 with e1
  injection e2 with e2; injection e2 with e2; injection e2 with e2
  have h1 : z = z' := by simpa using congrArg Array.toList e1
  have h2 : y = y' := by simpa using congrArg Array.toList e2
  subst h1 h2; exact h, fun h => ⟨z, y, rfl, rfl, h⟩⟩
end
end L2
namespace L2
open PySem
section
variable {p : Addr} {fv : St} {tt : TT} {te : TE} {Q : VK} {H1 : Hp} {K : PySem.W.Frag}
end
end L2
namespace Wm
open PySem L2
inductive Pc
 | step (s : List Nat)
 | part (h n t : List Nat)
 | num (n : List Nat)
 | word (n : List Nat)
 | gap (n : List Nat)
 | rest (n : List Nat)
abbrev tV (l : List Nat) : V := .str ⟨l.toArray⟩
def Pc.kw : Pc → Str
 | .step _ => Str.ofString "step"
 | .part .. => Str.ofString "part"
 | .num _ => Str.ofString "number"
 | .word _ => Str.ofString "word"
 | .gap _ => Str.ofString "gap"
 | .rest _ => Str.ofString "rest"
def Pc.tl : Pc → List V
 | .step s => [tV s]
 | .part h n t => [tV h, tV n, tV t]
 | .num n => [tV n]
 | .word n => [tV n]
 | .gap n => [tV n]
 | .rest n => [tV n]
def Pc.vals (c : Pc) : List V := .str c.kw :: c.tl
def Pc.name : Pc → List Nat
 | .step _ => []
 | .part _ n _ => n
 | .num n => n
 | .word n => n
 | .gap n => n
 | .rest n => n
def Pc.head : Pc → List Nat | .part h _ _ => h | _ => []
def Pc.tail : Pc → List Nat | .part _ _ t => t | _ => []
def Pc.isStep : Pc → Bool | .step _ => true | _ => false
def Pc.isPart : Pc → Bool | .part .. => true | _ => false
def Pc.isNum : Pc → Bool | .num _ => true | _ => false
def Pc.isWord : Pc → Bool | .word _ => true | _ => false
def Pc.isRest : Pc → Bool | .rest _ => true | _ => false
theorem Pc.at0 (c : Pc) : atI c.vals 0 = some (.str c.kw) := aqn (j := 0) rfl
theorem lqT (c : Pc) : decide (c.kw = Str.ofString "step") = c.isStep := by cases c <;> first | exact decide_eq_true rfl | exact decide_eq_false (show ¬ (Str.ofString _ = Str.ofString _) by decide +kernel)
theorem eq1 (c : Pc) : decide (c.kw = Str.ofString "part") = c.isPart := by cases c <;> first | exact decide_eq_true rfl | exact decide_eq_false (show ¬ (Str.ofString _ = Str.ofString _) by decide +kernel)
theorem jqM (c : Pc) : decide (c.kw = Str.ofString "number") = c.isNum := by cases c <;> first | exact decide_eq_true rfl | exact decide_eq_false (show ¬ (Str.ofString _ = Str.ofString _) by decide +kernel)
theorem jqw (c : Pc) : decide (c.kw = Str.ofString "word") = c.isWord := by cases c <;> first | exact decide_eq_true rfl | exact decide_eq_false (show ¬ (Str.ofString _ = Str.ofString _) by decide +kernel)
theorem hqG (c : Pc) : decide (c.kw = Str.ofString "rest") = c.isRest := by cases c <;> first | exact decide_eq_true rfl | exact decide_eq_false (show ¬ (Str.ofString _ = Str.ofString _) by decide +kernel)
def isFig (c : Nat) : Bool := decide (48 ≤ c ∧ c ≤ 57)
def isSma (c : Nat) : Bool := decide (97 ≤ c ∧ c ≤ 122)
def numB (l : List Nat) : Bool := decide (1 ≤ l.length) && decide (l.length ≤ 60) && l.all isFig && (decide (l = [48]) || !decide (l.head? = some 48))
def wordB (l : List Nat) : Bool := decide (1 ≤ l.length) && decide (l.length ≤ 60) && l.all isSma
def partB (h t s : List Nat) : Bool := decide (s.take h.length = h) && (decide (s.drop (s.length - t.length) = t) && decide (h.length + t.length < s.length))
def fitsM (c : Pc) (s : List Nat) : Bool := !isDot s && match c with
 | .step w => decide (s = w)
 | .part h _ t => partB h t s
 | .num _ => numB s
 | .word _ => wordB s
 | .gap _ => true
 | .rest _ => true
inductive Vl
 | txt (l : List Nat)
 | int (i : Int)
 | lst (ls : List (List Nat))
def intOf (l : List Nat) : Int := (PySem.intText? ⟨l.toArray⟩).getD 0
def amid (h t s : List Nat) : List Nat := (s.drop h.length).take (s.length - t.length - h.length)
def bvM (c : Pc) (ss : List (List Nat)) : Vl := match c with
 | .rest _ => .lst ss
 | .num _ => .int (intOf (ss.headD []))
 | _ => .txt (amid c.head c.tail (ss.headD []))
def VlV (H : Hp) : Vl → V → Prop
 | .txt l, v => v = tV l
 | .int i, v => v = .int i
 | .lst ls, v => ∃ p, v = .ref p ∧ H p = some (.lst (ls.map tV))
theorem VlV.mono {H H' : Hp} (s : Same H H') : ∀ {x : Vl} {v : V}, VlV H x v → VlV H' x v
 | .txt _, _, h => h
 | .int _, _, h => h
 | .lst _, _, ⟨p, e, h⟩ => ⟨p, e, s _ _ h⟩
inductive PcAll (K : PySem.W.Frag) (H : Hp) : List Pc → List V → Prop
 | nil : PcAll K H [] []
 | cons {c : Pc} {p : Addr} {cs : List Pc} {xs : List V} : SqT K H p c.vals → PcAll K H cs xs → PcAll K H (c :: cs) (.ref p :: xs)
theorem PcAll.mono {K : PySem.W.Frag} {H H' : Hp} (s : Same H H') {cs : List Pc} {xs : List V} (hh : PcAll K H cs xs) : PcAll K H' cs xs := by
 induction hh with
 | nil => exact .nil
 | cons h r ih => exact .cons (s.tup h) ih
theorem PcAll.length {K : PySem.W.Frag} {H : Hp} {cs : List Pc} {xs : List V} (hh : PcAll K H cs xs) : xs.length = cs.length := by
 induction hh with
 | nil => exact rfl
 | cons _ r ih => simp [ih]
theorem PcAll.get {K : PySem.W.Frag} {H : Hp} {cs : List Pc} {xs : List V} (hh : PcAll K H cs xs) {i : Nat} {v : V} (e : xs[i]? = some v) : ∃ c p, cs[i]? = some c ∧ v = .ref p ∧ SqT K H p c.vals := by
 induction hh generalizing i with
 | nil => cases e
 | cons h _ ih =>
  cases i with
  | zero => cases e; exact ⟨_, _, rfl, rfl, h⟩
  | succ i => exact ih e
def hasRest (cs : List Pc) : Bool := match cs.getLast? with
 | some c => c.isRest
 | none => false
def smaL : List Nat := (Str.ofString "abcdefghijklmnopqrstuvwxyz").cps.toList
theorem lqy : ∀ c, c < 128 → (c ∈ smaL ↔ isSma c = true) := by decide +kernel
theorem jqG : ∀ c ∈ smaL, c < 128 := by decide +kernel
theorem oqZ (l : List Nat) : l.all isSma = l.all fun c => decide (c ∈ smaL) := by
 congr 1
 funext c
 by_cases h : c < 128
 ·rw [Bool.eq_iff_iff, decide_eq_true_eq]; exact (lqy c h).symm
 ·have h1 : ¬ c ∈ smaL := fun z => h (jqG c z)
  rw [decide_eq_false h1]
  unfold isSma
  exact decide_eq_false (by lia)
def spreadM (cs : List Pc) (n : Nat) : Option (List Pc) := if hasRest cs = true ∧ cs.length ≤ n then some (cs ++ (List.replicate (n - cs.length) (cs.drop (cs.length - 1))).flatten) else if n = cs.length then some cs else none
theorem fqI (s : List Nat) : amid [] [] s = s := by unfold amid; simp
def fitsP (cs : List Pc) (cl r : Bool) (ss : List (List Nat)) (e : Bool) : Bool := match spreadM cs ss.length with
 | none => false
 | some ds => r && decide (e = cl) && (List.zipWith fitsM ds ss).all id
def boundM : List Pc → List (List Nat) → List (List Nat × Vl)
 | [], _ => []
 | c :: cs, ss => (if c.isStep then [] else [(c.name, bvM c ss)]) ++ boundM cs (ss.drop 1)
inductive BndV (H : Hp) (l : Addr) : List (List Nat × Vl) → List V → Prop
 | nil : BndV H l [] []
 | cons {n : List Nat} {x : Vl} {p : Addr} {v : V} {bs : List (List Nat × Vl)} {ys : List V} : H p = some (.tup [tV n, v]) → VlV H x v → (∀ q, v = .ref q → q ≠ l) → BndV H l bs ys → BndV H l ((n, x) :: bs) (.ref p :: ys)
theorem BndV.mono {H H' : Hp} {l : Addr} (s : Same H H') {bs : List (List Nat × Vl)} {ys : List V} (hh : BndV H l bs ys) : BndV H' l bs ys := by
 induction hh with
 | nil => exact .nil
 | cons h v n r ih => exact .cons (s _ _ h) (v.mono s) n ih
theorem VlV.upd {H : Hp} {l : Addr} {o : HO} : ∀ {x : Vl} {v : V}, VlV H x v → (∀ q, v = .ref q → q ≠ l) → VlV (L2.upd H l o) x v
 | .txt _, _, h, _ => h
 | .int _, _, h, _ => h
 | .lst _, _, ⟨p, e, h⟩, hn => ⟨p, e, by rw [aqj (hn p e)]; exact h⟩
theorem BndV.upd {H : Hp} {l : Addr} {o : HO} {xs : List V} (hl : H l = some (.lst xs)) {bs : List (List Nat × Vl)} {ys : List V} (hh : BndV H l bs ys) : BndV (L2.upd H l o) l bs ys := by
 induction hh with
 | nil => exact .nil
 | cons h v n r ih => exact .cons (by rw [aqj (qqT h hl (by intro z; cases z))]; exact h) (v.upd n) n ih
theorem BndV.snoc {H : Hp} {l : Addr} {n : List Nat} {x : Vl} {p : Addr} {v : V} (h : H p = some (.tup [tV n, v])) (hv : VlV H x v) (hn : ∀ q, v = .ref q → q ≠ l) {bs : List (List Nat × Vl)} {ys : List V} (hh : BndV H l bs ys) : BndV H l (bs ++ [(n, x)]) (ys ++ [.ref p]) := by
 induction hh with
 | nil => exact .cons h hv hn .nil
 | cons a b c r ih => exact .cons a b c ih
theorem BndV.length {H : Hp} {l : Addr} {bs : List (List Nat × Vl)} {ys : List V} (hh : BndV H l bs ys) : ys.length = bs.length := by
 induction hh with
 | nil => exact rfl
 | cons _ _ _ r ih => simp [ih]
theorem gq5 {cs ds : List Pc} {n : Nat} (h : spreadM cs n = some ds) : cs.length ≤ n ∧ ∃ es, ds = cs ++ es := by
 unfold spreadM at h
 split at h
 ·rename_i hh
  cases h
  exact ⟨hh.2, _, rfl⟩
 ·split at h
  ·rename_i hh
   cases h
   exact ⟨by lia, [], by simp⟩
  ·cases h
theorem mqo {cs : List Pc} {cl r e : Bool} {ss : List (List Nat)} (h : fitsP cs cl r ss e = true) {i : Nat} {c : Pc} (hc : cs[i]? = some c) : ∃ s, ss[i]? = some s ∧ fitsM c s = true := by
 unfold fitsP at h
 split at h
 ·cases h
 ·rename_i ds hd
  obtain ⟨hl, es, rfl⟩ := gq5 hd
  have hi := (List.getElem?_eq_some_iff.mp hc).1
  have hs : ss[i]? = some ss[i] := List.getElem?_eq_getElem (by lia)
  refine ⟨_, hs, ?_⟩
  have ha := (Bool.and_eq_true _ _ ▸ h).2
  have hz : (List.zipWith fitsM (cs ++ es) ss)[i]? = some (fitsM c ss[i]) := by
   rw [List.getElem?_zipWith, List.getElem?_append_left hi, hc, hs]
  exact List.all_eq_true.mp ha _ (List.mem_of_getElem? hz)
theorem mqM {n s : List Nat} (h : fitsM (.num n) s = true) : 1 ≤ s.length ∧ s.length ≤ 60 ∧ s.all isFig = true := by
 unfold fitsM numB at h
 simp only [Bool.and_eq_true, decide_eq_true_eq] at h
 exact ⟨h.2.1.1.1, h.2.1.1.2, h.2.1.2⟩
def PcSz (cs : List Pc) : Prop := ∀ c ∈ cs, c.head.length ≤ 100000 ∧ c.tail.length ≤ 100000
theorem kqz {cs ds : List Pc} {n : Nat} (h : spreadM cs n = some ds) : ds.length = n := by
 unfold spreadM at h
 split at h
 ·rename_i hh
  cases h
  have hne : cs ≠ [] := by rintro rfl; exact absurd hh.1 (by decide)
  have hp := List.length_pos_iff.mpr hne
  have e : ∀ m, (List.replicate m (cs.drop (cs.length - 1))).flatten.length = m := fun m => by
   induction m with
   | zero => simp
   | succ m ih =>
    rw [List.replicate_succ, List.flatten_cons, List.length_append, ih, List.length_drop]
    lia
  rw [List.length_append, e]
  lia
 ·split at h
  ·rename_i hh
   cases h; lia
  ·cases h
theorem fqP (xs : List V) (i : Nat) : cutV xs (some (i : Int)) none = xs.drop i := by
 unfold cutV
 rw [HT.sIx_none, HT.sIx_nat]
 by_cases h : i ≤ xs.length
 ·rw [Nat.min_eq_left h, List.take_of_length_le (by rw [List.length_drop]; lia)]
 ·rw [Nat.min_eq_right (by lia), List.drop_of_length_le (Nat.le_refl _), List.drop_of_length_le (by lia)]
  simp
theorem nqt (i : Int) : ∃ c, atI smaL (i % 26) = some c ∧ isSma c = true := by
 have h1 := Int.emod_nonneg i (show (26 : Int) ≠ 0 by decide)
 have h2 := Int.emod_lt_of_pos i (show (0 : Int) < 26 by decide)
 have hl : smaL.length = 26 := by decide +kernel
 have h3 : (i % 26).toNat < smaL.length := by lia
 refine ⟨smaL[(i % 26).toNat], ?_, (lqy _ (jqG _ (List.getElem_mem h3))).mp (List.getElem_mem h3)⟩
 have := aqn (List.getElem?_eq_getElem h3)
 rw [Int.toNat_of_nonneg h1] at this
 exact this
def PcOk : Pc → Prop
 | .step s => 0 < s.length ∧ s.length ≤ 100 ∧ (∀ c ∈ s, isSg c = true) ∧ isDot s = false
 | .part h _ t => h.length ≤ 100 ∧ t.length ≤ 100 ∧ (∀ c ∈ h, isSg c = true) ∧ (∀ c ∈ t, isSg c = true) ∧ h ++ t ≠ []
 | _ => True
theorem lqA (s : Stp) : inV (sV s) [sV [], sV sStay, sV sUp] = (decide (s = []) || isDot s) := by
 have e : ∀ a : Stp, eqV (sV a) (sV s) = decide (s = a) := fun a => by
  show ((⟨a.toArray⟩ : Str) == ⟨s.toArray⟩) = decide (s = a)
  rw [Bool.eq_iff_iff, beq_iff_eq, decide_eq_true_eq, fqU]
  exact ⟨Eq.symm, Eq.symm⟩
 have h := jqb s
 unfold inV at h ⊢
 rw [List.any_cons, h, e]
theorem mqP (l : List Nat) (d : Nat) (h : d ≠ 46) : isDot (l ++ [d]) = false := by
 refine gqf.mpr ⟨fun z => ?_, fun z => ?_⟩
 ·have : (l ++ [d]).getLast? = sUp.getLast? := by rw [z]
  rw [List.getLast?_append] at this
  exact h (by simpa [sUp] using this)
 ·have : (l ++ [d]).getLast? = sStay.getLast? := by rw [z]
  rw [List.getLast?_append] at this
  exact h (by simpa [sStay] using this)
theorem layL {n : Nat} {ds : List PyData} (h : ∀ d ∈ ds, LayAt n d) : LayAt (n + 1) (.list ds) := by
 obtain ⟨h1, h2⟩ := layAll h
 exact ⟨by simp only [PyData.canLay0, h1], by simp only [PyData.depth]; lia⟩
def vlD : Vl → PyData
 | .txt l => st l
 | .int i => .int i
 | .lst ls => .list (ls.map st)
theorem jqR {H : Hp} : ∀ (ls : List (List Nat)), IsAll H (ls.map st) (ls.map tV)
 | [] => .nil
 | l :: ls => .cons (.str _) (jqR ls)
theorem VlV.is {H : Hp} : ∀ {x : Vl} {v : V}, VlV H x v → Is H (vlD x) v
 | .txt l, _, h => by cases h; exact .str _
 | .int i, _, h => by cases h; exact .int _
 | .lst ls, _, ⟨p, e, h⟩ => by cases e; exact .lst h (jqR ls)
theorem lqY {l : List Nat} (h : l.all isSma = true) : ∀ c ∈ l, isSg c = true := fun c hc => by
 have := List.all_eq_true.mp h c hc
 simp only [isSma, decide_eq_true_eq] at this
 simp only [isSg, Bool.and_eq_true, decide_eq_true_eq, Bool.not_eq_true', decide_eq_false_iff_not]
 lia
def PatOk (ps : List Pc) : Prop := (∀ c ∈ ps, PcOk c) ∧ ∀ i c, ps[i]? = some c → c.isRest = true → i + 1 = ps.length
def NmAt (X : Int) (a k : Nat) (n : List Nat) : Prop := ∃ d, n[a]? = some d ∧ atI smaL ((X + (k : Int)) % 26) = some d
theorem NmAt.app {X : Int} {a k : Nat} {n m : List Nat} (h : NmAt X a k n) : NmAt X a k (n ++ m) := by
 obtain ⟨d, h1, h2⟩ := h
 exact ⟨d, by rw [List.getElem?_append_left (List.getElem?_eq_some_iff.mp h1).1]; exact h1, h2⟩
theorem oqf : ∀ i, i < 26 → ∀ j, j < 26 → smaL[i]? = smaL[j]? → i = j := by decide +kernel
theorem mqq {X : Int} {a : Nat} {ns : List (List Nat)} (h : ∀ (k : Nat) (n : List Nat), ns[k]? = some n → NmAt X a k n) (hl : ns.length ≤ 26) : ns.Nodup := by
 rw [List.nodup_iff_pairwise_ne, List.pairwise_iff_getElem]
 intro i j hi hj hij e
 obtain ⟨d, h1, h2⟩ := h i _ (List.getElem?_eq_getElem hi)
 obtain ⟨d', h3, h4⟩ := h j _ (List.getElem?_eq_getElem hj)
 rw [e, h3] at h1
 cases h1
 have m1 := Int.emod_nonneg (X + (i : Int)) (show (26 : Int) ≠ 0 by decide)
 have m2 := Int.emod_lt_of_pos (X + (i : Int)) (show (0 : Int) < 26 by decide)
 have m3 := Int.emod_nonneg (X + (j : Int)) (show (26 : Int) ≠ 0 by decide)
 have m4 := Int.emod_lt_of_pos (X + (j : Int)) (show (0 : Int) < 26 by decide)
 have at_get : ∀ {z : Int}, 0 ≤ z → z < 26 → atI smaL z = smaL[z.toNat]? := fun {z} z0 z1 => by
  obtain ⟨n, rfl⟩ := Int.eq_ofNat_of_zero_le z0
  have hl : smaL.length = 26 := by decide +kernel
  have hn : n < smaL.length := by lia
  rw [aqn (List.getElem?_eq_getElem hn), ← List.getElem?_eq_getElem hn]
  rfl
 rw [at_get m1 m2] at h2
 rw [at_get m3 m4] at h4
 have := oqf _ (by lia) _ (by lia) (h2.trans h4.symm)
 lia
inductive PcT (H : Hp) : List Pc → List V → Prop
 | nil : PcT H [] []
 | cons {c : Pc} {p : Addr} {cs : List Pc} {xs : List V} : H p = some (.tup c.vals) → PcT H cs xs → PcT H (c :: cs) (.ref p :: xs)
theorem PcT.mono {H H' : Hp} (s : SameT H H') {cs : List Pc} {xs : List V} (hh : PcT H cs xs) : PcT H' cs xs := by
 induction hh with
 | nil => exact .nil
 | cons h r ih => exact .cons (s _ _ h) ih
theorem PcT.all {K : PySem.W.Frag} {H : Hp} {cs : List Pc} {xs : List V} (hh : PcT H cs xs) : PcAll K H cs xs := by
 induction hh with
 | nil => exact .nil
 | cons h r ih => exact .cons (.of h) ih
theorem PcT.length {H : Hp} {cs : List Pc} {xs : List V} (hh : PcT H cs xs) : xs.length = cs.length := by
 induction hh with
 | nil => exact rfl
 | cons _ r ih => simp [ih]
theorem PcT.append {H : Hp} {ds : List Pc} {ys : List V} (h2 : PcT H ds ys) {cs : List Pc} {xs : List V} (hh : PcT H cs xs) : PcT H (cs ++ ds) (xs ++ ys) := by
 induction hh with
 | nil => exact h2
 | cons h r ih => exact .cons h ih
theorem PcT.take {H : Hp} : ∀ {cs : List Pc} {xs : List V} (n : Nat), PcT H cs xs → PcT H (cs.take n) (xs.take n)
 | _, _, 0, _ => .nil
 | _, _, _ + 1, .nil => .nil
 | _, _, n + 1, .cons h r => .cons h (PcT.take n r)
theorem PcT.get {H : Hp} {cs : List Pc} {xs : List V} (hh : PcT H cs xs) {i : Nat} {v : V} (e : xs[i]? = some v) : ∃ c p, cs[i]? = some c ∧ v = .ref p ∧ H p = some (.tup c.vals) := by
 induction hh generalizing i with
 | nil => cases e
 | cons h _ ih =>
  cases i with
  | zero => cases e; exact ⟨_, _, rfl, rfl, h⟩
  | succ i => exact ih e
def pcD (c : Pc) : PyData := .tuple (.str c.kw :: match c with
 | .step s => [st s]
 | .part h n t => [st h, st n, st t]
 | .num n => [st n]
 | .word n => [st n]
 | .gap n => [st n]
 | .rest n => [st n])
theorem PcT.isT {H : Hp} : ∀ {cs : List Pc} {xs : List V}, PcT H cs xs → IsTAll H (cs.map pcD) xs
 | _, _, .nil => .nil
 | c :: _, _, .cons h r => by
  refine .cons ?_ (PcT.isT r)
  cases c with
  | step s => exact .tup h (.cons (.str _) (.cons (.str _) .nil))
  | part a b d => exact .tup h (.cons (.str _) (.cons (.str _) (.cons (.str _) (.cons (.str _) .nil))))
  | num n => exact .tup h (.cons (.str _) (.cons (.str _) .nil))
  | word n => exact .tup h (.cons (.str _) (.cons (.str _) .nil))
  | gap n => exact .tup h (.cons (.str _) (.cons (.str _) .nil))
  | rest n => exact .tup h (.cons (.str _) (.cons (.str _) .nil))
def PcSg (c : Pc) : Prop := (∀ l, c = .step l → ∀ x ∈ l, isSg x = true) ∧ (∀ h n t, c = .part h n t → (∀ x ∈ h, isSg x = true) ∧ ∀ x ∈ t, isSg x = true) ∧ ∀ x ∈ c.name, isSg x = true
theorem oqc {c : Pc} (h : PcSg c) : LayAt 1 (pcD c) := by
 have kwl : ∀ s : Str, s ∈ [Str.ofString "step", Str.ofString "part", Str.ofString "number", Str.ofString "word", Str.ofString "gap", Str.ofString "rest"] → LayAt 0 (PyData.str s) := fun s hs => by
  have all : ∀ s ∈ [Str.ofString "step", Str.ofString "part", Str.ofString "number", Str.ofString "word", Str.ofString "gap", Str.ofString "rest"], ∀ x ∈ s.cps.toList, isSg x = true := by decide +kernel
  exact LayAt.st (l := s.cps.toList) (all s hs)
 have one : ∀ (k : Str) (l : List Nat), k ∈ [Str.ofString "step", Str.ofString "part", Str.ofString "number", Str.ofString "word", Str.ofString "gap", Str.ofString "rest"] → (∀ x ∈ l, isSg x = true) → LayAt 1 (.tuple [.str k, st l]) := fun k l hk hl => LayAt.tup (n := 0) fun d hd => by
  simp only [List.mem_cons, List.not_mem_nil, or_false] at hd
  rcases hd with rfl | rfl
  ·exact kwl k hk
  ·exact LayAt.st hl
 cases c with
 | step s => exact one _ s (by simp [Pc.kw]) (h.1 s rfl)
 | part a b d =>
  obtain ⟨h1, h2⟩ := h.2.1 a b d rfl
  refine LayAt.tup (n := 0) fun x hx => ?_
  simp only [List.mem_cons, List.not_mem_nil, or_false] at hx
  rcases hx with rfl | rfl | rfl | rfl
  ·exact kwl _ (by simp [Pc.kw])
  ·exact LayAt.st h1
  ·exact LayAt.st h.2.2
  ·exact LayAt.st h2
 | num n => exact one _ n (by simp [Pc.kw]) h.2.2
 | word n => exact one _ n (by simp [Pc.kw]) h.2.2
 | gap n => exact one _ n (by simp [Pc.kw]) h.2.2
 | rest n => exact one _ n (by simp [Pc.kw]) h.2.2
theorem hqn {cs : List Pc} (h : ∀ c ∈ cs, PcSg c) : LayAt 2 (.list (cs.map pcD)) := layL fun d hd => by
 obtain ⟨c, hc, rfl⟩ := List.mem_map.mp hd
 exact oqc (h c hc)
end Wm
namespace L2
open PySem PySem.Spec PyProof.Rows
section
variable {p : Addr} {fv : St} {tt : TT} {te : TE} {Q : VK} {H H1 : Hp} {K : PySem.W.Frag}
theorem nqo {l b : Addr} : rExtend (.ref l) [.ref b] H Q ↔ ∃ xs zs, H l = some (.lst xs) ∧ H b = some (.lst zs) ∧ xs.length + zs.length ≤ sizeLine ∧ Q .non (upd H l (.lst (xs ++ zs))) := by
 constructor
 ·rintro ⟨l', b', xs, zs, h1, h2, h3⟩
  cases h1; cases h2
  exact ⟨xs, zs, h3⟩
 ·rintro ⟨xs, zs, h⟩
  exact ⟨l, b, xs, zs, rfl, rfl, h⟩
theorem lqg {tl : TE} {fr : List Nat} {σ : St} : (tComp2 K (iList K tl) fr tt te σ H Q) = (tl σ H fun x H1 => ∃ a, x = .ref a ∧ (∃ xs, SqL K H1 a xs) ∧ ∀ p, H1 p = none → CompI2 K (Itl K a) p (frV σ fr) tt te Q H1) := rfl
theorem jql {a : Addr} {xs : List V} (f : Nat → V × V) (t : Nat → Bool) (g : Nat → V) (hxs : SqL K H1 a xs) (hlen : xs.length ≤ sizeLine) (hp : H1 p = none)
  (hit : ∀ (i : Nat) (x : V) (H' : Hp), xs[i]? = some x → Same H1 H' → ∃ b, x = .ref b ∧ SqT K H' b [(f i).1, (f i).2])
  (ht : ∀ (i : Nat), i < xs.length → ∀ (H' : Hp) (R : Bool → Hp → Prop), Same H1 H' → (∀ H'', Same H' H'' → R (t i) H'') → tt (some (f i).1 :: some (f i).2 :: fv) H' R)
  (he : ∀ (i : Nat), i < xs.length → t i = true → ∀ (H' : Hp) (T : VK), Same H1 H' → (∀ H'', Same H' H'' → T (g i) H'') → te (some (f i).1 :: some (f i).2 :: fv) H' T)
  (hQ : ∀ H', Same H1 H' → H' p = some (.lst (((List.range xs.length).filter t).map g)) → Q (.ref p) H') : CompI2 K (Itl K a) p fv tt te Q H1 := by
 refine ⟨fun i m ys H2 => m = xs.length - i ∧ i ≤ xs.length ∧ ys = ((List.range i).filter t).map g ∧ H2 p = some (.lst ys) ∧ Same H1 H2, ⟨xs.length, by simp, Nat.zero_le _, by simp, aqk, fun b o e => by rw [aqj (aqh e hp)]; exact e⟩, ?_⟩
 rintro i m ys H2 ⟨rfl, hi, rfl, hp2, sm⟩
 refine ⟨hp2, ?_⟩
 have q := sm.seq hxs
 by_cases hlt : i < xs.length
 ·refine .inr ⟨⟨xs, xs[i], q, by simp [hlt]⟩, ?_, fun x H3 y => ?_⟩
  ·rw [List.length_map]
   have := List.length_filter_le t (List.range i)
   rw [List.length_range] at this
   lia
  ·obtain ⟨rfl, y⟩ := y
   have hc := y xs q
   obtain ⟨b, rfl, hb⟩ := hit i x H3 hc sm
   refine ⟨b, _, _, rfl, hb, ?_⟩
   refine ht i hlt _ _ sm fun H4 s4 => ?_
   by_cases hf : t i = true
   ·rw [if_pos hf]
    refine he i hlt hf _ _ (sm.trans s4) fun H5 s5 => ⟨(s4.trans s5) _ _ hp2, xs.length - (i + 1), by lia, rfl, hlt, ?_, aqk, fun b o e => ?_⟩
    ·rw [List.range_succ, List.filter_append, List.map_append]; simp [hf]
    ·rw [aqj (aqh e hp)]; exact (s4.trans s5) _ _ (sm _ _ e)
   ·rw [if_neg hf]
    refine ⟨xs.length - (i + 1), by lia, rfl, hlt, ?_, s4 _ _ hp2, sm.trans s4⟩
    rw [List.range_succ, List.filter_append, List.map_append]; simp [hf]
 ·have e : i = xs.length := by lia
  subst e
  exact .inl ⟨⟨xs, q, Nat.le_refl _⟩, hQ H2 sm hp2⟩
theorem eqZ {a : Addr} {xs : List V} (t : Nat → Bool) (g : Nat → V) (hxs : SqT K H1 a xs) (hlen : xs.length ≤ sizeLine) (hp : H1 p = none)
  (ht : ∀ (i : Nat) (x : V), xs[i]? = some x → ∀ (H' : Hp) (R : Bool → Hp → Prop), Same H1 H' → (∀ H'', Same H' H'' → R (t i) H'') → tt (some x :: fv) H' R)
  (he : ∀ (i : Nat) (x : V), xs[i]? = some x → t i = true → ∀ (H' : Hp) (T : VK), Same H1 H' → (∀ H'', Same H' H'' → T (g i) H'') → te (some x :: fv) H' T)
  (hQ : ∀ H', Same H1 H' → H' p = some (.lst (((List.range xs.length).filter t).map g)) → Q (.ref p) H') : CompI (Itt K a) p fv tt te Q H1 := by
 refine ⟨fun i m ys H2 => m = xs.length - i ∧ i ≤ xs.length ∧ ys = ((List.range i).filter t).map g ∧ H2 p = some (.lst ys) ∧ Same H1 H2, ⟨xs.length, by simp, Nat.zero_le _, by simp, aqk, fun b o e => by rw [aqj (aqh e hp)]; exact e⟩, ?_⟩
 rintro i m ys H2 ⟨rfl, hi, rfl, hp2, sm⟩
 refine ⟨hp2, ?_⟩
 have q := sm.tup hxs
 by_cases hlt : i < xs.length
 ·refine .inr ⟨⟨xs, xs[i], q, by simp [hlt]⟩, ?_, fun x H3 y => ?_⟩
  ·rw [List.length_map]
   have := List.length_filter_le t (List.range i)
   rw [List.length_range] at this
   lia
  ·obtain ⟨rfl, y⟩ := y
   have hc := y xs q
   refine ht i x hc _ _ sm fun H4 s4 => ?_
   by_cases hf : t i = true
   ·rw [if_pos hf]
    refine he i x hc hf _ _ (sm.trans s4) fun H5 s5 => ⟨(s4.trans s5) _ _ hp2, xs.length - (i + 1), by lia, rfl, hlt, ?_, aqk, fun b o e => ?_⟩
    ·rw [List.range_succ, List.filter_append, List.map_append]; simp [hf]
    ·rw [aqj (aqh e hp)]; exact (s4.trans s5) _ _ (sm _ _ e)
   ·rw [if_neg hf]
    refine ⟨xs.length - (i + 1), by lia, rfl, hlt, ?_, s4 _ _ hp2, sm.trans s4⟩
    rw [List.range_succ, List.filter_append, List.map_append]; simp [hf]
 ·have e : i = xs.length := by lia
  subst e
  exact .inl ⟨⟨xs, q, Nat.le_refl _⟩, hQ H2 sm hp2⟩
end
end L2
namespace Wm
open PySem L2
theorem dqG {α β : Type} (f : α → Bool) (g : α → β) (d : β) : ∀ (l : List α), ((List.range l.length).filter fun i => (l[i]?.map f).getD false).map (fun i => (l[i]?.map g).getD d) = (l.filter f).map g
 | [] => rfl
 | a :: l => by
  have ih := dqG f g d l
  have e2 : ((((List.range l.length).map Nat.succ).filter fun i => (((a :: l)[i]?).map f).getD false).map fun i => (((a :: l)[i]?).map g).getD d) = (l.filter f).map g := by
   rw [List.filter_map, List.map_map, ← ih]
   rfl
  rw [List.length_cons, List.range_succ_eq_map, List.filter_cons]
  by_cases hf : f a = true
  ·rw [if_pos (by simp [hf]), List.map_cons, e2, List.filter_cons, if_pos hf, List.map_cons]
   rfl
  ·rw [if_neg (by simp [hf]), e2, List.filter_cons, if_neg hf]
def canD : PyData → Bool
 | .str s => s.cps.toList.all isSg && decide (0 < s.length) && !isDot s.cps.toList
 | _ => false
def txD : PyData → List Nat
 | .str s => s.cps.toList
 | _ => []
def isValD (c : Pc) (d : PyData) : Bool := match c with
 | .rest _ => match d with
  | .list ds => decide (0 < ds.length) && ds.all canD
  | _ => false
 | .num _ => match d with
  | .int i => decide (0 ≤ i ∧ i < 10 ^ 60)
  | _ => false
 | .word _ => match d with
  | .str s => wordB s.cps.toList
  | _ => false
 | .step _ => false
 | .part h _ t => ftx d && !isDot (h ++ txD d ++ t)
 | .gap _ => ftx d && !isDot (txD d)
def stpsD (c : Pc) (d : PyData) : List (List Nat) := match c with
 | .rest _ => match d with
  | .list ds => ds.map txD
  | _ => []
 | .num _ => match d with
  | .int i => [dg i]
  | _ => []
 | .step s => [s]
 | c => [c.head ++ txD d ++ c.tail]
inductive VlsV (H : Hp) : List (List Nat × PyData) → List V → Prop
 | nil : VlsV H [] []
 | cons {n : List Nat} {d : PyData} {p : Addr} {v : V} {vs : List (List Nat × PyData)} {xs : List V} : H p = some (.tup [tV n, v]) → Is H d v → VlsV H vs xs → VlsV H ((n, d) :: vs) (.ref p :: xs)
theorem VlsV.mono {H H' : Hp} (s : Same H H') {vs : List (List Nat × PyData)} {xs : List V} (hh : VlsV H vs xs) : VlsV H' vs xs := by
 induction hh with
 | nil => exact .nil
 | cons h a r ih => exact .cons (s _ _ h) (a.mono s) ih
theorem VlsV.length {H : Hp} {vs : List (List Nat × PyData)} {xs : List V} (hh : VlsV H vs xs) : xs.length = vs.length := by
 induction hh with
 | nil => exact rfl
 | cons _ _ r ih => simp [ih]
theorem VlsV.get {H : Hp} {vs : List (List Nat × PyData)} {xs : List V} (hh : VlsV H vs xs) {i : Nat} {x : V} (e : xs[i]? = some x) : ∃ n d p v, vs[i]? = some (n, d) ∧ x = .ref p ∧ H p = some (.tup [tV n, v]) ∧ Is H d v := by
 induction hh generalizing i with
 | nil => cases e
 | cons h a _ ih =>
  cases i with
  | zero => cases e; exact ⟨_, _, _, _, rfl, rfl, h, a⟩
  | succ i => exact ih e
theorem VlsV.append {H : Hp} {ws : List (List Nat × PyData)} {ys : List V} (h2 : VlsV H ws ys) {vs : List (List Nat × PyData)} {xs : List V} (hh : VlsV H vs xs) : VlsV H (vs ++ ws) (xs ++ ys) := by
 induction hh with
 | nil => exact h2
 | cons h a r ih => exact .cons h a ih
theorem VlsV.take {H : Hp} : ∀ {vs : List (List Nat × PyData)} {xs : List V} (n : Nat), VlsV H vs xs → VlsV H (vs.take n) (xs.take n)
 | _, _, 0, _ => .nil
 | _, _, _ + 1, .nil => .nil
 | _, _, n + 1, .cons h a r => .cons h a (VlsV.take n r)
theorem VlsV.drop {H : Hp} : ∀ {vs : List (List Nat × PyData)} {xs : List V} (n : Nat), VlsV H vs xs → VlsV H (vs.drop n) (xs.drop n)
 | _, _, 0, h => h
 | _, _, _ + 1, .nil => .nil
 | _, _, n + 1, .cons _ _ r => VlsV.drop n r
def gapsM (cs : List Pc) : List (List Nat) := (cs.filter fun c => !c.isStep).map Pc.name
def named (vs : List (List Nat × PyData)) (n : List Nat) : List PyData := (vs.filter fun p => decide (p.1 = n)).map (·.2)
def fillS (c : Pc) (vs : List (List Nat × PyData)) : Except (List Nat) (List (List Nat)) := match c with
 | .step s => .ok [s]
 | c => match named vs c.name with
  | [d] => if isValD c d = true then .ok (stpsD c d) else .error c.name
  | _ => .error c.name
def fillF : List Pc → List (List Nat × PyData) → Except (List Nat) (List (List Nat))
 | [], _ => .ok []
 | c :: cs, vs => match fillS c vs with
  | .error n => .error n
  | .ok a => match fillF cs vs with
   | .error n => .error n
   | .ok b => .ok (a ++ b)
def otherM (cs : List Pc) (vs : List (List Nat × PyData)) : Option (List Nat) := (vs.find? fun p => !decide (p.1 ∈ gapsM cs)).map (·.1)
def fillM (cs : List Pc) (vs : List (List Nat × PyData)) : Except (List Nat) (List (List Nat)) := match fillF cs vs with
 | .error n => .error n
 | .ok ss => match otherM cs vs with
  | some n => .error n
  | none => .ok ss
theorem jqq {H : Hp} {vs : List (List Nat × PyData)} {xs : List V} (h : VlsV H vs xs) (n : List Nat) (g : Nat → V) (hg : ∀ i m d p v, vs[i]? = some (m, d) → xs[i]? = some (.ref p) → H p = some (.tup [tV m, v]) → g i = v) :
  IsAll H (named vs n) (((List.range xs.length).filter fun i => decide ((vs[i]?.map (·.1)) = some n)).map g) := by
 induction h generalizing g with
 | nil => exact .nil
 | cons hp ha r ih =>
  rename_i m d p v vs xs
  have e : List.range (V.ref p :: xs).length = 0 :: (List.range xs.length).map Nat.succ := by rw [List.length_cons, List.range_succ_eq_map]
  have ih' := ih (fun i => g (i + 1)) (fun i m d p v h1 h2 h3 => hg (i + 1) m d p v (by simpa using h1) (by simpa using h2) h3)
  have e2 : ((((List.range xs.length).map Nat.succ).filter fun i => decide ((((m, d) :: vs)[i]?.map (·.1)) = some n)).map g) = (((List.range xs.length).filter fun i => decide ((vs[i]?.map (·.1)) = some n)).map fun i => g (i + 1)) := by
   rw [List.filter_map, List.map_map]
   rfl
  rw [e, List.filter_cons]
  have g0 : g 0 = v := hg 0 m d p v rfl rfl hp
  by_cases hm : m = n
  ·have e3 : named ((m, d) :: vs) n = d :: named vs n := by unfold named; rw [List.filter_cons, if_pos (by simp [hm])]; rfl
   rw [e3, if_pos (by simp [hm]), List.map_cons, e2, g0]
   exact .cons ha ih'
  ·have e3 : named ((m, d) :: vs) n = named vs n := by unfold named; rw [List.filter_cons, if_neg (by simp [hm])]
   rw [e3, if_neg (by simp [hm]), e2]
   exact ih'
theorem iqi {H : Hp} : ∀ {ds : List PyData} {xs : List V}, IsAll H ds xs → ds.all canD = true → xs = (ds.map txD).map tV
 | _, _, .nil, _ => rfl
 | d :: ds, _, .cons h r, hc => by
  rw [List.all_cons, Bool.and_eq_true] at hc
  have := iqi r hc.2
  cases d with
  | str s => cases h; rw [this]; rfl
  | _ => cases hc.1
theorem lqU {c : Pc} {vs : List (List Nat × PyData)} {ss : List (List Nat)} (h : fillS c vs = .ok ss) (hs : ∀ p ∈ vs, smallD p.2 = true) : ss.length ≤ 100000 := by
 have gen : ∀ c : Pc, (match named vs c.name with | [d] => if isValD c d = true then (.ok (stpsD c d) : Except (List Nat) (List (List Nat))) else .error c.name | _ => .error c.name) = .ok ss → (∀ d, d ∈ named vs c.name → isValD c d = true → (stpsD c d).length ≤ 100000) → ss.length ≤ 100000 := fun c h hd => by
  cases hn : named vs c.name with
  | nil => rw [hn] at h; cases h
  | cons d r =>
   cases r with
   | nil =>
    rw [hn] at h hd
    by_cases hv : isValD c d = true
    ·have h : (if isValD c d = true then (.ok (stpsD c d) : Except (List Nat) (List (List Nat))) else .error c.name) = .ok ss := h
     rw [if_pos hv] at h
     cases h
     exact hd d (List.mem_singleton.mpr rfl) hv
    ·have h : (if isValD c d = true then (.ok (stpsD c d) : Except (List Nat) (List (List Nat))) else .error c.name) = .ok ss := h
     rw [if_neg hv] at h
     cases h
   | cons _ _ => rw [hn] at h; cases h
 have hsd : ∀ n d, d ∈ named vs n → smallD d = true := fun n d hd => by
  obtain ⟨p, hp, rfl⟩ := List.mem_map.mp hd
  exact hs p (List.mem_filter.mp hp).1
 cases c with
 | step s => cases h; exact (show 1 ≤ 100000 by decide)
 | part a b e => exact gen _ h fun d _ _ => (by show 1 ≤ 100000; decide)
 | word n => exact gen _ h fun d _ _ => (by show 1 ≤ 100000; decide)
 | gap n => exact gen _ h fun d _ _ => (by show 1 ≤ 100000; decide)
 | num n =>
  refine gen _ h fun d _ hv => ?_
  cases d with
  | int i => exact (by show 1 ≤ 100000; decide)
  | _ => exact Nat.zero_le _
 | rest n =>
  refine gen _ h fun d hd _ => ?_
  cases d with
  | list ds =>
   have := hsd _ _ hd
   simp only [smallD, Bool.and_eq_true, decide_eq_true_eq] at this
   show (ds.map txD).length ≤ 100000
   rw [List.length_map]
   exact this.1
  | _ => exact Nat.zero_le _
theorem gqU {vs : List (List Nat × PyData)} : ∀ {cs : List Pc} {i : Nat} {c : Pc} {a b : List (List Nat)}, cs[i]? = some c → fillF (cs.take i) vs = .ok a → fillS c vs = .ok b → fillF (cs.take (i + 1)) vs = .ok (a ++ b)
 | [], _, _, _, _, h, _, _ => by cases h
 | d :: cs, 0, c, a, b, h, h1, h2 => by
  cases h; cases h1
  show fillF [d] vs = _
  unfold fillF fillF
  rw [h2]
  simp
 | d :: cs, i + 1, c, a, b, h, h1, h2 => by
  have h : cs[i]? = some c := by simpa using h
  have h1 : fillF (d :: cs.take i) vs = .ok a := h1
  show fillF (d :: cs.take (i + 1)) vs = _
  unfold fillF at h1 ⊢
  cases hd : fillS d vs with
  | error n => rw [hd] at h1; cases h1
  | ok x =>
   rw [hd] at h1
   cases hf : fillF (cs.take i) vs with
   | error n => rw [hf] at h1; cases h1
   | ok y =>
    rw [hf] at h1
    cases h1
    have := gqU h hf h2
    rw [this]
    simp
theorem iqm {vs : List (List Nat × PyData)} {n : List Nat} : ∀ {cs : List Pc} {i : Nat} {c : Pc} {a : List (List Nat)}, cs[i]? = some c → fillF (cs.take i) vs = .ok a → fillS c vs = .error n → fillF cs vs = .error n
 | [], _, _, _, h, _, _ => by cases h
 | d :: cs, 0, c, a, h, h1, h2 => by
  cases h
  unfold fillF
  rw [h2]
 | d :: cs, i + 1, c, a, h, h1, h2 => by
  have h : cs[i]? = some c := by simpa using h
  have h1 : fillF (d :: cs.take i) vs = .ok a := h1
  unfold fillF at h1 ⊢
  cases hd : fillS d vs with
  | error n => rw [hd] at h1; cases h1
  | ok x =>
   rw [hd] at h1
   cases hf : fillF (cs.take i) vs with
   | error n => rw [hf] at h1; cases h1
   | ok y =>
    rw [hf] at h1
    cases h1
    have := iqm h hf h2
    rw [this]
def prAt (H : Hp) (ys : List V) (i : Nat) : V × V := match ys[i]? with
 | some (.ref p) => match H p with
  | some (.tup [a, b]) => (a, b)
  | _ => (.non, .non)
 | _ => (.non, .non)
theorem iq1 {H : Hp} {ys : List V} {i : Nat} {p : Addr} {a b : V} (h : ys[i]? = some (.ref p)) (hp : H p = some (.tup [a, b])) : prAt H ys i = (a, b) := by
 unfold prAt
 rw [h]
 dsimp only
 rw [hp]
theorem eqS {c : Pc} {vs : List (List Nat × PyData)} (h : c.isStep = false) : fillS c vs = (match named vs c.name with | [d] => if isValD c d = true then .ok (stpsD c d) else .error c.name | _ => .error c.name) := by
 cases c with
 | step s => cases h
 | _ => rfl
end Wm
namespace L2
open PySem
theorem lqz {X : Cx} {K : PySem.W.Frag} (h : X.K = K) : OpR X (compareOp .NotIn) (rIn K true) := by subst h; exact hq7
end L2
namespace Wm
open PySem L2
theorem hqW {cs : List Pc} {n : List Nat} {d : PyData} : ∀ {ws : List (List Nat × PyData)} {i : Nat}, ws[i]? = some (n, d) → (∀ w ∈ ws.take i, w.1 ∈ gapsM cs) → n ∉ gapsM cs → otherM cs ws = some n
 | [], _, h, _, _ => by cases h
 | w :: ws, 0, h, _, hn => by
  cases h
  unfold otherM
  rw [List.find?_cons_of_pos (by simp [hn])]
  rfl
 | w :: ws, i + 1, h, hp, hn => by
  have hw := hp w (by simp)
  have ih := hqW (ws := ws) (i := i) (by simpa using h) (fun x hx => hp x (by simp [hx])) hn
  unfold otherM at ih ⊢
  rw [List.find?_cons_of_neg (by simp [hw])]
  exact ih
theorem gqM {cs : List Pc} {ws : List (List Nat × PyData)} (h : ∀ w ∈ ws, w.1 ∈ gapsM cs) : otherM cs ws = none := by
 unfold otherM
 rw [List.find?_eq_none.mpr (fun w hw => by simp [h w hw])]
 rfl
theorem jqF (cs : List Pc) : (gapsM cs).length ≤ cs.length := by
 unfold gapsM
 rw [List.length_map]
 exact List.length_filter_le _ _
theorem oqJ : ∀ (k : Nat) (ds : List Nat), ds.length = k → ds ≠ [] → (∀ c ∈ ds, 48 ≤ c ∧ c ≤ 57) → (ds = [48] ∨ ds.head? ≠ some 48) → (Nat.toDigits 10 (valD ds)).map Char.toNat = ds := by
 intro k
 induction k with
 | zero => intro ds hl hn; exact absurd (List.length_eq_zero_iff.mp hl) hn
 | succ k ih =>
  intro ds hl hn hd h0
  have key : ∀ n, n < 10 → ([Nat.digitChar n].map Char.toNat) = [48 + n] := by decide +kernel
  obtain ⟨as, c, rfl⟩ : ∃ as c, ds = as ++ [c] := ⟨ds.dropLast, ds.getLast hn, (List.dropLast_concat_getLast hn).symm⟩
  have hc := hd c (List.mem_append_right _ (List.mem_singleton.mpr rfl))
  rw [dqD]
  cases has : as with
  | nil =>
   have ev : valD ([] : List Nat) = 0 := rfl
   rw [ev, Nat.zero_mul, Nat.zero_add, Nat.toDigits_of_lt_base (by lia), key _ (by lia)]
   show [48 + (c - 48)] = [c]
   congr 1; lia
  | cons a as' =>
   rw [← has]
   have hne : as ≠ [] := by rw [has]; simp
   have ha48 : a ≠ 48 := fun z => by
    rcases h0 with h0 | h0
    ·have := congrArg List.length h0
     rw [List.length_append, has] at this
     simp at this
    ·refine h0 ?_
     rw [has, z]; rfl
   have ha := hd a (by rw [has]; simp)
   have hp := mqn has (by lia)
   have hi := ih as (by rw [List.length_append, List.length_singleton] at hl; lia) hne (fun x hx => hd x (List.mem_append_left _ hx)) (.inr (by rw [has]; intro z; exact ha48 (Option.some.inj z)))
   rw [Nat.toDigits_of_base_le (by decide) (by lia), List.map_append]
   rw [show (valD as * 10 + (c - 48)) / 10 = valD as by lia, show (valD as * 10 + (c - 48)) % 10 = c - 48 by lia, hi, key _ (by lia)]
   congr 1
   show [48 + (c - 48)] = [c]
   congr 1; lia
theorem kqo : ∀ (k : Nat) (ds : List Nat), ds.length = k → (∀ c ∈ ds, 48 ≤ c ∧ c ≤ 57) → valD ds < 10 ^ k := by
 intro k
 induction k with
 | zero => intro ds hl _; rw [List.length_eq_zero_iff.mp hl]; decide
 | succ k ih =>
  intro ds hl hd
  have hn : ds ≠ [] := fun z => by rw [z] at hl; cases hl
  obtain ⟨as, c, rfl⟩ : ∃ as c, ds = as ++ [c] := ⟨ds.dropLast, ds.getLast hn, (List.dropLast_concat_getLast hn).symm⟩
  have hc := hd c (List.mem_append_right _ (List.mem_singleton.mpr rfl))
  have := ih as (by rw [List.length_append, List.length_singleton] at hl; lia) (fun x hx => hd x (List.mem_append_left _ hx))
  rw [dqD, Nat.pow_succ]
  lia
theorem iqy {l : List Nat} (h : l.all isFig = true) (h0 : 1 ≤ l.length) (h1 : l.length ≤ 60) : intOf l = (valD l : Int) := by
 have e := intText_digits (x := ⟨l.toArray⟩) (fun c hc => by
  have := List.all_eq_true.mp h c (by simpa using hc)
  simpa [isFig] using this) (by intro z; simp at z; rw [z] at h0; simp at h0) (by show l.length ≤ 4300; lia)
 unfold intOf
 rw [e]
 rfl
theorem oqw {l : List Nat} (h : l.all isFig = true) : ∀ c ∈ l, 48 ≤ c ∧ c ≤ 57 := fun c hc => by
 have := List.all_eq_true.mp h c hc
 simpa [isFig] using this
theorem mqT {s : List Nat} (h : numB s = true) : dg (intOf s) = s ∧ 0 ≤ intOf s ∧ intOf s < 10 ^ 60 := by
 unfold numB at h
 simp only [Bool.and_eq_true, decide_eq_true_eq, Bool.or_eq_true, Bool.not_eq_true', decide_eq_false_iff_not] at h
 obtain ⟨⟨⟨h1, h2⟩, h3⟩, h4⟩ := h
 have hf := oqw h3
 rw [iqy h3 h1 h2]
 have hn : s ≠ [] := List.length_pos_iff.mp h1
 refine ⟨?_, by lia, ?_⟩
 ·unfold dg
  rw [PySem.W.KIN.signs_num]
  exact oqJ _ s rfl hn hf h4
 ·have := kqo _ s rfl hf
  have h10 : 10 ^ s.length ≤ 10 ^ 60 := Nat.pow_le_pow_right (by decide) h2
  have : valD s < 10 ^ 60 := Nat.lt_of_lt_of_le this h10
  exact_mod_cast this
theorem lqb {h t s : List Nat} (hp : partB h t s = true) : h ++ amid h t s ++ t = s ∧ amid h t s ≠ [] := by
 unfold partB at hp
 simp only [Bool.and_eq_true, decide_eq_true_eq] at hp
 obtain ⟨h1, h2, h3⟩ := hp
 unfold amid
 constructor
 ·have e1 : h ++ s.drop h.length = s := by
   conv => rhs; rw [← List.take_append_drop h.length s]
   rw [h1]
  have e2 : (s.drop h.length).drop (s.length - t.length - h.length) = t := by
   rw [List.drop_drop, show h.length + (s.length - t.length - h.length) = s.length - t.length by lia]
   exact h2
  rw [List.append_assoc]
  have e3 : (s.drop h.length).take (s.length - t.length - h.length) ++ t = s.drop h.length := by
   conv => rhs; rw [← List.take_append_drop (s.length - t.length - h.length) (s.drop h.length)]
   rw [e2]
  rw [e3, e1]
 ·intro z
  have := congrArg List.length z
  rw [List.length_take, List.length_drop] at this
  simp at this
  lia
def SgT (s : List Nat) : Prop := s ≠ [] ∧ ∀ c ∈ s, isSg c = true
theorem lqB {s : List Nat} (h : SgT s) : ftx (st s) = true := by
 simp only [ftx, lqH, Bool.and_eq_true, decide_eq_true_eq]
 exact ⟨List.all_eq_true.mpr h.2, List.length_pos_iff.mpr h.1⟩
theorem mqd {c : Pc} {s : List Nat} {r : List (List Nat)} (hs : c.isStep = false) (hr : c.isRest = false) (hf : fitsM c s = true) (hg : SgT s) : isValD c (vlD (bvM c (s :: r))) = true ∧ stpsD c (vlD (bvM c (s :: r))) = [s] := by
 unfold fitsM at hf
 rw [Bool.and_eq_true, Bool.not_eq_true'] at hf
 obtain ⟨hd, hf⟩ := hf
 cases c with
 | step w => cases hs
 | rest n => cases hr
 | part h n t =>
  obtain ⟨e, ne⟩ := lqb hf
  have ea : vlD (bvM (.part h n t) (s :: r)) = st (amid h t s) := rfl
  rw [ea]
  refine ⟨?_, ?_⟩
  ·show (ftx (st (amid h t s)) && !isDot (h ++ amid h t s ++ t)) = true
   rw [e, hd, lqB ⟨ne, fun c hc => hg.2 c (by rw [← e]; simp [hc])⟩]
   rfl
  ·show [h ++ amid h t s ++ t] = [s]
   rw [e]
 | num n =>
  obtain ⟨h1, h2, h3⟩ := mqT hf
  have ea : vlD (bvM (.num n) (s :: r)) = .int (intOf s) := rfl
  rw [ea]
  exact ⟨decide_eq_true ⟨h2, h3⟩, by show [dg (intOf s)] = [s]; rw [h1]⟩
 | word n =>
  have ea : vlD (bvM (.word n) (s :: r)) = st s := by show st (amid [] [] s) = st s; rw [fqI]
  rw [ea]
  exact ⟨hf, by show [[] ++ s ++ []] = [s]; simp⟩
 | gap n =>
  have ea : vlD (bvM (.gap n) (s :: r)) = st s := by show st (amid [] [] s) = st s; rw [fqI]
  rw [ea]
  refine ⟨?_, by show [[] ++ s ++ []] = [s]; simp⟩
  show (ftx (st s) && !isDot s) = true
  rw [lqB hg, hd]; rfl
theorem nqW {s : List Nat} (h : SgT s) (hd : isDot s = false) : canD (st s) = true := by
 show (s.all isSg && decide (0 < (⟨s.toArray⟩ : Str).length) && !isDot s) = true
 rw [List.all_eq_true.mpr h.2, decide_eq_true (show 0 < (⟨s.toArray⟩ : Str).length by rw [bqG]; exact List.length_pos_iff.mpr h.1), hd]
 rfl
theorem kqO {n : List Nat} {ss : List (List Nat)} (hn : ss ≠ []) (h : ∀ s ∈ ss, SgT s ∧ isDot s = false) : isValD (.rest n) (vlD (bvM (.rest n) ss)) = true ∧ stpsD (.rest n) (vlD (bvM (.rest n) ss)) = ss := by
 have ea : vlD (bvM (.rest n) ss) = .list (ss.map st) := rfl
 rw [ea]
 refine ⟨?_, ?_⟩
 ·show (decide (0 < (ss.map st).length) && (ss.map st).all canD) = true
  rw [decide_eq_true (by rw [List.length_map]; exact List.length_pos_iff.mpr hn), Bool.true_and]
  refine List.all_eq_true.mpr fun d hd => ?_
  obtain ⟨s, hs, rfl⟩ := List.mem_map.mp hd
  exact nqW (h s hs).1 (h s hs).2
 ·show (ss.map st).map txD = ss
  rw [List.map_map]
  conv => rhs; rw [← List.map_id ss]
  rfl
theorem kqt {ws : List (List Nat × PyData)} {n : List Nat} (h : n ∉ ws.map (·.1)) : named ws n = [] := by
 unfold named
 rw [List.filter_eq_nil_iff.mpr fun p hp => by
  simp only [decide_eq_true_eq]
  exact fun z => h (by rw [← z]; exact List.mem_map_of_mem hp)]
 rfl
theorem hq9 : ∀ {ws : List (List Nat × PyData)} {n : List Nat} {d : PyData}, (ws.map (·.1)).Nodup → (n, d) ∈ ws → named ws n = [d]
 | [], _, _, _, h => by cases h
 | w :: ws, n, d, hn, h => by
  rw [List.map_cons, List.nodup_cons] at hn
  rcases List.mem_cons.mp h with rfl | h
  ·have : named ((n, d) :: ws) n = d :: named ws n := by unfold named; rw [List.filter_cons, if_pos (by simp)]; rfl
   rw [this, kqt hn.1]
  ·have hne : w.1 ≠ n := fun z => hn.1 (by rw [z]; exact List.mem_map_of_mem (f := (·.1)) h)
   have : named (w :: ws) n = named ws n := by unfold named; rw [List.filter_cons, if_neg (by simp [hne])]
   rw [this]
   exact hq9 hn.2 h
theorem gq2 {ns : List (List Nat)} (hn : ns.Nodup) : ∀ {cs : List Pc} (k : Nat), (∀ (i : Nat) (c : Pc), cs[i]? = some c → c.isStep = false → ns[k + i]? = some c.name) → (gapsM cs).Nodup ∧ ∀ n ∈ gapsM cs, ∃ j, k ≤ j ∧ ns[j]? = some n
 | [], _, _ => ⟨List.nodup_nil, fun n h => by cases h⟩
 | c :: cs, k, h => by
  obtain ⟨i1, i2⟩ := gq2 hn (cs := cs) (k + 1) fun i d hd hs => by
   have := h (i + 1) d (by simpa using hd) hs
   rw [← this]; congr 1; lia
  have e : gapsM (c :: cs) = (if c.isStep then [] else [c.name]) ++ gapsM cs := by
   unfold gapsM
   rw [List.filter_cons]
   cases c.isStep <;> rfl
  rw [e]
  cases hs : c.isStep with
  | true => exact ⟨i1, fun n hn' => by obtain ⟨j, h1, h2⟩ := i2 n hn'; exact ⟨j, by lia, h2⟩⟩
  | false =>
   have h0 : ns[k]? = some c.name := h 0 c rfl hs
   refine ⟨?_, fun n hn' => ?_⟩
   ·show (c.name :: gapsM cs).Nodup
    rw [List.nodup_cons]
    refine ⟨fun z => ?_, i1⟩
    obtain ⟨j, h1, h2⟩ := i2 _ z
    obtain ⟨a1, a2⟩ := List.getElem?_eq_some_iff.mp h0
    obtain ⟨b1, b2⟩ := List.getElem?_eq_some_iff.mp h2
    rw [List.nodup_iff_pairwise_ne, List.pairwise_iff_getElem] at hn
    exact hn k j a1 b1 (by lia) (a2.trans b2.symm)
   ·rcases List.mem_cons.mp (show n ∈ c.name :: gapsM cs from hn') with rfl | z
    ·exact ⟨k, Nat.le_refl _, h0⟩
    ·obtain ⟨j, h1, h2⟩ := i2 n z; exact ⟨j, by lia, h2⟩
theorem hqb {ws : List (List Nat × PyData)} : ∀ {cs : List Pc} {ss : List (List Nat)}, (∀ (i : Nat) (c : Pc), cs[i]? = some c → ∃ s, ss[i]? = some s ∧ fitsM c s = true) → (∀ (i : Nat) (c : Pc), cs[i]? = some c → c.isRest = true → i + 1 = cs.length) → ((∀ c ∈ cs, c.isRest = false) → ss.length = cs.length) → (∀ s ∈ ss, SgT s ∧ isDot s = false) → (∀ n x, (n, x) ∈ boundM cs ss → named ws n = [vlD x]) → fillF cs ws = .ok ss
 | [], ss, _, _, hl, _, _ => by
  have := hl (fun c hc => by cases hc)
  rw [List.length_nil] at this
  rw [List.length_eq_zero_iff.mp this]
  rfl
 | c :: cs, ss, hf, hr, hl, hg, hb => by
  obtain ⟨s, h0, hfs⟩ := hf 0 c rfl
  cases ss with
  | nil => cases h0
  | cons s' ss =>
   cases h0
   have hbe : boundM (c :: cs) (s :: ss) = (if c.isStep then [] else [(c.name, bvM c (s :: ss))]) ++ boundM cs ss := rfl
   by_cases hcr : c.isRest = true
   ·have hn : cs = [] := List.length_eq_zero_iff.mp (by have := hr 0 c rfl hcr; simp only [List.length_cons] at this; lia)
    subst hn
    cases c with
    | rest n =>
     have hb1 := hb n (bvM (.rest n) (s :: ss)) (by rw [hbe]; exact List.mem_append_left _ (List.mem_singleton.mpr rfl))
     obtain ⟨r1, r2⟩ := kqO (n := n) (ss := s :: ss) (by simp) hg
     have e : fillS (.rest n) ws = .ok (s :: ss) := by
      show (match named ws n with | [d] => if isValD (.rest n) d = true then (.ok (stpsD (.rest n) d) : Except (List Nat) (List (List Nat))) else .error n | _ => .error n) = _
      rw [hb1]
      show (if isValD (.rest n) _ = true then _ else _) = _
      rw [if_pos r1, r2]
     unfold fillF fillF
     rw [e]
     simp
    | _ => cases hcr
   ·have ih := hqb (ws := ws) (cs := cs) (ss := ss) (fun i d hd => by
     obtain ⟨z, h1, h2⟩ := hf (i + 1) d (by simpa using hd)
     exact ⟨z, by simpa using h1, h2⟩) (fun i d hd hdr => by
     have := hr (i + 1) d (by simpa using hd) hdr
     simp only [List.length_cons] at this; lia) (fun h => by
     have := hl (fun d hd => by
      rcases List.mem_cons.mp hd with rfl | hd
      ·simpa using hcr
      ·exact h d hd)
     simp only [List.length_cons] at this; lia) (fun z hz => hg z (List.mem_cons_of_mem _ hz)) (fun n x hx => hb n x (by rw [hbe]; exact List.mem_append_right _ hx))
    have e : fillS c ws = .ok [s] := by
     cases hst : c.isStep with
     | true =>
      cases c with
      | step w =>
       unfold fitsM at hfs
       rw [Bool.and_eq_true] at hfs
       have : s = w := of_decide_eq_true hfs.2
       rw [this]
       rfl
      | _ => cases hst
     | false =>
      rw [eqS hst]
      have hb1 := hb c.name (bvM c (s :: ss)) (by rw [hbe, hst]; exact List.mem_append_left _ (List.mem_singleton.mpr rfl))
      rw [hb1]
      obtain ⟨r1, r2⟩ := mqd (r := ss) hst (by simpa using hcr) hfs (hg s (List.mem_cons_self ..)).1
      show (if isValD c _ = true then _ else _) = _
      rw [if_pos r1, r2]
    unfold fillF
    rw [e, ih]
    rfl
theorem kqS {cs : List Pc} {cl r e : Bool} {ss : List (List Nat)} (h : fitsP cs cl r ss e = true) : r = true ∧ e = cl ∧ ((∀ c ∈ cs, c.isRest = false) → ss.length = cs.length) ∧ cs.length ≤ ss.length ∧ ∀ s ∈ ss, isDot s = false := by
 unfold fitsP at h
 cases hs : spreadM cs ss.length with
 | none => rw [hs] at h; cases h
 | some ds =>
  rw [hs] at h
  have h : (r && decide (e = cl) && (List.zipWith fitsM ds ss).all id) = true := h
  rw [Bool.and_eq_true, Bool.and_eq_true, decide_eq_true_eq] at h
  have hdl := kqz hs
  refine ⟨h.1.1, h.1.2, fun hn => ?_, (gq5 hs).1, fun s hsm => ?_⟩
  ·unfold spreadM at hs
   by_cases hr : hasRest cs = true ∧ cs.length ≤ ss.length
   ·exfalso
    have hh := hr.1
    unfold hasRest at hh
    cases hg : cs.getLast? with
    | none => rw [hg] at hh; cases hh
    | some c =>
     rw [hg] at hh
     have hc := hn c (List.mem_of_getLast? hg)
     have hh : c.isRest = true := hh
     rw [hc] at hh
     cases hh
   ·rw [if_neg hr] at hs
    by_cases hl : ss.length = cs.length
    ·exact hl
    ·rw [if_neg hl] at hs; cases hs
  ·obtain ⟨i, hi⟩ := List.mem_iff_getElem?.mp hsm
   have hil := (List.getElem?_eq_some_iff.mp hi).1
   have hd : ds[i]? = some ds[i] := List.getElem?_eq_getElem (by lia)
   have hz : fitsM ds[i] s ∈ List.zipWith fitsM ds ss := by
    rw [List.mem_iff_getElem?]
    exact ⟨i, by rw [List.getElem?_zipWith, hd, hi]⟩
   have := List.all_eq_true.mp h.2 _ hz
   have this : fitsM ds[i] s = true := this
   unfold fitsM at this
   rw [Bool.and_eq_true, Bool.not_eq_true'] at this
   exact this.1
theorem kqT {cs : List Pc} {cl r e : Bool} {ss : List (List Nat)} {ws : List (List Nat × PyData)} (h : fitsP cs cl r ss e = true) (hr : ∀ (i : Nat) (c : Pc), cs[i]? = some c → c.isRest = true → i + 1 = cs.length) (hg : ∀ s ∈ ss, SgT s)
  (hn : (ws.map (·.1)).Nodup) (hw : ∀ n x, (n, x) ∈ boundM cs ss → (n, vlD x) ∈ ws) (hs : ∀ w ∈ ws, w.1 ∈ gapsM cs) : fillM cs ws = .ok ss := by
 obtain ⟨h1, h2, h3, h4, h5⟩ := kqS h
 unfold fillM
 rw [hqb (fun i c hc => mqo h hc) hr h3 (fun s hs' => ⟨hg s hs', h5 s hs'⟩) (fun n x hx => hq9 hn (hw n x hx)), gqM hs]
theorem pq7 {c : Nat} (h : 48 ≤ c ∧ c ≤ 57) : isSg c = true := by
 simp only [isSg, Bool.and_eq_true, decide_eq_true_eq, Bool.not_eq_true', decide_eq_false_iff_not]
 lia
theorem oq4 {k : Nat} : ∀ {n : Nat}, 0 < k → n < 10 ^ k → (Nat.toDigits 10 n).length ≤ k := by
 induction k with
 | zero => intro n h; cases h
 | succ k ih =>
  intro n _ h
  by_cases hn : n < 10
  ·rw [Nat.toDigits_of_lt_base hn]; simp
  ·rw [Nat.toDigits_of_base_le (by decide) (by lia), List.length_append, List.length_singleton]
   cases k with
   | zero => lia
   | succ k =>
    have := ih (n := n / 10) (by lia) (by rw [Nat.pow_succ] at h; lia)
    lia
theorem lqF {n : Nat} (h : n < 10 ^ 60) : (Nat.toDigits 10 n).length ≤ 60 := oq4 (by decide) h
theorem jqV (d : Nat) : ∀ (n : Nat) (a : Array Nat), ((List.replicate n #[d]).foldl (· ++ ·) a).toList = a.toList ++ List.replicate n d
 | 0, a => by simp
 | n + 1, a => by
  rw [List.replicate_succ, List.foldl_cons, jqV d n, List.replicate_succ]
  simp
theorem mq0 (d m : Nat) : Txt.mul (⟨#[d]⟩ : Str) (m : Int) = ⟨(List.replicate m d).toArray⟩ := by
 unfold Txt.mul
 by_cases h : (m : Int) < 1
 ·rw [if_pos h]
  have : m = 0 := by lia
  subst this
  rfl
 ·rw [if_neg h]
  by_cases h1 : m = 1
  ·subst h1
   rw [if_pos (by rfl)]
   rfl
  ·rw [if_neg (by
    have e : (⟨#[d]⟩ : Str).length = 1 := rfl
    rw [e, Bool.or_eq_true]
    rintro (z | z)
    ·exact h1 (by have := eq_of_beq z; lia)
    ·cases z)]
   have e := jqV d m #[]
   rw [Int.toNat_natCast]
   congr 1
   rw [← Array.toList_inj, e]
   simp
theorem lqa (d m : Nat) (h : m ≤ 60) : MulOk (⟨#[d]⟩ : Str) (m : Int) := by
 refine ⟨?_, fun h1 _ => ?_, fun _ _ => notTooLong ?_⟩
 ·rw [decide_eq_false (by lia), decide_eq_false (by lia)]; rfl
 ·show ¬ (1 : Int) > _
  have : (1 : Int) ≤ (2 ^ 63 - 1) / (m : Int) := by
   rw [Int.le_ediv_iff_mul_le (by lia)]
   lia
  lia
 ·show 1 * _ ≤ _
  have : ((m : Int)).toNat = m := by lia
  rw [this]
  exact Nat.le_trans (show 1 * m ≤ 100 by lia) (by decide)
def VlOk : Vl → Prop
 | .txt l => (∀ c ∈ l, isSg c = true) ∧ l.length ≤ 20000
 | .int _ => True
 | .lst ls => (∀ l ∈ ls, (∀ c ∈ l, isSg c = true) ∧ l.length ≤ 20000) ∧ ls.length ≤ 20000
theorem VlOk.small {x : Vl} (h : VlOk x) : smallD (vlD x) = true := by
 cases x with
 | txt l => simp only [vlD, smallD, lqH, decide_eq_true_eq]; have := h.2; lia
 | int i => rfl
 | lst ls => exact iqG (by rw [List.length_map]; have := h.2; lia) (fqW fun d hd => by
   obtain ⟨l, hl, rfl⟩ := List.mem_map.mp hd
   simp only [smallD, lqH, decide_eq_true_eq]; have := (h.1 l hl).2; lia)
theorem BndV.vls {H : Hp} {l : Addr} {bs : List (List Nat × Vl)} {ys : List V} (hh : BndV H l bs ys) : VlsV H (bs.map fun p => (p.1, vlD p.2)) ys := by
 induction hh with
 | nil => exact .nil
 | cons a b _ r ih => exact .cons a b.is ih
theorem pqx {α : Type} (xs : List α) (a b : Nat) : (cutA xs (some (a : Int)) (some (b : Int))).length ≤ b - a := by
 unfold cutA
 rw [HT.sIx_nat, HT.sIx_nat, List.length_take, List.length_drop]
 lia
theorem fqR (xs : List V) (i : Nat) : cutV xs none (some (i : Int)) = xs.take i := by
 unfold cutV
 rw [HT.sIx_none, HT.sIx_nat, List.drop_zero, Nat.sub_zero]
 by_cases h : i ≤ xs.length
 ·rw [Nat.min_eq_left h]
 ·rw [Nat.min_eq_right (by lia), List.take_length, List.take_of_length_le (by lia)]
def trS : List Nat := [97, 98, 48, 49]
def trialsM (h t : List Nat) : List (List Nat) := trS.map fun c => h ++ [c] ++ t
def fitT (c : Pc) : List (List Nat) := (match c with | .step w => [w] | c => trialsM c.head c.tail).filter (fitsM c)
def stepBey (c d : Pc) : Option (List Nat) := (fitT c).find? fun s => !fitsM d s
theorem mqy {c : Pc} {s : List Nat} (h : fitsM c s = true) : isDot s = false := by
 unfold fitsM at h
 rw [Bool.and_eq_true] at h
 simpa using h.1
theorem lqt {c : Pc} {s : List Nat} (h : c.isRest = true) (hs : isDot s = false) : fitsM c s = true := by
 cases c <;> first | cases h | skip
 show (!isDot s && true) = true
 rw [hs]; rfl
theorem jq7 {ds ts : List Pc} {n : Nat} (h : spreadM ds n = some ts) : ts.length = n ∧ ∀ i, i < n → (i < ds.length ∧ ts[i]? = ds[i]?) ∨ (ds.length ≤ i ∧ hasRest ds = true ∧ ∃ c, ts[i]? = some c ∧ c.isRest = true ∧ c ∈ ds) := by
 unfold spreadM at h
 by_cases hr : hasRest ds = true ∧ ds.length ≤ n
 ·rw [if_pos hr] at h
  cases h
  have hne : ds ≠ [] := fun e => by subst e; exact absurd hr.1 (by decide)
  obtain ⟨c, hc⟩ : ∃ c, ds.getLast? = some c := ⟨_, List.getLast?_eq_some_getLast hne⟩
  have hcr : c.isRest = true := by
   have := hr.1
   unfold hasRest at this
   rw [hc] at this
   exact this
  have hd : ds.drop (ds.length - 1) = [c] := by
   rw [List.getLast?_eq_getElem?] at hc
   have hl := List.length_pos_iff.mpr hne
   obtain ⟨h1, h2⟩ := List.getElem?_eq_some_iff.mp hc
   rw [List.drop_eq_getElem_cons h1, h2, List.drop_eq_nil_of_le (by lia)]
  rw [hd]
  have hfl : ∀ k : Nat, (List.replicate k [c]).flatten = List.replicate k c := fun k => by
   induction k with
   | zero => rfl
   | succ k ih => rw [List.replicate_succ, List.flatten_cons, ih]; rfl
  rw [hfl]
  refine ⟨by rw [List.length_append, List.length_replicate]; lia, fun i hi => ?_⟩
  by_cases hil : i < ds.length
  ·exact .inl ⟨hil, List.getElem?_append_left hil⟩
  ·refine .inr ⟨by lia, hr.1, c, ?_, hcr, List.mem_of_getLast? hc⟩
   rw [List.getElem?_append_right (by lia), List.getElem?_replicate, if_pos (by lia)]
 ·rw [if_neg hr] at h
  by_cases e : n = ds.length
  ·rw [if_pos e] at h
   cases h
   exact ⟨e.symm, fun i hi => .inl ⟨by lia, rfl⟩⟩
  ·rw [if_neg e] at h
   cases h
theorem iq7 {ds : List Pc} {n : Nat} (h : (hasRest ds = true ∧ ds.length ≤ n) ∨ n = ds.length) : ∃ ts, spreadM ds n = some ts := by
 unfold spreadM
 by_cases hr : hasRest ds = true ∧ ds.length ≤ n
 ·rw [if_pos hr]; exact ⟨_, rfl⟩
 ·rw [if_neg hr]
  rcases h with h | h
  ·exact absurd h hr
  ·rw [if_pos h]; exact ⟨_, rfl⟩
theorem jqA : ∀ {ms : List Pc} {ss : List (List Nat)}, (List.zipWith fitsM ms ss).all id = true ↔ ∀ (i : Nat) (c : Pc) (s : List Nat), ms[i]? = some c → ss[i]? = some s → fitsM c s = true
 | [], ss => ⟨fun _ i c s h => by simp at h, fun _ => rfl⟩
 | c :: ms, [] => ⟨fun _ i c s _ h => by simp at h, fun _ => rfl⟩
 | c :: ms, s :: ss => by
  rw [List.zipWith_cons_cons, List.all_cons, Bool.and_eq_true, jqA]
  constructor
  ·rintro ⟨h1, h2⟩ i c' s' hc hs
   cases i with
   | zero => cases hc; cases hs; exact h1
   | succ i => exact h2 i c' s' hc hs
  ·intro h
   exact ⟨h 0 c s rfl rfl, fun i c' s' hc hs => h (i + 1) c' s' hc hs⟩
theorem lqC {cs : List Pc} {cl r e : Bool} {ss : List (List Nat)} : fitsP cs cl r ss e = true ↔ ∃ ms, spreadM cs ss.length = some ms ∧ r = true ∧ e = cl ∧ ∀ (i : Nat) (c : Pc) (s : List Nat), ms[i]? = some c → ss[i]? = some s → fitsM c s = true := by
 unfold fitsP
 cases h : spreadM cs ss.length with
 | none => exact ⟨fun h => (by cases h), fun ⟨_, h, _⟩ => (by cases h)⟩
 | some ms =>
  show (r && decide (e = cl) && _) = true ↔ _
  rw [Bool.and_eq_true, Bool.and_eq_true, decide_eq_true_eq, jqA]
  exact ⟨fun ⟨⟨a, b⟩, c⟩ => ⟨ms, rfl, a, b, c⟩, fun ⟨ms', e', a, b, c⟩ => by cases e'; exact ⟨⟨a, b⟩, c⟩⟩
end Wm
namespace L2
open PySem
section
variable {p : Addr} {fv : St} {tt : TT} {te : TE} {Q : VK} {H1 : Hp}
theorem fq2 {n : Nat} (f : Nat → Bool) (g : Nat → V) (hlen : n ≤ sizeLine) (hp : H1 p = none)
  (ht : ∀ i, i < n → ∀ (H' : Hp) (R : Bool → Hp → Prop), Same H1 H' → (∀ H'', Same H' H'' → R (f i) H'') → tt (some (.int (0 + (i : Int))) :: fv) H' R)
  (he : ∀ i, i < n → f i = true → ∀ (H' : Hp) (T : VK), Same H1 H' → (∀ H'', Same H' H'' → T (g i) H'') → te (some (.int (0 + (i : Int))) :: fv) H' T)
  (hQ : ∀ H', Same H1 H' → H' p = some (.lst (((List.range n).filter f).map g)) → Q (.ref p) H') : CompI (Itr 0 n) p fv tt te Q H1 := by
 refine ⟨fun i m ys H2 => m = n - i ∧ i ≤ n ∧ ys = ((List.range i).filter f).map g ∧ H2 p = some (.lst ys) ∧ Same H1 H2, ⟨n, by simp, Nat.zero_le _, by simp, aqk, fun b o e => by rw [aqj (aqh e hp)]; exact e⟩, ?_⟩
 rintro i m ys H2 ⟨rfl, hi, rfl, hp2, sm⟩
 refine ⟨hp2, ?_⟩
 by_cases hlt : i < n
 ·refine .inr ⟨hlt, ?_, fun x H3 y => ?_⟩
  ·rw [List.length_map]
   have := List.length_filter_le f (List.range i)
   rw [List.length_range] at this
   lia
  ·obtain ⟨rfl, rfl⟩ := y
   refine ht i hlt _ _ sm fun H4 s4 => ?_
   by_cases hf : f i = true
   ·rw [if_pos hf]
    refine he i hlt hf _ _ (sm.trans s4) fun H5 s5 => ⟨(s4.trans s5) _ _ hp2, n - (i + 1), by lia, rfl, hlt, ?_, aqk, fun b o e => ?_⟩
    ·rw [List.range_succ, List.filter_append, List.map_append]; simp [hf]
    ·rw [aqj (aqh e hp)]; exact (s4.trans s5) _ _ (sm _ _ e)
   ·rw [if_neg hf]
    refine ⟨n - (i + 1), by lia, rfl, hlt, ?_, s4 _ _ hp2, sm.trans s4⟩
    rw [List.range_succ, List.filter_append, List.map_append]; simp [hf]
 ·have e : i = n := by lia
  subst e
  exact .inl ⟨Nat.le_refl _, hQ H2 sm hp2⟩
end
end L2
namespace Wm
open PySem L2
def PtAt (H : Hp) (cs : List Pc) (e : Bool) (p : Addr) : Prop := ∃ (q : Addr) (xs : List V), H p = some (.tup [.ref q, .bl e]) ∧ H q = some (.tup xs) ∧ PcT H cs xs
theorem PtAt.mono {H H' : Hp} {cs : List Pc} {e : Bool} {p : Addr} (s : SameT H H') (h : PtAt H cs e p) : PtAt H' cs e p := by
 obtain ⟨q, xs, h1, h2, h3⟩ := h
 exact ⟨q, xs, s _ _ h1, s _ _ h2, h3.mono s⟩
theorem PcT.pick {H : Hp} {cs : List Pc} {xs : List V} (h : PcT H cs xs) : ∀ il : List Nat, (∀ i ∈ il, i < xs.length) → PcT H (il.map fun i => cs[i]?.getD (.gap [])) (il.map fun i => xs[i]?.getD .non)
 | [], _ => .nil
 | i :: il, hi => by
  have hlt := hi i (List.mem_cons_self ..)
  have hv : xs[i]? = some xs[i] := List.getElem?_eq_getElem hlt
  obtain ⟨c, p, hc, e, hp⟩ := h.get hv
  rw [List.map_cons, List.map_cons, hc, hv, e]
  exact .cons hp (PcT.pick h il fun j hj => hi j (List.mem_cons_of_mem _ hj))
theorem lqV {H H' : Hp} {a : Addr} (s : Same H H') (h : H' a = none) : H a = none := by
 cases e : H a with
 | none => rfl
 | some o => rw [s _ _ e] at h; cases h
theorem mqe {H H' : Hp} {l : Addr} {ys : List V} (s : Same H H') (h : H l = none) : Same H (upd H' l (.lst ys)) := fun b o hb => by
 rw [aqj (fun w => by subst w; rw [h] at hb; cases hb)]; exact s _ _ hb
theorem lqr {H : Hp} {l : Addr} {ys zs : List V} (h : H l = some (.lst zs)) : SameT H (upd H l (.lst ys)) := fun b o hb => by
 rw [aqj (fun w => by subst w; rw [h] at hb; cases hb)]; exact hb
def alikeM : Pc → Pc → Bool
 | .step v, .step w => decide (v = w)
 | .part h _ t, .part h' _ t' => decide (h = h') && decide (t = t')
 | .num _, .num _ => true
 | .word _, .word _ => true
 | .gap _, .gap _ => true
 | .rest _, .rest _ => true
 | _, _ => false
structure Wid (c d : Pc) : Prop where
 ok : PcOk d
 nr : d.isRest = false
 fits : ∀ s, fitsM c s = true → fitsM d s = true
 grown : alikeM c d = true ∨ stepBey d c ≠ none
theorem lqG (h t z : List Nat) (hz : 0 < z.length) : partB h t (h ++ z ++ t) = true := by
 have hlen : (h ++ z ++ t).length = h.length + z.length + t.length := by simp only [List.length_append]
 unfold partB
 simp only [Bool.and_eq_true, decide_eq_true_eq]
 refine ⟨by rw [List.append_assoc, List.take_left], ?_, by lia⟩
 have hd : (h ++ z ++ t).length - t.length = (h ++ z).length := by rw [hlen, List.length_append]; lia
 rw [hd, List.drop_left]
def restM (cs : List Pc) : Nat := if hasRest cs = true then cs.length - 1 else cs.length
structure WidAll (cs ds : List Pc) : Prop where
 len : ds.length = restM cs
 wid : ∀ (i : Nat) (c d : Pc), cs[i]? = some c → ds[i]? = some d → Wid c d
end Wm
namespace L2
open PySem PySem.Spec PySem.W PySem.Calls PyProof.Rows
section
variable {prog : Program} {w : World} {A : Around} {R : Result → Shared → Prop} {I S : Addr} {fp wr : List Addr} {P : Nat → Value → Prop} {St : Nat → Heap → Prop} {n : Nat}
end
section
variable {A : Around} {prog : Program} {w : World} {s : Shared} {E : Value → Shared → Prop}
end
section
variable {X : Cx} {p pos kp kpos : Pos} {e e2 : Expr} {t : TA}
end
end L2
namespace Wm
open PySem L2
end Wm
namespace HT
open PySem PyProof.Rows
section
open PySem.SeqAt
open PySem.AutoSeq1 (wpAny_loadPart')
open PySem.MeetsSeq PySem.MeetsSeq2 PySem.MeetsSeq3
end
section
variable {prog : Program} {w : World} {A : Around} {E : Value → Shared → Prop} {s : Shared}
end
end HT
namespace L2
open PySem PySem.Spec PyProof.Rows PyProof.V
section
variable {X : Cx} {o i : Expr} {x : Str} {np pos : Pos} {td ty : TE}
def tTab (p : Addr) (D : List (PyData × PyData)) (td ty : TE) : TE := fun σ H Q => td σ H fun x H1 => ty σ H1 fun y H2 => x = .ref p ∧ ∃ (k : Str) (n : Int), y = .str k ∧ lookup (.str k) D = some (.int n) ∧ Q (.int n) H2
theorem qqH {p : Addr} {D : List (PyData × PyData)} {σ : St} {H : Hp} {Q : VK} : (tTab p D td ty σ H Q) = (td σ H fun x H1 => ty σ H1 fun y H2 => x = .ref p ∧ ∃ (k : Str) (n : Int), y = .str k ∧ lookup (.str k) D = some (.int n) ∧ Q (.int n) H2) := rfl
end
end L2
namespace Wm
open PySem L2
def wordW : Pc → Int
 | .step _ => 6
 | .part .. => 5
 | .num _ => 4
 | .word _ => 3
 | .gap _ => 2
 | .rest _ => 1
def worthM (c : Pc) : List Int := [wordW c, ((c.head.length + c.tail.length : Nat) : Int), (c.head.length : Int)]
def LastR (cs : List Pc) : Prop := ∀ (i : Nat) (c : Pc), cs[i]? = some c → c.isRest = true → i + 1 = cs.length
theorem jq2 {cs : List Pc} {i : Nat} {c : Pc} (l : LastR cs) (h : cs[i]? = some c) (hr : c.isRest = true) : hasRest cs = true := by
 have := l i c h hr
 unfold hasRest
 rw [List.getLast?_eq_getElem?, ← this, Nat.add_sub_cancel, h]
 exact hr
structure Wdr (c d : Pc) : Prop where
 ok : PcOk d
 fit : ∀ s, fitsM c s = true → fitsM d s = true
 le : HT.lexLt (worthM c) (worthM d) = false
 nr : d.isRest = c.isRest
theorem pqG {n : Nat} (h : n < 10 ^ 60) : numB (dg (n : Int)) = true := by
 have hd := gq7 n
 have ed : dg (n : Int) = (Nat.toDigits 10 n).map Char.toNat := by unfold dg; rw [PySem.W.KIN.signs_num]
 have hfg := nqA (i := (n : Int)) (by lia)
 have hdl : (dg (n : Int)).length ≤ 60 := by rw [ed, List.length_map]; exact lqF h
 have hne : dg (n : Int) ≠ [] := by rw [ed]; exact hd.2.1
 unfold numB
 have hp1 : 1 ≤ (dg (n : Int)).length := List.length_pos_iff.mpr hne
 have hal : (dg (n : Int)).all isFig = true := List.all_eq_true.mpr fun x hx => by
  have := hfg x hx
  simp only [isFig, Bool.and_eq_true, decide_eq_true_eq]
  exact this
 rw [decide_eq_true hp1, decide_eq_true hdl, hal]
 by_cases h0 : (dg (n : Int)).head? = some 48
 ·rw [ed] at h0
  have := hd.2.2 h0
  subst this
  rw [show dg ((0 : Nat) : Int) = [48] by decide +kernel]; decide
 ·rw [decide_eq_false h0]; simp
end Wm
namespace L2
open PySem PySem.Spec PyProof.Rows
section
variable {κ : Type} [DecidableEq κ]
def valV (kvs : List (κ × V)) (k : κ) : Option V := (kvs.find? fun kv => decide (kv.1 = k)).map (·.2)
def putK (kvs : List (κ × V)) (k : κ) (v : V) : List (κ × V) :=
 if (kvs.any fun kv => decide (kv.1 = k)) = true then kvs.map (fun kv => if kv.1 = k then (kv.1, v) else kv) else kvs ++ [(k, v)]
end
section
variable {P : Program} {w : World} {H : Hp} {h : Heap} {a : Addr}
end
def DGet (H : Hp) (a : Addr) (y : V) (r : Option V) : Prop :=
 (∃ kvs k, Rd H a (.dK kvs) ∧ y = kV k ∧ r = valV kvs k) ∨ ∃ kvs k b, Rd H a (.dT kvs) ∧ y = .ref b ∧ H b = some (.tup (k.map kV)) ∧ r = valV kvs k
def DPut (H : Hp) (a : Addr) (y v : V) (H' : Hp) : Prop :=
 (∃ kvs k, H a = some (.dK kvs) ∧ y = kV k ∧ kvs.length < sizeLine ∧ H' = upd H a (.dK (putK kvs k v))) ∨
 ∃ kvs k b, H a = some (.dT kvs) ∧ y = .ref b ∧ H b = some (.tup (k.map kV)) ∧ kvs.length < sizeLine ∧ H' = upd H a (.dT (putK kvs k v))
section
variable {X : Cx} {pins : List (Addr × Obj)} {σ : St} {H : Hp} {s : Shared} {a : Addr} {y v : V} {u r : Value} {o : Option V} {A : Around} {E : Value → Shared → Prop}
theorem Inv.big (I : Inv X pins σ H s) : sysModules < s.heap.objs.size := by
 have h : mainGlobals < s.heap.objs.size := (I.mod.glob.keeps I.bk).lt
 exact Nat.lt_trans (by decide) h
end
section
variable {X : Cx} {pins : List (Addr × Obj)} {σ : St} {H : Hp} {s : Shared} {a : Addr} {kvs : List (Key × V)} {k : Key} {u : Value} {A : Around} {E : Value → Shared → Prop}
end
def tDGet (td ty : TE) : TE := fun σ H Q => td σ H fun x H1 => ty σ H1 fun y H2 => ∃ a v, x = .ref a ∧ DGet H2 a y (some v) ∧ Q v H2
def sDPut (td ty tv : TE) : TS := fun D σ H => tv σ H fun v H1 => td σ H1 fun x H2 => ty σ H2 fun y H3 => ∃ a H4, x = .ref a ∧ DPut H3 a y v H4 ∧ D.nx σ H4
section
variable {X : Cx} {o i e value : Expr} {pos pos' tpos : Pos} {td ty tv : TE}
end
theorem mqD {P : Program} {w : World} {H : Hp} (h : Heap) (hb : sysModules < h.objs.size) : ObjOk P w H (h.push { cls := .type "dict", data := .dict #[] }) h.objs.size (.dK []) :=
 ⟨Nat.zero_le _, beq_eq_false_iff_ne.mpr (Ne.symm (Nat.ne_of_lt hb)), [], .nil, Heap.DictOf.new h⟩
def tDNewK : TE := fun _ H Q => ∀ p, H p = none → Q (.ref p) (upd H p (.dK []))
section
variable {X : Cx} {pos : Pos}
theorem mqt : PE X (.Dict [] [] pos) tDNewK := fun pins s σ H Q I h =>
 wpAny_Dict_empty ⟨.ref s.heap.objs.size, _, I.laid (a := s.heap.objs.size) (o := .dK []) (t' := s.toks) (fun _ _ q => Heap.get?_push_of_some _ q) (Nat.le_refl _) (mqD s.heap I.big), rfl, h _ (I.hok.fresh (Nat.le_refl _))⟩
end
def tPairs : List (TE × TE) → St → Hp → (List (V × V) → Hp → Prop) → Prop
 | [], _, H, Q => Q [] H
 | (tk, tv) :: r, σ, H, Q => tk σ H fun x H1 => tv σ H1 fun y H2 => tPairs r σ H2 fun ps H3 => Q ((x, y) :: ps) H3
def mergeK (kvs more : List (Key × V)) : List (Key × V) := more.foldl (fun acc kv => putK acc kv.1 kv.2) kvs
def tDisp (trs : List (TE × TE)) : TE := fun σ H Q => ∀ p, H p = none → tPairs trs σ (upd H p (.dK [])) fun ps H2 => H2 p = some (.dK []) ∧ ∃ kvs : List (Key × V), ps = kvs.map (fun kv => (kV kv.1, kv.2)) ∧ kvs.length ≤ 15 ∧ Q (.ref p) (upd H2 p (.dK (mergeK [] kvs)))
structure M1 (X : Cx) (o : Expr) (m : Str) (apos : Pos) (e : Expr) (cpos : Pos) : Prop where
 base : attributeBase o m X.env (eval o X.env) = eval o X.env
 few : ((backTo cpos (starEach [e] X.env)).all (fun x => !x.1) && (backToKw cpos (keywordEach [] X.env)).all (fun x => x.1.isSome)
  && decide (([e] : List Expr).length + ([] : List Keyword).length + (if ([] : List Keyword).isEmpty then 0 else 1) < 30)) = true
 line : (apos.endLine == cpos.line) = true
 trees : backTo cpos (starEach [e] X.env) = [(false, eval e X.env)]
structure M2 (X : Cx) (o : Expr) (m : Str) (apos : Pos) (e f : Expr) (cpos : Pos) : Prop where
 base : attributeBase o m X.env (eval o X.env) = eval o X.env
 few : ((backTo cpos (starEach [e, f] X.env)).all (fun x => !x.1) && (backToKw cpos (keywordEach [] X.env)).all (fun x => x.1.isSome)
  && decide (([e, f] : List Expr).length + ([] : List Keyword).length + (if ([] : List Keyword).isEmpty then 0 else 1) < 30)) = true
 line : (apos.endLine == cpos.line) = true
 trees : backTo cpos (starEach [e, f] X.env) = [(false, eval e X.env), (false, eval f X.env)]
def IsD (H : Hp) (a : Addr) : Prop := (∃ kvs, Rd H a (.dK kvs)) ∨ ∃ kvs, Rd H a (.dT kvs)
section
variable {X : Cx} {pins : List (Addr × Obj)} {σ : St} {H : Hp} {s : Shared} {a : Addr} {y d : V} {u r : Value} {o : Option V} {A : Around} {E : Value → Shared → Prop}
end
def tDGet2 (td ty tx : TE) : TE := fun σ H Q => td σ H fun x H1 => ∃ a, x = .ref a ∧ IsD H1 a ∧ ty σ H1 fun y H2 => tx σ H2 fun z H3 => ∃ o, DGet H3 a y o ∧ Q (o.getD z) H3
section
variable {X : Cx} {o e f : Expr} {apos cpos : Pos} {td ty tx : TE}
end
section
variable {X : Cx} {pins : List (Addr × Obj)} {σ : St} {H : Hp} {s : Shared} {a : Addr} {kvs : List (Key × V)} {A : Around} {E : Value → Shared → Prop}
end
section
variable {X : Cx} {pins : List (Addr × Obj)} {σ : St} {H : Hp} {s : Shared} {a : Addr} {y : V} {u : Value} {A : Around} {E : Value → Shared → Prop}
end
end L2
namespace L2
open PySem PyProof.Rows PySem.Spec
section
variable {td ty tv : TE} {σ : St} {H : Hp} {Q : VK} {D : Ends}
theorem nq1 : (tDGet td ty σ H Q) = (td σ H fun x H1 => ty σ H1 fun y H2 => ∃ a v, x = .ref a ∧ DGet H2 a y (some v) ∧ Q v H2) := rfl
theorem nqC : (sDPut td ty tv D σ H) = (tv σ H fun v H1 => td σ H1 fun x H2 => ty σ H2 fun y H3 => ∃ a H4, x = .ref a ∧ DPut H3 a y v H4 ∧ D.nx σ H4) := rfl
theorem oq5 : (tDNewK σ H Q) = (∀ p, H p = none → Q (.ref p) (upd H p (.dK []))) := rfl
theorem oqo {trs : List (TE × TE)} : (tDisp trs σ H Q) = (∀ p, H p = none → tPairs trs σ (upd H p (.dK [])) fun ps H2 => H2 p = some (.dK []) ∧ ∃ kvs : List (Key × V), ps = kvs.map (fun kv => (kV kv.1, kv.2)) ∧ kvs.length ≤ 15 ∧ Q (.ref p) (upd H2 p (.dK (mergeK [] kvs)))) := rfl
theorem nqR {R : List (V × V) → Hp → Prop} : (tPairs [] σ H R) = (R [] H) := rfl
theorem nqI {tk tv : TE} {r : List (TE × TE)} {R : List (V × V) → Hp → Prop} : (tPairs ((tk, tv) :: r) σ H R) = (tk σ H fun x H1 => tv σ H1 fun y H2 => tPairs r σ H2 fun ps H3 => R ((x, y) :: ps) H3) := rfl
theorem mqQ {tx : TE} : (tDGet2 td ty tx σ H Q) = (td σ H fun x H1 => ∃ a, x = .ref a ∧ IsD H1 a ∧ ty σ H1 fun y H2 => tx σ H2 fun z H3 => ∃ o, DGet H3 a y o ∧ Q (o.getD z) H3) := rfl
end
end L2
namespace PySem
section
variable {prog : Program} {w : World} {K : Type} [DecidableEq K] {knd : KeyKind prog w K} {A : Around} {R : Result → Shared → Prop} {h0 : Heap} {d it l : Addr} {items : Array Value} {ps : List (K × Value)}
end
section
variable {prog : Program} {w : World} {K : Type} [DecidableEq K] {knd : KeyKind prog w K} {A : Around} {E : Value → Shared → Prop} {s : Shared} {l : Addr} {items : Array Value} {ps : List (K × Value)} {c : Nat} {sl : Array (Option Value)} {Q : Value → Shared → Prop}
end
end PySem
namespace L2
open PySem PySem.Spec PyProof.Rows
section
variable {X : Cx} {pins : List (Addr × Obj)} {σ : St} {H : Hp} {s : Shared}
end
end L2
namespace Wm
open PySem L2
def GvOk (c : Pc) (x : Vl) : Prop := match c with
 | .part h _ t => ∃ s : List Nat, x = .txt s ∧ s ≠ [] ∧ (∀ z ∈ s, isSg z = true) ∧ s.length ≤ 400 ∧ isDot (h ++ s ++ t) = false
 | .num _ => ∃ n : Int, x = .int n ∧ 0 ≤ n ∧ n < 10 ^ 60
 | .word _ => ∃ s : List Nat, x = .txt s ∧ s.all isSma = true ∧ 1 ≤ s.length ∧ s.length ≤ 60
 | .gap _ => ∃ s : List Nat, x = .txt s ∧ SgT s ∧ s.length ≤ 400 ∧ isDot s = false
 | .rest _ => ∃ ls : List (List Nat), x = .lst ls ∧ ls ≠ [] ∧ ls.length ≤ 50 ∧ ∀ s ∈ ls, SgT s ∧ s.length ≤ 400 ∧ isDot s = false
 | .step _ => False
inductive GvA : List Pc → List (List Nat × Vl) → Prop
 | nil : GvA [] []
 | step {w : List Nat} {cs : List Pc} {bs : List (List Nat × Vl)} : GvA cs bs → GvA (.step w :: cs) bs
 | gap {c : Pc} {x : Vl} {cs : List Pc} {bs : List (List Nat × Vl)} : c.isStep = false → GvOk c x → GvA cs bs → GvA (c :: cs) ((c.name, x) :: bs)
def stM (c : Pc) (x : Vl) : List (List Nat) := match x with
 | .txt s => [c.head ++ s ++ c.tail]
 | .int n => [dg n]
 | .lst ls => ls
def stpsM : List Pc → List (List Nat × Vl) → List (List Nat)
 | [], _ => []
 | .step w :: cs, bs => w :: stpsM cs bs
 | c :: cs, b :: bs => stM c b.2 ++ stpsM cs bs
 | _ :: _, [] => []
theorem mqO {c : Pc} {cs : List Pc} {b : List Nat × Vl} {bs : List (List Nat × Vl)} (h : c.isStep = false) : stpsM (c :: cs) (b :: bs) = stM c b.2 ++ stpsM cs bs := by
 cases c with
 | step w => cases h
 | _ => rfl
theorem mqN (h t s : List Nat) : amid h t (h ++ s ++ t) = s := by
 unfold amid
 rw [List.append_assoc, List.drop_left]
 have : (h ++ (s ++ t)).length - t.length - h.length = s.length := by simp only [List.length_append]; lia
 rw [this, List.take_left]
theorem mqV (n : Nat) : valD ((Nat.toDigits 10 n).map Char.toNat) = n := by
 induction n using Nat.strongRecOn with
 | ind n ih =>
  by_cases h : n < 10
  ·rw [Nat.toDigits_of_lt_base (by lia)]
   have : ∀ d, d < 10 → valD ([Nat.digitChar d].map Char.toNat) = d := by decide
   exact this n h
  ·rw [Nat.toDigits_of_base_le (by decide) (by lia), List.map_append]
   show valD (_ ++ [(Nat.digitChar (n % 10)).toNat]) = n
   have : ∀ d, d < 10 → (Nat.digitChar d).toNat - 48 = d := by decide
   rw [dqD, ih (n / 10) (by lia), this (n % 10) (Nat.mod_lt _ (by decide))]
   lia
theorem pqC (n : Nat) : dg (n : Int) = (Nat.toDigits 10 n).map Char.toNat := by unfold dg; rw [PySem.W.KIN.signs_num]
theorem jqP {s : List Nat} (h : ∀ c ∈ s, c ≠ 46) : isDot s = false := by
 cases hd : isDot s with
 | false => rfl
 | true =>
  exfalso
  cases s with
  | nil => exact absurd hd (by decide)
  | cons c r =>
   have hc := h c (List.mem_cons_self ..)
   unfold isDot at hd
   simp [sStay, sUp] at hd
   lia
theorem qqm {c : Pc} {x : Vl} (ok : PcOk c) (hs : c.isStep = false) (hr : c.isRest = false) (h : GvOk c x) : ∃ s, stM c x = [s] ∧ fitsM c s = true ∧ (∀ r, bvM c (s :: r) = x) ∧ SgT s ∧ s.length ≤ 600 := by
 cases c with
 | step w => cases hs
 | rest n => cases hr
 | part a n t =>
  obtain ⟨s, rfl, h1, h2, h3, h4⟩ := h
  obtain ⟨o1, o2, o3, o4, _⟩ := ok
  refine ⟨a ++ s ++ t, rfl, ?_, fun r => ?_, ⟨by simp [h1], fun z hz => ?_⟩, by simp only [List.length_append]; lia⟩
  ·show (!isDot (a ++ s ++ t) && partB a t (a ++ s ++ t)) = true
   rw [h4, lqG a t s (List.length_pos_iff.mpr h1)]
   rfl
  ·show Vl.txt (amid a t (a ++ s ++ t)) = _
   rw [mqN]
  ·rcases List.mem_append.mp hz with y | y
   ·rcases List.mem_append.mp y with y | y
    ·exact o3 z y
    ·exact h2 z y
   ·exact o4 z y
 | num nm =>
  obtain ⟨n, rfl, h0, h1⟩ := h
  obtain ⟨k, rfl⟩ := Int.eq_ofNat_of_zero_le h0
  have hn : numB (dg (k : Int)) = true := pqG (by lia)
  have hf := nqA (i := (k : Int)) h0
  have nd : isDot (dg (k : Int)) = false := jqP fun c hc z => by have := hf c hc; lia
  have ht : fitsM (.num nm) (dg (k : Int)) = true := by
   show (!isDot (dg (k : Int)) && numB (dg (k : Int))) = true
   rw [hn, nd]
   rfl
  obtain ⟨b1, b2, b3⟩ := mqM ht
  refine ⟨dg (k : Int), rfl, ht, fun r => ?_, ⟨List.length_pos_iff.mp b1, fun c hc => pq7 (hf c hc)⟩, by lia⟩
  show Vl.int (intOf (dg (k : Int))) = _
  rw [iqy b3 b1 b2, pqC, mqV]
 | word n =>
  obtain ⟨s, rfl, h1, h2, h3⟩ := h
  have hs := List.all_eq_true.mp h1
  refine ⟨s, by show [[] ++ s ++ []] = [s]; simp, ?_, fun r => ?_, ⟨List.length_pos_iff.mp h2, lqY h1⟩, by lia⟩
  ·show (!isDot s && wordB s) = true
   rw [jqP fun c hc z => by have := hs c hc; rw [z] at this; cases this]
   unfold wordB
   rw [h1, decide_eq_true h2, decide_eq_true h3]
   rfl
  ·show Vl.txt (amid [] [] s) = _
   rw [fqI]
 | gap n =>
  obtain ⟨s, rfl, h1, h2, h3⟩ := h
  refine ⟨s, by show [[] ++ s ++ []] = [s]; simp, ?_, fun r => ?_, h1, by lia⟩
  ·show (!isDot s && true) = true
   rw [h3]
   rfl
  ·show Vl.txt (amid [] [] s) = _
   rw [fqI]
structure GvS (cs : List Pc) (bs : List (List Nat × Vl)) (ss : List (List Nat)) : Prop where
 bnd : boundM cs ss = bs
 fit : ∀ (i : Nat) (s : List Nat), ss[i]? = some s → ∃ c, cs[min i (cs.length - 1)]? = some c ∧ fitsM c s = true
 len : (∀ c ∈ cs, c.isRest = false) → ss.length = cs.length
 le : cs.length ≤ ss.length
 sg : ∀ s ∈ ss, SgT s ∧ s.length ≤ 600
 mx : ss.length ≤ cs.length + 49
theorem GvS.cons {c : Pc} {cs : List Pc} {bs b : List (List Nat × Vl)} {s : List Nat} {ss : List (List Nat)} (h : GvS cs bs ss) (hf : fitsM c s = true) (hg : SgT s ∧ s.length ≤ 600) (hb : (if c.isStep then [] else [(c.name, bvM c (s :: ss))]) = b) : GvS (c :: cs) (b ++ bs) (s :: ss) := by
 refine ⟨?_, fun i t ht => ?_, fun hr => ?_, ?_, fun t ht => ?_, ?_⟩
 ·show (if c.isStep then [] else [(c.name, bvM c (s :: ss))]) ++ boundM cs ss = _
  rw [hb, h.bnd]
 ·cases i with
  | zero => cases ht; exact ⟨c, by rw [Nat.zero_min]; rfl, hf⟩
  | succ i =>
   obtain ⟨d, h1, h2⟩ := h.fit i t (by simpa using ht)
   have hp := (List.getElem?_eq_some_iff.mp h1).1
   refine ⟨d, ?_, h2⟩
   rw [List.length_cons, show min (i + 1) (cs.length + 1 - 1) = min i (cs.length - 1) + 1 by lia]
   exact h1
 ·rw [List.length_cons, List.length_cons, h.len fun d hd => hr d (List.mem_cons_of_mem _ hd)]
 ·rw [List.length_cons, List.length_cons]; have := h.le; lia
 ·rcases List.mem_cons.mp ht with z | z
  ·rw [z]; exact hg
  ·exact h.sg t z
 ·rw [List.length_cons, List.length_cons]; have := h.mx; lia
theorem nqy {cs : List Pc} {bs : List (List Nat × Vl)} (h : GvA cs bs) : (∀ c ∈ cs, PcOk c) → LastR cs → GvS cs bs (stpsM cs bs) := by
 induction h with
 | nil => exact fun _ _ => ⟨rfl, (fun i s h => by simp [stpsM] at h), fun _ => rfl, Nat.le_refl _, (fun s hs => by cases hs), Nat.zero_le _⟩
 | @step w cs bs _ ih =>
  intro ok l
  have ih := ih (fun c hc => ok c (List.mem_cons_of_mem _ hc)) fun i c hc hr => by have := l (i + 1) c hc hr; rw [List.length_cons] at this; lia
  obtain ⟨o1, o2, o3, o4⟩ := ok _ (List.mem_cons_self ..)
  exact ih.cons (c := .step w) (b := []) (by show (!isDot w && decide (w = w)) = true; rw [o4, decide_eq_true rfl]; rfl) ⟨⟨List.length_pos_iff.mp o1, o3⟩, by lia⟩ rfl
 | @gap c x cs bs hst hg _ ih =>
  intro ok l
  have ih := ih (fun c hc => ok c (List.mem_cons_of_mem _ hc)) fun i c hc hr => by have := l (i + 1) c hc hr; rw [List.length_cons] at this; lia
  rw [mqO hst]
  cases hr : c.isRest with
  | false =>
   obtain ⟨s, e, hf, hb, hsg⟩ := qqm (ok c (List.mem_cons_self ..)) hst hr hg
   rw [e]
   exact ih.cons (b := [(c.name, x)]) hf hsg (by rw [hst, hb]; rfl)
  | true =>
   have hn : cs = [] := List.length_eq_zero_iff.mp (by have := l 0 c rfl hr; rw [List.length_cons] at this; lia)
   subst hn
   have hbs : bs = [] := by have := ih.bnd; exact this.symm
   subst hbs
   cases c with
   | rest n =>
    obtain ⟨ls, rfl, h1, h2, h3⟩ := hg
    show GvS [.rest n] [(n, .lst ls)] (ls ++ [])
    rw [List.append_nil]
    have hp := List.length_pos_iff.mpr h1
    refine ⟨rfl, fun i s hs => ⟨.rest n, by rw [show min i ([Pc.rest n].length - 1) = 0 by simp]; rfl, ?_⟩, fun z => ?_, by simp; lia, fun s hs => ⟨(h3 s hs).1, by have := (h3 s hs).2.1; lia⟩, by simp; lia⟩
    ·show (!isDot s && true) = true
     rw [(h3 s (List.mem_of_getElem? hs)).2.2]
     rfl
    ·have := z (.rest n) (List.mem_singleton.mpr rfl)
     cases this
   | _ => cases hr
theorem nqM {cs : List Pc} {bs : List (List Nat × Vl)} (h : GvA cs bs) (ok : ∀ c ∈ cs, PcOk c) (l : LastR cs) (e : Bool) : fitsP cs e true (stpsM cs bs) e = true := by
 have g := nqy h ok l
 obtain ⟨ms, hm⟩ := iq7 (ds := cs) (n := (stpsM cs bs).length) (by
  cases hr : hasRest cs with
  | true => exact .inl ⟨rfl, g.le⟩
  | false =>
   refine .inr (g.len fun c hc => ?_)
   cases hcr : c.isRest with
   | false => rfl
   | true =>
    obtain ⟨i, hi⟩ := List.mem_iff_getElem?.mp hc
    rw [jq2 l hi hcr] at hr
    cases hr)
 refine lqC.mpr ⟨ms, hm, rfl, rfl, fun i c s hc hs => ?_⟩
 obtain ⟨d, h1, h2⟩ := g.fit i s hs
 have hi := (List.getElem?_eq_some_iff.mp hs).1
 rcases (jq7 hm).2 i hi with ⟨z1, z2⟩ | ⟨z1, _, d', z3, z4, _⟩
 ·rw [z2] at hc
  rw [Nat.min_eq_left (by lia), hc] at h1
  cases h1
  exact h2
 ·rw [hc] at z3
  cases z3
  exact lqt z4 (mqy h2)
theorem lqq {s : List Nat} {c : Nat} (hc : c ∈ s) (h : c ≠ 46) : isDot s = false := gqf.mpr ⟨fun e => by
 rw [e] at hc
 simp [sUp] at hc
 exact h hc, fun e => by
 rw [e] at hc
 simp [sStay] at hc
 exact h hc⟩
theorem GvA.snoc {cs : List Pc} {bs : List (List Nat × Vl)} {c : Pc} {x : Vl} (h : GvA cs bs) (hs : c.isStep = false) (hx : GvOk c x) : GvA (cs ++ [c]) (bs ++ [(c.name, x)]) := by
 induction h with
 | nil => exact .gap hs hx .nil
 | step _ ih => exact .step ih
 | gap h1 h2 _ ih => exact .gap h1 h2 ih
theorem GvA.whole : ∀ {cs : List Pc} {bs : List (List Nat × Vl)}, GvA (cs.filter fun c => !c.isStep) bs → GvA cs bs
 | [], _, h => h
 | c :: cs, bs, h => by
  cases hs : c.isStep with
  | true =>
   rw [List.filter_cons, if_neg (by rw [hs]; decide)] at h
   cases c with
   | step w => exact .step h.whole
   | _ => cases hs
  | false =>
   rw [List.filter_cons, if_pos (by rw [hs]; rfl)] at h
   cases h with
   | step h => cases hs
   | gap h1 h2 h3 => exact .gap h1 h2 h3.whole
theorem GvA.names {cs : List Pc} {bs : List (List Nat × Vl)} (h : GvA cs bs) : bs.map (·.1) = gapsM cs := by
 induction h with
 | nil => rfl
 | step _ ih => exact ih
 | @gap c x cs bs h1 _ _ ih =>
  rw [List.map_cons, ih]
  unfold gapsM
  rw [List.filter_cons, if_pos (by rw [h1]; rfl)]
  rfl
theorem GvOk.vl {c : Pc} {x : Vl} (h : GvOk c x) : VlOk x := by
 cases c with
 | step w => exact h.elim
 | part a n t => obtain ⟨s, rfl, _, h2, h3, _⟩ := h; exact ⟨h2, by lia⟩
 | num n => obtain ⟨s, rfl, _⟩ := h; trivial
 | word n => obtain ⟨s, rfl, h1, _, h3⟩ := h; exact ⟨lqY h1, by lia⟩
 | gap n => obtain ⟨s, rfl, h1, h2, _⟩ := h; exact ⟨h1.2, by lia⟩
 | rest n => obtain ⟨ls, rfl, _, h2, h3⟩ := h; exact ⟨fun s hs => ⟨(h3 s hs).1.2, by have := (h3 s hs).2.1; lia⟩, by lia⟩
theorem GvA.vl {cs : List Pc} {bs : List (List Nat × Vl)} (h : GvA cs bs) : ∀ b ∈ bs, VlOk b.2 := by
 induction h with
 | nil => intro b hb; cases hb
 | step _ ih => exact ih
 | gap _ h2 _ ih =>
  intro b hb
  rcases List.mem_cons.mp hb with z | z
  ·rw [z]; exact h2.vl
  ·exact ih b z
def SmV : Vl → Prop
 | .txt s => s.length ≤ 90
 | .int _ => True
 | .lst ls => ls.length ≤ 5 ∧ ∀ s ∈ ls, s.length ≤ 90
end Wm
namespace L2
open PySem
section
variable {X : Cx}
end
end L2
namespace Wm
open PySem L2
theorem nqm {c : Pc} (h : c.isStep = true) : ∃ w, c = .step w := by cases c <;> first | exact ⟨_, rfl⟩ | cases h
theorem qqh {c : Pc} (h : c.isPart = true) : ∃ a n t, c = .part a n t := by cases c <;> first | exact ⟨_, _, _, rfl⟩ | cases h
theorem qqg {c : Pc} (h : c.isRest = true) : ∃ n, c = .rest n := by cases c <;> first | exact ⟨_, rfl⟩ | cases h
end Wm
namespace PySem
open PyProof.Rows
section
variable {K : Type} [DecidableEq K]
def fstU (l : List K) : List K := l.foldl (fun acc k => if k ∈ acc then acc else acc ++ [k]) []
theorem eqf (l : List K) (k : K) : fstU (l ++ [k]) = if k ∈ fstU l then fstU l else fstU l ++ [k] := by
 unfold fstU; rw [List.foldl_append]; rfl
theorem hqk : ∀ (n : Nat) (l : List K), l.length = n → ∀ k, k ∈ fstU l ↔ k ∈ l
 | 0, l, h, k => by rw [List.length_eq_zero_iff.mp h]; exact Iff.rfl
 | n + 1, l, h, k => by
  obtain ⟨l', x, rfl⟩ : ∃ l' x, l = l' ++ [x] := ⟨l.dropLast, l.getLast (fun z => by rw [z] at h; cases h), (List.dropLast_concat_getLast _).symm⟩
  have ih := hqk n l' (by rw [List.length_append, List.length_singleton] at h; lia)
  rw [eqf, List.mem_append, List.mem_singleton]
  split
  ·next hx =>
   rw [ih k]
   exact ⟨.inl, fun z => by rcases z with z | rfl; exact z; exact (ih _).mp hx⟩
  ·rw [List.mem_append, List.mem_singleton, ih k]
theorem dqS : ∀ (n : Nat) (l : List K), l.length = n → ((fstU l).length ≤ l.length ∧ ((fstU l).length = l.length ↔ l.Nodup))
 | 0, l, h => by rw [List.length_eq_zero_iff.mp h]; simp [fstU]
 | n + 1, l, h => by
  obtain ⟨l', x, rfl⟩ : ∃ l' x, l = l' ++ [x] := ⟨l.dropLast, l.getLast (fun z => by rw [z] at h; cases h), (List.dropLast_concat_getLast _).symm⟩
  have hl : l'.length = n := by rw [List.length_append, List.length_singleton] at h; lia
  obtain ⟨i1, i2⟩ := dqS n l' hl
  have im := hqk n l' hl x
  have hp : (l' ++ [x]).Nodup ↔ x ∉ l' ∧ l'.Nodup := by
   rw [← List.nodup_cons]
   exact (List.perm_append_singleton x l').nodup_iff
  rw [hp, eqf, List.length_append, List.length_singleton]
  split
  ·next hx =>
   refine ⟨by lia, fun z => ?_, fun z => absurd (im.mp hx) z.1⟩
   exact absurd z (by lia)
  ·next hx =>
   rw [List.length_append, List.length_singleton]
   refine ⟨by lia, fun z => ⟨fun y => hx (im.mpr y), i2.mp (by lia)⟩, fun z => by rw [i2.mpr z.2]⟩
end
section
variable {prog : Program} {w : World} {K : Type} [DecidableEq K] {knd : KeyKind prog w K} {A : Around} {R : Result → Shared → Prop} {h0 : Heap} {d it l : Addr} {items : Array Value} {ks : List K}
end
section
variable {prog : Program} {w : World} {K : Type} [DecidableEq K] {knd : KeyKind prog w K} {A : Around} {E : Value → Shared → Prop} {s : Shared} {l : Addr} {items : Array Value} {ks : List K} {Q : Value → Shared → Prop}
end
end PySem
namespace L2
open PySem PySem.Spec PyProof.Rows
section
variable {X : Cx}
def tLenSet (ta : TA) : TE := fun σ H Q => ta σ H fun vs H1 => ∃ (l : Addr) (ss : List Str), vs = [.ref l] ∧ H1 l = some (.lst (ss.map V.str)) ∧ ss.length ≤ 1000 ∧ Q (.int ((fstU ss).length : Nat)) H1
end
theorem lqi {ta : TA} {σ : St} {H : Hp} {Q : VK} : (tLenSet ta σ H Q) = (ta σ H fun vs H1 => ∃ (l : Addr) (ss : List Str), vs = [.ref l] ∧ H1 l = some (.lst (ss.map V.str)) ∧ ss.length ≤ 1000 ∧ Q (.int ((fstU ss).length : Nat)) H1) := rfl
end L2
namespace PySem
open PyProof.Rows
def tbI (L : Bool) (pl : List Nat) : SetTable := { mask := 7, place := pl.toArray, dummies := #[], finger := 0, led := L, moves := 0, plain := true }
def plN : Nat → List (List Nat)
 | 0 => [[]]
 | n + 1 => (plN n).flatMap fun l => (List.range 8).filterMap fun a => if l.all (a < ·) then some (a :: l) else none
def layOk (n : Nat) (L : Bool) (pl : List Nat) (k : Nat) : Bool := match (tbI L pl).freeSlot (k : Int) with
 | some (j, false) => decide (((tbI L pl).put j).1 = tbI L ((tbI L pl).put j).1.place.toList) && (((tbI L pl).put j).1.fits (n + 1) && (!((tbI L pl).put j).1.tooFull && (plN (n + 1)).contains ((tbI L pl).put j).1.place.toList))
 | _ => false
theorem pqv : ∀ n, n < 3 → ∀ pl ∈ plN n, ∀ (L : Bool) (k : Nat), k < 16 → layOk n L pl k = true := by decide +kernel
def slotI (pl : List Nat) : Nat → Nat
 | 0 => 0
 | i + 1 => (pl[i]?.getD 0) + 1
theorem lqQ : ∀ n, n < 4 → ∀ pl ∈ plN n, ∀ i, i < n + 1 → (SetTable.below pl.toArray (slotI pl i) = i ∧ pl.length = n ∧ (tbI true pl).fits n = true) := by decide +kernel
theorem gqX : ∀ k : Nat, k < 16 → hashInt (k : Int) = (k : Int) := by decide +kernel
def SetI (L : Bool) (h : Heap) (a : Addr) (ks : List Int) : Prop :=
 ∃ o es ep pl, h.get? a = some o ∧ o.ExactSet ∧ o.data = .set es ep (tbI L pl) ∧ es.size < 4 ∧ pl ∈ plN es.size ∧ (∀ e ∈ es.toList, ∃ (k : Nat) (t : Tok), k < 16 ∧ e = ((k : Int), .int (k : Int) t)) ∧ (es.toList.map (·.1)).Perm ks
theorem hqE {L : Bool} {n : Nat} {pl : List Nat} (hn : n < 4) (h : pl ∈ plN n) : (tbI L pl).fits n = true := (lqQ n hn pl h 0 (Nat.succ_pos _)).2.2
section
variable {prog : Program} {w : World} {A : Around} {E : Value → Shared → Prop} {s : Shared} {L : Bool} {a : Addr} {ks : List Int}
theorem iq6 {es : Array (Int × Value)} (h : ∀ e ∈ es.toList, ∃ (k : Nat) (t : Tok), k < 16 ∧ e = ((k : Int), .int (k : Int) t)) : ElemsOf (intKind prog w) es.toList := fun e he => by
 obtain ⟨k, t, hk, rfl⟩ := h e he
 exact ⟨⟨(k : Int), by simp [intKind, Value.isInt], (gqX k hk).symm⟩, rfl⟩
theorem mqL {k : Nat} {t : Tok} {Q : Bool → Shared → Prop} (hk : k < 16) (hS : SetI L s.heap a ks) (hroom : ks.length < 3)
  (h : ∀ b h', Heap.SameBut a s.heap h' → SetI L h' a (if (k : Int) ∈ ks then ks else ks ++ [(k : Int)]) → Q b { s with heap := h' }) :
  wpAny (model prog w) A (setAddHashed a (.int (k : Int) t) (hashInt (k : Int))) Q E s := by
 obtain ⟨o, es, ep, pl, ho, hex, hd, h4, hpl, hsm, hperm⟩ := hS
 have hel : ElemsOf (intKind prog w) es.toList := iq6 hsm
 have hf : (tbI L pl).fits es.size = true := hqE h4 hpl
 have hlen : es.size = ks.length := by have := hperm.length_eq; rw [List.length_map, Array.length_toList] at this; exact this
 have hkey : (intKind prog w).is (k : Int) (.int (k : Int) t) = true := by simp [intKind, Value.isInt]
 unfold setAddHashed setAddHashedIn
 refine wpAny_holding (wpAny_bind (wpAny_setState_of ho hd hf ?_))
 dsimp only
 rw [byScan_of (knd := intKind prog w) rfl (Nat.lt_trans h4 (by decide)) hel]
 simp only [↓reduceIte]
 unfold setAddByScan
 refine wpAny_bind ?_
 refine wpAny_bind (wpAny_rule ?_)
 refine wpAny_bind (wpAny_setScan_of (knd := intKind prog w) (k := (k : Int)) hkey ho hd hf hel ?_)
 have hmem : ((k : Int) ∈ ks) ↔ ∃ e ∈ es.toList, (intKind prog w).is (k : Int) e.2 = true := by
  rw [← hperm.mem_iff, List.mem_map]
  constructor
  ·rintro ⟨e, he, hek⟩
   obtain ⟨k', t', _, rfl⟩ := hsm e he
   refine ⟨_, he, ?_⟩
   have hek : (k' : Int) = k := hek
   simp [intKind, Value.isInt, hek]
  ·rintro ⟨e, he, hek⟩
   obtain ⟨k', t', _, rfl⟩ := hsm e he
   refine ⟨_, he, ?_⟩
   simpa [intKind, Value.isInt] using hek
 cases hr : List.findIdx? (fun e => (intKind prog w).is (k : Int) e.2) es.toList with
 | some j =>
  dsimp only
  obtain ⟨hj, hpj, _⟩ := List.findIdx?_eq_some_iff_getElem.mp hr
  have hin : (k : Int) ∈ ks := hmem.mpr ⟨es.toList[j], List.getElem_mem hj, hpj⟩
  refine wpAny_pure (wpAny_pure ?_)
  have e : s = { s with heap := s.heap } := by cases s; rfl
  rw [e]
  exact h _ s.heap (Heap.SameBut.refl a s.heap) (by rw [if_pos hin]; exact ⟨o, es, ep, pl, ho, hex, hd, h4, hpl, hsm, hperm⟩)
 | none =>
  dsimp only
  have hout : ¬ (k : Int) ∈ ks := fun z => by
   obtain ⟨e, he, hp⟩ := hmem.mp z
   have := List.findIdx?_eq_none_iff.mp hr e he
   rw [hp] at this
   exact Bool.noConfusion this
  have hn3 : es.size < 3 := by lia
  have lo := pqv es.size hn3 pl hpl L k hk
  have hpm := layNew_perm (tbI L pl) es (hashInt (k : Int)) (.int (k : Int) t)
  rw [gqX k hk] at hpm ⊢
  unfold layOk at lo
  obtain ⟨j, ej, lo⟩ : ∃ j, (tbI L pl).freeSlot (k : Int) = some (j, false) ∧ (decide (((tbI L pl).put j).1 = tbI L ((tbI L pl).put j).1.place.toList) && (((tbI L pl).put j).1.fits (es.size + 1) && (!((tbI L pl).put j).1.tooFull && (plN (es.size + 1)).contains ((tbI L pl).put j).1.place.toList))) = true := by
   generalize (tbI L pl).freeSlot (k : Int) = fs at lo
   obtain _ | ⟨j, _ | _⟩ := fs
   ·cases lo
   ·exact ⟨j, rfl, lo⟩
   ·cases lo
  simp only [Bool.and_eq_true, decide_eq_true_eq, Bool.not_eq_true', List.contains_iff_mem] at lo
  obtain ⟨l1, l2, l3, l4⟩ := lo
  have eL : layNew (tbI L pl) es (k : Int) (.int (k : Int) t) = (SetTable.insertAt es ((tbI L pl).put j).2 ((k : Int), .int (k : Int) t), ((tbI L pl).put j).1, false, false) := by
   unfold layNew
   rw [ej]
   have hsz : (SetTable.insertAt es ((tbI L pl).put j).2 ((k : Int), Value.int (k : Int) t)).size = es.size + 1 := by
    have := (SetTable.insertAt_perm es ((tbI L pl).put j).2 ((k : Int), Value.int (k : Int) t)).length_eq
    rw [Array.toList_push, List.length_append, Array.length_toList, Array.length_toList] at this
    exact this
   show (_, ((tbI L pl).put j).1.orStandIn (SetTable.insertAt es ((tbI L pl).put j).2 ((k : Int), Value.int (k : Int) t)).size, false, !((tbI L pl).put j).1.fits (SetTable.insertAt es ((tbI L pl).put j).2 ((k : Int), Value.int (k : Int) t)).size) = _
   rw [hsz]
   unfold SetTable.orStandIn
   rw [l2]
   rfl
  rw [eL] at hpm ⊢
  generalize hes : SetTable.insertAt es ((tbI L pl).put j).2 ((k : Int), Value.int (k : Int) t) = es1 at hpm ⊢
  generalize ((tbI L pl).put j).1 = t1 at l1 l2 l3 l4 ⊢
  dsimp only at hpm ⊢
  rw [Array.toList_push] at hpm
  have hsz1 : es1.size = es.size + 1 := by
   have := hpm.length_eq
   rw [List.length_append, Array.length_toList, Array.length_toList] at this
   exact this
  refine wpAny_bind (wpAny_pure ?_)
  have hpn : t1.plain = true := by rw [l1]; rfl
  rw [hpn]
  simp only [↓reduceIte]
  refine wpAny_bind ?_
  rw [hashByValue_scannable 8 (x := .int (k : Int) t) rfl]
  refine wpAny_pure ?_
  show wpAny _ _ (storeSet a es1 t1 >>= _) _ _ _
  refine wpAny_bind (wpAny_storeSet_of ho hd ?_ (fits_of_scanBound (by rw [hsz1]; exact Nat.lt_trans (Nat.succ_lt_succ hn3) (by decide))))
  have hg : (s.heap.update a (Obj.putSet es1 t1)).get? a = some { o with data := .set es1 (ep + 1) t1 } := by
   have := Heap.get?_update_self (Obj.putSet es1 t1) ho (by rw [putSet_of es1 t1 hd]; rfl)
   rw [putSet_of es1 t1 hd] at this
   exact this
  refine wpAny_ite_false (show decide ((!false && t1.tooFull) = true) = false by rw [l3]; rfl) ?_
  refine wpAny_pure (wpAny_pure (h _ _ (Heap.SameBut.update s.heap a (Obj.putSet es1 t1)) ?_))
  rw [if_neg hout]
  refine ⟨_, es1, ep + 1, t1.place.toList, hg, hex, ?_, by lia, by rw [hsz1]; exact l4, fun e he => ?_, ?_⟩
  ·show Data.set es1 (ep + 1) t1 = _
   rw [← l1]
  ·rcases List.mem_append.mp (hpm.mem_iff.mp he) with he | he
   ·exact hsm e he
   ·rw [List.mem_singleton] at he
    exact ⟨k, t, hk, he⟩
  ·refine (hpm.map _).trans ?_
   rw [List.map_append]
   exact hperm.append_right _
end
abbrev ledW (w : World) : Bool := !(w.params.followText "set-order")
section
variable {prog : Program} {w : World} {A : Around} {E : Value → Shared → Prop} {s : Shared}
theorem hqv (a : Value) {Q₁ : Value → Shared → Prop}
  (h : Q₁ (.ref s.heap.objs.size) { s with heap := s.heap.push { cls := .type "set", dict := none, data := .set #[] 0 (.fresh 0 0 (ledW w)) } }) :
  codeAny (model prog w) A (.call (.builtin "set.__new__") ⟨[.type "set", a], []⟩) (wants Q₁ E) s := by
 refine codeAny_of_tree ?_
 show wpAny _ A.in1 (checkBuiltinCall "set.__new__" ⟨[.type "set", a], []⟩ >>= fun _ => again (.builtin "set.__new__" ⟨[.type "set", a], []⟩)) _ _ s
 refine wpAny_bind (wpAny_of_eq (F.newCall_set_1 a) (wpAny_pure ⟨plainId_quiet F.plain_set_new _, codeAny_builtin F.entry_set_new ?_⟩))
 rw [Around.under_plainId F.plain_set_new _]
 unfold Builtin.«set.__new__» Builtin.Frozenset.newClass
 have hsub := sub_set_self
 obtain ⟨hp, g, d, tk, os⟩ := s
 dsimp only
 wp_walk
 refine wpAny_askSetting (wpAny_pure ?_)
 dsimp only
 simp only [newObj]
 refine wpAny_bind (wpAny_alloc (wpAny_pure ?_))
 exact wpAny_pure h
end
section
variable {prog : Program} {w : World} {A : Around} {R : Result → Shared → Prop} {h0 : Heap} {d it l : Addr} {items : Array Value} {ns : List Nat}
theorem SetI.same {L : Bool} {h h' : Heap} {a b : Addr} {ks : List Int} (x : SetI L h a ks) (e : h'.get? a = h.get? a) : SetI L h' a ks := by
 obtain ⟨o, es, ep, pl, ho, r⟩ := x
 exact ⟨o, es, ep, pl, by rw [e]; exact ho, r⟩
theorem lqu (hd0 : h0.get? d = none) (hi0 : h0.get? it = none) (hdi : d ≠ it) (hl : h0.IsList l items) (hp : ∀ (i : Nat) (x : Value), items[i]? = some x → ∃ k t, ns[i]? = some k ∧ x = .int (k : Int) t) (hn : items.size = ns.length) (hsz : ns.length < 4) (hs : ∀ k ∈ ns, k < 16) (hh : A.in1.handled = none) :
  ∀ (k i : Nat) (s : Shared), items.size - i = k → i ≤ items.size → (∀ b o, h0.get? b = some o → s.heap.get? b = some o) → s.heap.IsListIter it l i → SetI (ledW w) s.heap d (fstU ((ns.take i).map Int.ofNat)) →
  (∀ (h' : Heap) (n : Nat), (∀ b o, h0.get? b = some o → h'.get? b = some o) → SetI (ledW w) h' d (fstU (ns.map Int.ofNat)) → R (.ok (.ret .none)) { s with heap := h', toks := n }) →
  codeAny (model prog w) A (.builtin "set.update.loop" ⟨[.ref d, .ref it], []⟩) R s := by
 intro k
 induction k with
 | zero =>
  intro i s hk hi sm hit hd hR
  have hin : i = items.size := Nat.le_antisymm hi (by lia)
  obtain ⟨o, ho, r⟩ := hl
  refine codeAny_builtin F.entry_set_update_loop ?_
  rw [Around.under_plainId F.plain_set_update_loop _]
  show wpAny _ A.in1 (pyNext (.ref it) >>= _) _ _ s
  refine wpAny_bind (wpAny_pyNext_list_end hh hit ⟨o, sm _ _ ho, r⟩ (by rw [hin]; simp) fun h' he => ?_)
  rw [hin, hn, List.take_length] at hd
  refine wpAny_pure (hR h' s.toks (fun b o e => he b o (fun z => by rw [z, hi0] at e; cases e) (sm b o e)) ?_)
  obtain ⟨o, es, ep, t, h1, h2⟩ := hd
  exact ⟨o, es, ep, t, he d o hdi h1, h2⟩
 | succ k ih =>
  intro i s hk hi sm hit hd hR
  have hlt : i < items.size := Nat.lt_of_sub_pos (by lia)
  obtain ⟨key, tk, hkv, hx⟩ := hp i items[i] (Array.getElem?_eq_getElem hlt)
  obtain ⟨ol, hol, rl⟩ := id hl
  refine codeAny_builtin F.entry_set_update_loop ?_
  rw [Around.under_plainId F.plain_set_update_loop _]
  show wpAny _ A.in1 (pyNext (.ref it) >>= _) _ _ s
  refine wpAny_bind (wpAny_pyNext_list_item hit ⟨ol, sm _ _ hol, rl⟩ (x := items[i]) (Array.getElem?_eq_getElem hlt) fun h1 hit1 hs1 => ?_)
  have sm1 : ∀ b o, h0.get? b = some o → h1.get? b = some o := fun b o e => by
   rw [hs1.2 b (fun z => by rw [z, hi0] at e; cases e)]
   exact sm b o e
  have hd1 : SetI (ledW w) h1 d (fstU ((ns.take i).map Int.ofNat)) := hd.same (b := d) (hs1.2 d hdi)
  have hml := (dqS _ ((ns.take i).map Int.ofNat) rfl).1
  rw [List.length_map, List.length_take] at hml
  rw [hx]
  refine wpAny_bind (wpAny_holding ?_)
  unfold setAdd
  refine wpAny_holding (wpAny_bind (wpAny_pyHash_int ?_))
  refine mqL (s := { s with heap := h1, toks := _ }) (hs key (List.mem_of_getElem? hkv)) hd1 (by lia) fun b h2 hs2 hd2 => ?_
  have sm2 : ∀ b o, h0.get? b = some o → h2.get? b = some o := fun b o e => by
   rw [hs2.2 b (fun z => by rw [z, hd0] at e; cases e)]
   exact sm1 b o e
  have hit2 : h2.IsListIter it l (i + 1) := by
   obtain ⟨o, e1, e2⟩ := hit1
   exact ⟨o, by rw [hs2.2 it (Ne.symm hdi)]; exact e1, e2⟩
  have et : (ns.take (i + 1)).map Int.ofNat = (ns.take i).map Int.ofNat ++ [Int.ofNat key] := by rw [List.take_add_one, hkv, List.map_append]; rfl
  refine wpAny_pure ⟨plainId_quiet F.plain_set_update_loop _, ?_⟩
  refine ih (i + 1) _ (by lia) (by lia) sm2 hit2 ?_ (fun h' n e1 e2 => hR h' n e1 e2)
  rw [et, eqf]
  exact hd2
end
section
variable {prog : Program} {w : World} {A : Around} {E : Value → Shared → Prop} {s : Shared} {l : Addr} {items : Array Value} {ns : List Nat} {Q : Value → Shared → Prop}
theorem lqs (hl : s.heap.IsList l items) (hp : ∀ (i : Nat) (x : Value), items[i]? = some x → ∃ k t, ns[i]? = some k ∧ x = .int (k : Int) t) (hn : items.size = ns.length) (hsz : ns.length < 4) (hs : ∀ k ∈ ns, k < 16) (hA : A.handled = none)
  (h : ∀ (h' : Heap) (n : Nat), (∀ b o, s.heap.get? b = some o → h'.get? b = some o) → SetI (ledW w) h' s.heap.objs.size (fstU (ns.map Int.ofNat)) → Q (.ref s.heap.objs.size) { s with heap := h', toks := n }) :
  wpAny (model prog w) A (call (.type "set") [.ref l]) Q E s := by
 obtain ⟨c, tl, hmro⟩ := F.called_set.mro
 have hmade := F.called_set.made
 have hsub := F.called_set.sub
 have h1 := F.called_set.notType
 have h2 := F.called_set.canCreate
 refine wpAny_call (codeAny_of_tree (wpAny_pure ⟨Code.quiet_builtin _ (by decide +kernel), codeAny_builtin F.entry_type_call ?_⟩))
 rw [Around.under_plain (weight_type_call_type "set" [.ref l] []) rfl]
 unfold Builtin.«type.__call__»
 refine wpAny_ite_false (by rw [h1]; rfl) ?_
 refine wpAny_ite_false (by rw [h2]; rfl) ?_
 refine wpAny_bind (wpAny_of_eq (F.typeCall_set_1 _) ?_)
 refine wpAny_bind (wpAny_of_eq hmro ?_)
 refine wpAny_ite_false rfl ?_
 refine wpAny_bind (wpAny_of_eq hmade ?_)
 refine wpAny_bind (wpAny_pure ?_)
 show wpAny _ _ (holding [Value.builtin "set.__new__"] (call (Value.builtin "set.__new__") [.type "set", .ref l] []) >>= _) _ _ _
 refine wpAny_bind (wpAny_holding (wpAny_call (codeAny_mono (hqv (E := E) (Q₁ := fun x s₁ => x = .ref s.heap.objs.size ∧ s₁ = { s with heap := s.heap.push { cls := .type "set", data := .set #[] 0 (SetTable.fresh 0 0 (ledW w)) } }) (.ref l) ⟨rfl, rfl⟩) fun r s₁ hr => ?_)))
 cases r with
 | error e => exact hr
 | ok fl =>
  cases fl with
  | next => exact hr
  | brk => exact hr
  | cont => exact hr
  | ret v =>
   obtain ⟨rfl, rfl⟩ := hr
   have ns0 : (s.heap.push { cls := .type "set", data := .set #[] 0 (SetTable.fresh 0 0 (ledW w)) }).get? s.heap.objs.size = some { cls := .type "set", data := .set #[] 0 (SetTable.fresh 0 0 (ledW w)) } := Heap.get?_push_size _ rfl
   have ty : ({ s with heap := s.heap.push { cls := .type "set", data := .set #[] 0 (SetTable.fresh 0 0 (ledW w)) } } : Shared).TypeIs (.ref s.heap.objs.size) "set" := ⟨_, ns0, rfl⟩
   refine wpAny_bind (wpAny_isInstance ty hsub ?_)
   refine wpAny_ite_false rfl ?_
   refine wpAny_bind (wpAny_holding ?_)
   unfold callSpecial?
   refine wpAny_bind (wpAny_specialOf ty F.called_set.init.lookup ?_)
   refine wpAny_holding (wpAny_bind (wpAny_of_eq (F.called_set.init.bind _) ?_))
   refine wpAny_bind (wpAny_call (codeAny_mono (R := wants (fun r s₂ => r = Value.none ∧ Q (.ref s.heap.objs.size) s₂) E) (codeAny_call_builtin F.called_set.init.plain F.entry_set_init (check_set_init_1 ty ?_)) fun r₂ s₂ hr₂ => ?_))
   rotate_left
   ·cases r₂ with
    | error e => exact hr₂
    | ok fl =>
     cases fl with
     | next => exact hr₂
     | brk => exact hr₂
     | cont => exact hr₂
     | ret v =>
      obtain ⟨rfl, hq⟩ := hr₂
      exact wpAny_pure (wpAny_ite_false rfl (wpAny_pure hq))
   have sm0 : ∀ b o, s.heap.get? b = some o → (s.heap.push { cls := .type "set", data := .set #[] 0 (SetTable.fresh 0 0 (ledW w)) }).get? b = some o := fun b o e => Heap.get?_push_of_some _ e
   obtain ⟨ol, hol, rl⟩ := id hl
   have hl1 : (s.heap.push { cls := .type "set", data := .set #[] 0 (SetTable.fresh 0 0 (ledW w)) }).IsList l items := ⟨ol, sm0 _ _ hol, rl⟩
   have tl1 : ({ s with heap := s.heap.push { cls := .type "set", data := .set #[] 0 (SetTable.fresh 0 0 (ledW w)) } } : Shared).TypeIs (.ref l) "list" := ⟨ol, sm0 _ _ hol, rl.1⟩
   have hsub1 := F.sub_list_set
   have hsub2 := F.sub_list_frozenset
   generalize hG : s.heap.push { cls := .type "set", data := .set #[] 0 (SetTable.fresh 0 0 (ledW w)) } = G at ns0 ty sm0 hl1 tl1 ⊢
   unfold Builtin.«set.__init__»
   wp_walk using wpAny_pyIter_list hl1
   have out : ∀ b, s.heap.objs.size ≤ b → s.heap.get? b = none := fun b hb => by
    cases e : s.heap.get? b with
    | none => rfl
    | some o => exact absurd (Heap.lt_size e) (Nat.not_lt.mpr hb)
   have hlt : s.heap.objs.size < G.objs.size := Heap.lt_size ns0
   have hs0 : SetI (ledW w) (G.push { cls := .type "list_iterator", data := .fields #[.ref l, .int 0 0] }) s.heap.objs.size (fstU ((ns.take 0).map Int.ofNat)) :=
    ⟨_, #[], 0, [], Heap.get?_push_of_some _ ns0, ⟨rfl, rfl, rfl⟩, rfl, by decide, by decide, (fun e he => by cases he), List.Perm.refl _⟩
   exact lqu (A := A.in1.in1) (h0 := s.heap) (out _ (Nat.le_refl _)) (out _ (Nat.le_of_lt hlt)) (Nat.ne_of_lt hlt) hl hp hn hsz hs hA items.size 0
    { s with heap := G.push { cls := .type "list_iterator", data := .fields #[.ref l, .int 0 0] } } rfl (Nat.zero_le _) (fun b o e => Heap.get?_push_of_some _ (sm0 b o e)) ⟨_, Heap.get?_push_size _ rfl, rfl, rfl⟩ hs0 (fun h' n e1 e2 => wpAny_pure (wpAny_pure ⟨rfl, h h' n e1 e2⟩))
end
section
theorem gqI {α : Type} : ∀ {l : List α} {i : Nat} (h : i < l.length), (l[i] :: l.eraseIdx i).Perm l
 | [], _, h => absurd h (Nat.not_lt_zero _)
 | _ :: _, 0, _ => List.Perm.refl _
 | a :: l, i + 1, h => (List.Perm.swap a _ _).trans (List.Perm.cons a (gqI (l := l) (i := i) (Nat.lt_of_succ_lt_succ h)))
theorem lqZ {α : Type} (next : Nat → Nat) : ∀ (n k : Nat) (left : List α) (out : Array α), left.length = n → (pickOrder.go next n k left out).toList.Perm (out.toList ++ left)
 | 0, k, left, out, h => by rw [List.length_eq_zero_iff.mp h, List.append_nil]; exact List.Perm.refl _
 | n + 1, k, left, out, h => by
  have hlt : next k % left.length < left.length := Nat.mod_lt _ (by lia)
  unfold pickOrder.go
  rw [List.getElem?_eq_getElem hlt]
  refine (lqZ next n (k + 1) _ _ (by rw [List.length_eraseIdx, if_pos hlt]; lia)).trans ?_
  rw [Array.toList_push, List.append_assoc]
  exact List.Perm.append_left _ (gqI hlt)
theorem lqx {α : Type} (next : Nat → Nat) (xs : Array α) : (pickOrder next xs).toList.Perm xs.toList := by
 have := lqZ next xs.size 0 xs.toList #[] Array.length_toList
 exact this
end
def ordI (w : World) (S : Addr) (ep : Nat) (es : Array (Int × Value)) : Array (Int × Value) := if w.params.followText "set-order" then pickOrder (w.params.setOrder S ep) es else es
theorem dqj {w : World} {S : Addr} {ep : Nat} {es : Array (Int × Value)} : (ordI w S ep es).toList.Perm es.toList := by
 unfold ordI
 split
 ·exact lqx _ _
 ·exact List.Perm.refl _
def slW (w : World) (pl : List Nat) (i : Nat) : Nat := if w.params.followText "set-order" then 0 else slotI pl i
structure SetA (w : World) (h : Heap) (S : Addr) (es : Array (Int × Value)) (ep : Nat) (pl : List Nat) : Prop where
 at_ : ∃ o, h.get? S = some o ∧ o.ExactSet ∧ o.data = .set es ep (tbI (ledW w) pl)
 lt : es.size < 4
 pl : pl ∈ plN es.size
section
variable {prog : Program} {w : World} {A : Around} {E : Value → Shared → Prop} {s : Shared} {S : Addr} {es : Array (Int × Value)} {ep : Nat} {pl : List Nat}
theorem gq1 {i : Nat} {Q : Option (Value × Nat) → Shared → Prop} (h : SetA w s.heap S es ep pl) (hi : i ≤ es.size)
  (hQ : Q ((ordI w S ep es)[i]?.map fun e => (e.2, slW w pl (i + 1))) s) : wpAny (model prog w) A (setNext S (slW w pl i) i ep) Q E s := by
 obtain ⟨⟨o, ho, hex, hd⟩, h4, hpl⟩ := h
 have hf : (tbI (ledW w) pl).fits es.size = true := hqE h4 hpl
 unfold setNext
 refine wpAny_bind (wpAny_setState_of ho hd hf ?_)
 dsimp only
 unfold setsByText
 refine wpAny_bind (wpAny_bind (wpAny_askSetting (wpAny_pure ?_)))
 unfold ordI slW at hQ
 unfold slW
 cases hb : w.params.followText "set-order" with
 | true =>
  rw [hb] at hQ
  refine wpAny_ite_true (by exact decide_eq_true hb) ?_
  rw [if_neg (by simp)]
  unfold setWalk
  refine wpAny_bind (wpAny_bind (wpAny_setState_of ho hd hf ?_))
  dsimp only
  unfold setsByText
  refine wpAny_bind (wpAny_bind (wpAny_askSetting (wpAny_pure ?_)))
  refine wpAny_ite_true (by exact decide_eq_true hb) ?_
  refine wpAny_bind (wpAny_askSetting (wpAny_pure (wpAny_pure ?_)))
  exact hQ
 | false =>
  rw [hb] at hQ
  have eL : ledW w = true := by show (!w.params.followText "set-order") = true; rw [hb]; rfl
  rw [eL] at hd ⊢
  refine wpAny_ite_false (by exact decide_eq_false (by show ¬ w.params.followText "set-order" = true; rw [hb]; decide)) ?_
  refine wpAny_ite_false rfl ?_
  refine wpAny_bind (wpAny_of_eq (a := ()) rfl ?_)
  obtain ⟨e1, e2, _⟩ := lqQ es.size h4 pl hpl i (Nat.lt_succ_of_le hi)
  refine wpAny_pure ?_
  show Q (match es[SetTable.below pl.toArray (slotI pl i)]?, pl.toArray[SetTable.below pl.toArray (slotI pl i)]? with | some (_, x), some j => some (x, j + 1) | _, _ => none) s
  rw [e1]
  have hQ : Q (es[i]?.map fun e => (e.2, slotI pl (i + 1))) s := hQ
  rcases Nat.lt_or_ge i es.size with hlt | hge
  ·rw [Array.getElem?_eq_getElem hlt] at hQ ⊢
   have hp : pl[i]? = some (pl[i]'(by lia)) := List.getElem?_eq_getElem (by lia)
   have e3 : slotI pl (i + 1) = pl[i]'(by lia) + 1 := by show (pl[i]?.getD 0) + 1 = _; rw [hp]; rfl
   rw [e3] at hQ
   rw [List.getElem?_toArray, hp]
   exact hQ
  ·rw [Array.getElem?_eq_none hge] at hQ ⊢
   exact hQ
end
set_option maxRecDepth 100000
namespace F
theorem cqg : Manifest.owners.lookup (String.ofList ['r', 'o', 't', 'a', 'r', 'e', 't', 'i', '_', 't', 'e', 's'].reverse) = some Manifest.sig_set_iterator := by kernel_rfl
theorem slot_set_iterator_next : Slot "set_iterator" "__next__" "set_iterator.__next__" :=
 .of (owner := "set_iterator") (n := "__next__") (by rw [typeLookup_type, builtinLookup_eq_fast]; kernel_rfl) (by decide +kernel) (by decide +kernel) (by decide +kernel)
  (by first | exact .inl (by decide +kernel) | exact .inr (by decide +kernel)) (by rw [isSubtype_type]; kernel_rfl)
theorem entry_set_iterator_next : entryFor table "set_iterator.__next__" = some Builtin.«set_iterator.__next__» := entryFor_of_tree (by kernel_rfl)
theorem args_set_iterator_next_1 (a : Value) : argsOk "set_iterator.__next__" ⟨[a], []⟩ := by
 unfold argsOk; rw [signature?_of (id := "set_iterator.__next__") (n := ['_', '_', 't', 'x', 'e', 'n', '_', '_']) (o := ['r', 'o', 't', 'a', 'r', 'e', 't', 'i', '_', 't', 'e', 's']) (by kernel_rfl) cqg]; kernel_rfl
theorem entry_set_iterS : entryFor table "set.__iter__" = some Builtin.«frozenset.__iter__» :=
 entryFor_alias (id' := "frozenset.__iter__") (by kernel_rfl) rfl (by decide +kernel) (by kernel_rfl)
end F
def IsSetIt (h : Heap) (it S : Addr) (sl i n ep : Nat) : Prop :=
 ∃ o, h.get? it = some o ∧ o.cls = .type "set_iterator" ∧ o.data = .fields #[.int (sl : Int) 0, .int (i : Int) 0, .ref S, .int (n : Int) 0, .int (ep : Int) 0]
theorem IsSetIt.typeIs {s : Shared} {it S : Addr} {sl i n ep : Nat} (x : IsSetIt s.heap it S sl i n ep) : s.TypeIs (.ref it) "set_iterator" := let ⟨o, ho, hc, _⟩ := x; ⟨o, ho, hc⟩
section
variable {prog : Program} {w : World} {A : Around} {E : Value → Shared → Prop} {s : Shared} {S it : Addr} {es : Array (Int × Value)} {ep : Nat} {pl : List Nat}
theorem SetA.entries {Q : Array (Int × Value) → Shared → Prop} (h : SetA w s.heap S es ep pl) (hQ : Q es s) : wpAny (model prog w) A (setEntries S) Q E s := by
 obtain ⟨⟨o, ho, hex, hd⟩, h4, hpl⟩ := h
 exact wpAny_setEntries_of ho hd (hqE h4 hpl) hQ
theorem jq6 {Q : Value → Shared → Prop} (h : SetA w s.heap S es ep pl)
  (hQ : Q (.ref s.heap.objs.size) { s with heap := s.heap.push { cls := .type "set_iterator", data := .fields #[.int 0 0, .int 0 0, .ref S, .int es.size 0, .int ep 0] } }) :
  wpAny (model prog w) A (pyIter (.ref S)) Q E s := by
 obtain ⟨⟨o, ho, hex, hd⟩, h4, hpl⟩ := id h
 have hf : (tbI (ledW w) pl).fits es.size = true := hqE h4 hpl
 have hT : s.TypeIs (.ref S) "set" := ⟨o, ho, hex.1⟩
 refine wpAny_pyIter_slot hT F.slot_set_iter (wpAny_call_entry F.slot_set_iter hT F.entry_set_iterS ?_ (F.args_set_iter_1 _))
 unfold Builtin.«frozenset.__iter__»
 unfold Builtin.Frozenset.slot0 slotArgs
 refine wpAny_bind (wpAny_of_eq (a := S) rfl ?_)
 unfold Builtin.Frozenset.sizeOf
 refine wpAny_bind (wpAny_bind (h.entries (wpAny_pure ?_)))
 unfold setDrawn
 refine wpAny_bind (wpAny_bind (wpAny_setState_of ho hd hf ?_))
 dsimp only
 unfold setsByText
 refine wpAny_bind (wpAny_bind (wpAny_askSetting (wpAny_pure ?_)))
 refine wpAny_pure ?_
 refine wpAny_ite_false (by exact decide_eq_false (fun z => by
  have z : (!(w.params.followText "set-order") && (false && decide (es.size > 1))) = true := z
  rw [Bool.false_and, Bool.and_false] at z
  cases z)) ?_
 refine wpAny_bind (wpAny_pure ?_)
 unfold setEpoch
 refine wpAny_bind (wpAny_bind (wpAny_setState_of ho hd hf (wpAny_pure ?_)))
 unfold newFields
 refine wpAny_bind (wpAny_newObj_type ?_)
 exact wpAny_pure ⟨_, rfl, "set_iterator", _, ⟨_, Heap.get?_push_size _ rfl, rfl⟩, F.slot_set_iterator_next.lookup, hQ⟩
theorem hqC {i : Nat} {e : Int × Value} {Q : Option Value → Shared → Prop} (hit : IsSetIt s.heap it S (slW w pl i) i es.size ep) (h : SetA w s.heap S es ep pl) (hx : (ordI w S ep es)[i]? = some e)
  (hQ : ∀ h', IsSetIt h' it S (slW w pl (i + 1)) (i + 1) es.size ep → Heap.SameBut it s.heap h' → Q (some e.2) { s with heap := h' }) :
  wpAny (model prog w) A (pyNext (.ref it)) Q E s := by
 obtain ⟨o, ho, hc, hd⟩ := id hit
 have hle : i ≤ es.size := by
  have h1 := (Array.getElem?_eq_some_iff.mp hx).1
  have h2 := (dqj (w := w) (S := S) (ep := ep) (es := es)).length_eq
  rw [Array.length_toList, Array.length_toList] at h2
  lia
 unfold pyNext
 refine wpAny_bind (wpAny_attempt (wpAny_callSpecial?_slot (name := Str.ofString "__next__") hit.typeIs F.slot_set_iterator_next
  (wpAny_call_entry F.slot_set_iterator_next hit.typeIs F.entry_set_iterator_next ?_ (F.args_set_iterator_next_1 _))))
 unfold Builtin.«set_iterator.__next__»
 refine wpAny_bind (wpAny_pure ?_)
 refine wpAny_bind (wpAny_fieldsOf ho hd ?_)
 show wpAny _ _ (setEntries S >>= _) _ _ s
 refine wpAny_bind (h.entries ?_)
 refine wpAny_ite_false (by simp) ?_
 show wpAny _ _ (setNext S (Int.toNat (slW w pl i : Int)) (Int.toNat (i : Int)) (Int.toNat (ep : Int)) >>= _) _ _ s
 rw [Int.toNat_natCast, Int.toNat_natCast, Int.toNat_natCast]
 refine wpAny_bind (gq1 h hle ?_)
 rw [hx]
 show wpAny _ _ (setField (.ref it) 0 (rawInt (slW w pl (i + 1) : Int)) >>= _) _ _ s
 refine wpAny_bind (wpAny_setField ho hd (by simp) ?_)
 have ho1 := Heap.get?_update_self (Obj.mapFields (·.setIfInBounds 0 (rawInt (slW w pl (i + 1) : Int)))) ho (Obj.isFreed_of_fields (Obj.data_mapFields hd _))
 show wpAny _ _ (setField (.ref it) 1 (rawInt ((i : Int) + 1)) >>= _) _ _ _
 refine wpAny_bind (wpAny_setField ho1 (Obj.data_mapFields hd _) (by simp) ?_)
 refine wpAny_pure ⟨_, rfl, wpAny_pure (hQ _ ⟨_, Heap.get?_update_self _ ho1 (Obj.isFreed_of_fields (Obj.data_mapFields (Obj.data_mapFields hd _) _)), (Obj.cls_mapFields ..).trans ((Obj.cls_mapFields ..).trans hc), ?_⟩ ?_)⟩
 ·rw [Obj.data_mapFields (Obj.data_mapFields hd _)]; simp [rawInt]
 ·exact (Heap.SameBut.update ..).trans (Heap.SameBut.update ..)
theorem iqQ {Q : Option Value → Shared → Prop} (hh : A.handled = none) (hit : IsSetIt s.heap it S (slW w pl es.size) es.size es.size ep) (h : SetA w s.heap S es ep pl)
  (hQ : ∀ h', Heap.ExtBut it s.heap h' → Q none { s with heap := h' }) :
  wpAny (model prog w) A (pyNext (.ref it)) Q E s := by
 obtain ⟨o, ho, hc, hd⟩ := id hit
 have hx : (ordI w S ep es)[es.size]? = none := Array.getElem?_eq_none (by
  have h2 := (dqj (w := w) (S := S) (ep := ep) (es := es)).length_eq
  rw [Array.length_toList, Array.length_toList] at h2
  lia)
 unfold pyNext
 refine wpAny_bind (wpAny_attempt (wpAny_callSpecial?_slot (name := Str.ofString "__next__") hit.typeIs F.slot_set_iterator_next
  (wpAny_call_entry F.slot_set_iterator_next hit.typeIs F.entry_set_iterator_next ?_ (F.args_set_iterator_next_1 _))))
 unfold Builtin.«set_iterator.__next__»
 refine wpAny_bind (wpAny_pure ?_)
 refine wpAny_bind (wpAny_fieldsOf ho hd ?_)
 show wpAny _ _ (setEntries S >>= _) _ _ s
 refine wpAny_bind (h.entries ?_)
 refine wpAny_ite_false (by simp) ?_
 show wpAny _ _ (setNext S (Int.toNat (slW w pl es.size : Int)) (Int.toNat (es.size : Int)) (Int.toNat (ep : Int)) >>= _) _ _ s
 rw [Int.toNat_natCast, Int.toNat_natCast, Int.toNat_natCast]
 refine wpAny_bind (gq1 h (Nat.le_refl _) ?_)
 rw [hx]
 show wpAny _ _ (setField (.ref it) 2 .none >>= _) _ _ s
 refine wpAny_bind (wpAny_setField ho hd (by simp) ?_)
 show wpAny _ _ (newExc (.type "StopIteration") [] >>= _) _ _ _
 refine wpAny_bind ?_
 simp only [newExc, newTuple]
 refine wpAny_bind (wpAny_newObj_type ?_ (by size_fits))
 refine wpAny_bind (m := firstArgMember _ _) (wpAny_of_eq (a := Value.none) (by first | rfl | (simp only [firstArgMember]; rfl)) ?_)
 refine wpAny_newObj_type ?_ (by size_fits)
 simp only [raiseNew]
 refine wpAny_bind (wpAny_handled ?_)
 rw [show A.in1.handled = none from hh]
 refine wpAny_bind (wpAny_pure (wpAny_throw ?_))
 refine wpAny_bind (wpAny_isInstance (T := "StopIteration") (b := true) ⟨_, Heap.get?_push_size _ rfl, rfl⟩ isSubtype_stop ?_)
 exact wpAny_pure (hQ _ (((Heap.SameBut.update ..).extBut.push _).push _))
end
end PySem
namespace PySem
open PyProof.Rows
set_option maxRecDepth 100000
namespace F
theorem slot_set_iterator_iter : Slot "set_iterator" "__iter__" "set_iterator.__iter__" :=
 .of (owner := "set_iterator") (n := "__iter__") (by rw [typeLookup_type, builtinLookup_eq_fast]; kernel_rfl) (by decide +kernel) (by decide +kernel) (by decide +kernel)
  (by first | exact .inl (by decide +kernel) | exact .inr (by decide +kernel)) (by rw [isSubtype_type]; kernel_rfl)
theorem entry_set_iterator_iter : entryFor table "set_iterator.__iter__" = some Builtin.«dict_keyiterator.__iter__» :=
 entryFor_alias (id' := "dict_keyiterator.__iter__") (by kernel_rfl) rfl (by decide +kernel) (by kernel_rfl)
theorem args_set_iterator_iter_1 (a : Value) : argsOk "set_iterator.__iter__" ⟨[a], []⟩ := by
 unfold argsOk; rw [signature?_of (id := "set_iterator.__iter__") (n := ['_', '_', 'r', 'e', 't', 'i', '_', '_']) (o := ['r', 'o', 't', 'a', 'r', 'e', 't', 'i', '_', 't', 'e', 's']) (by kernel_rfl) cqg]; kernel_rfl
end F
theorem SetA.at {w : World} {h h' : Heap} {S : Addr} {es : Array (Int × Value)} {ep : Nat} {pl : List Nat} (x : SetA w h S es ep pl) (e : ∀ o, h.get? S = some o → h'.get? S = some o) : SetA w h' S es ep pl := by
 obtain ⟨⟨o, ho, r⟩, h4, hpl⟩ := x
 exact ⟨⟨o, e _ ho, r⟩, h4, hpl⟩
theorem IsSetIt.at {h h' : Heap} {it S : Addr} {sl i n ep : Nat} (x : IsSetIt h it S sl i n ep) (e : ∀ o, h.get? it = some o → h'.get? it = some o) : IsSetIt h' it S sl i n ep := let ⟨o, ho, r⟩ := x; ⟨o, e _ ho, r⟩
section
variable {prog : Program} {w : World} {A : Around} {E : Value → Shared → Prop} {s : Shared} {S I : Addr} {es : Array (Int × Value)} {ep : Nat} {pl : List Nat}
theorem kqm (hh : A.handled = none) (hne : S ≠ I) :
  Walks prog w A I [I, S] [I] es.size (fun i v => ∃ e, (ordI w S ep es)[i]? = some e ∧ v = e.2) (fun i h => IsSetIt h I S (slW w pl i) i es.size ep ∧ SetA w h S es ep pl) where
 sub := fun b hb => by simp at hb; simp [hb]
 frame := fun _ _ _ st hk => ⟨st.1.at fun o e => hk I (by simp) o e, st.2.at fun o e => hk S (by simp) o e⟩
 item := fun i s Q E hi st hQ => by
  have h2 := (dqj (w := w) (S := S) (ep := ep) (es := es)).length_eq
  rw [Array.length_toList, Array.length_toList] at h2
  have hx : (ordI w S ep es)[i]? = some ((ordI w S ep es)[i]'(by lia)) := Array.getElem?_eq_getElem (by lia)
  refine hqC st.1 st.2 hx fun h' hit' hs' => ?_
  exact hQ _ h' s.toks ⟨_, hx, rfl⟩ ⟨hit', st.2.at fun o e => hs'.extBut S o hne e⟩ fun b o hb e => hs'.extBut b o (fun h => hb (by simp [h])) e
 done := fun s Q E st hQ => iqQ hh st.1 st.2 fun h' he' => hQ h' s.toks fun b o hb e => he' b o (fun h => hb (by simp [h])) e
 self := fun _ s _ _ st hQ => by
  refine wpAny_pyIter_slot st.1.typeIs F.slot_set_iterator_iter (wpAny_call_entry F.slot_set_iterator_iter st.1.typeIs F.entry_set_iterator_iter ?_ (F.args_set_iterator_iter_1 _))
  show wpAny _ _ (ret (.ref I)) _ _ s
  exact wpAny_pure ⟨_, rfl, "set_iterator", _, st.1.typeIs, F.slot_set_iterator_next.lookup, hQ⟩
theorem jqz {Q : List Value → Shared → Prop} (hh : A.handled = none) (h : SetA w s.heap S es ep pl)
  (hQ : ∀ (s' : Shared) (acc : Array Value), (∀ b o, s.heap.get? b = some o → s'.heap.get? b = some o) → s'.gens = s.gens → s'.drawn = s.drawn → s'.os = s.os → s.heap.objs.size < s'.heap.objs.size → acc.toList = (ordI w S ep es).toList.map (·.2) → Q acc.toList s') :
  wpAny (model prog w) A (collect (.ref S)) Q E s := by
 obtain ⟨⟨o, ho, hex, hd⟩, h4, hpl⟩ := id h
 have hSS : s.heap.objs.size ≠ S := fun e => absurd (Heap.lt_size ho) (by rw [e]; exact Nat.lt_irrefl _)
 unfold collect
 refine wpAny_bind (wpAny_runValue (codeAny_builtin F.entry_proto_collect ?_))
 rw [Around.under_plainId F.plain_proto_collect _]
 show wpAny _ A.in1 (newList [] >>= fun l => again (.builtin "list.__iadd__" ⟨[l, .ref S], []⟩)) _ _ s
 refine wpAny_bind (wpAny_newObj_type ?_)
 refine wpAny_pure ⟨plainId_quiet F.plain_list_iadd _, codeAny_builtin F.entry_list_iadd ?_⟩
 rw [Around.under_plainId F.plain_list_iadd _]
 show wpAny _ A.in1 (Builtin.List.listExtendWith (.ref s.heap.objs.size) (.ref S) (.ref s.heap.objs.size)) _ _ _
 unfold Builtin.List.listExtendWith
 generalize hH : s.heap.push { cls := .type "list", data := .seq ([] : List Value).toArray } = H
 have hS1 : H.get? s.heap.objs.size = some { cls := .type "list", data := .seq ([] : List Value).toArray } := hH ▸ Heap.get?_push_size _ rfl
 have sm : ∀ b o, s.heap.get? b = some o → H.get? b = some o := fun b o e => hH ▸ Heap.get?_push_of_some _ e
 have h1 : SetA w H S es ep pl := h.at fun o e => sm _ _ e
 have hT : ({ s with heap := H } : Shared).TypeIs (.ref S) "set" := ⟨o, sm _ _ ho, hex.1⟩
 refine wpAny_bind (wpAny_typeOf hT ?_)
 have e1 : Builtin.List.listSameRef (.ref s.heap.objs.size) (.ref S) = false := by simp [Builtin.List.listSameRef, hSS]
 have e2 : (Value.type "set" == Value.type "list") = false := by decide
 have e3 : (Value.type "set" == Value.type "tuple") = false := by decide
 simp only [e1, e2, e3, Bool.or_false, Bool.false_eq_true, if_false]
 refine wpAny_bind (jq6 (s := { s with heap := H }) h1 ?_)
 refine wpAny_bind (wpAny_holding ?_)
 generalize hG : H.push { cls := .type "set_iterator", data := .fields #[.int 0 0, .int 0 0, .ref S, .int es.size 0, .int ep 0] } = G
 have hT2 : ({ s with heap := G } : Shared).TypeIs (.ref S) "set" := ⟨o, hG ▸ Heap.get?_push_of_some _ (sm _ _ ho), hex.1⟩
 unfold Builtin.List.listLengthHint
 refine wpAny_bind (wpAny_specialOf hT2 F.slot_set_len.lookup ?_)
 wp_delta
 refine wpAny_bind (wpAny_isInstance hT2 (b := true) (by rw [isSubtype_type]; kernel_rfl) ?_)
 show wpAny _ A.in1 (typeOf (Value.ref S) >>= _) _ _ _
 refine wpAny_bind (wpAny_typeOf hT2 ?_)
 refine wpAny_pure ?_
 refine wpAny_ite_true (by decide) ?_
 refine wpAny_bind (wpAny_rule ?_)
 have hI : H.objs.size ≠ s.heap.objs.size := fun e => by
  have := Heap.lt_size hS1
  rw [e] at this
  exact Nat.lt_irrefl _ this
 have hHs : H.objs.size = s.heap.objs.size + 1 := by rw [← hH, Heap.size_push]
 have hSI : S ≠ H.objs.size := fun e => absurd (Heap.lt_size (sm _ _ ho)) (by rw [e]; exact Nat.lt_irrefl _)
 have W := (kqm (prog := prog) (w := w) (A := A.in1) (es := es) (ep := ep) (pl := pl) hh hSI).toS
 have hSf : s.heap.objs.size ∉ [H.objs.size, S] := fun hm => by
  rcases List.mem_cons.mp hm with e | e
  ·exact hI e.symm
  ·exact hSS (List.mem_singleton.mp e)
 have hS2 : G.get? s.heap.objs.size = some { cls := .type "list", data := .seq ([] : List Value).toArray } := hG ▸ Heap.get?_push_of_some _ hS1
 refine wpAny_bind ?_
 show wpAny _ A.in1 (updateSeq s.heap.objs.size (·.push .none) >>= fun _ => updateSeq s.heap.objs.size (·.pop)) _ _ _
 refine wpAny_bind (wpAny_updateSeq hS2 rfl ?_)
 have hS3 := Heap.get?_update_self (Obj.mapSeq (·.push Value.none)) hS2 rfl
 refine wpAny_updateSeq hS3 rfl ?_
 have hS4 := Heap.get?_update_self (Obj.mapSeq (·.pop)) hS3 rfl
 have oth : ∀ b o, b ≠ s.heap.objs.size → G.get? b = some o → ((G.update s.heap.objs.size (Obj.mapSeq (·.push Value.none))).update s.heap.objs.size (Obj.mapSeq (·.pop))).get? b = some o :=
  fun b o hb e => (Heap.get?_update_other _ _ (Ne.symm hb)).trans ((Heap.get?_update_other _ _ (Ne.symm hb)).trans e)
 have hit : G.get? H.objs.size = some { cls := .type "set_iterator", data := .fields #[.int 0 0, .int 0 0, .ref S, .int es.size 0, .int ep 0] } := hG ▸ Heap.get?_push_size _ rfl
 have sl0 : slW w pl 0 = 0 := by unfold slW; split <;> rfl
 refine wpAny_pure ⟨plainId_quiet F.plain_extend_loop _, codeAny_extend_loopS W (Nat.le_trans (Nat.le_of_lt h4) (by decide)) _ hSf _ es.size 0 _ _ _ rfl (Nat.zero_le _)
  ⟨⟨_, oth _ _ hI hit, rfl, by rw [sl0]; rfl⟩, h1.at fun o e => oth _ _ (Ne.symm hSS) (hG ▸ Heap.get?_push_of_some _ e)⟩ hS4 (ItemsOf.nil _) fun s' acc' c' hm hS' hacc => ?_⟩
 show wpAny _ A (load s.heap.objs.size >>= _) _ _ s'
 refine wpAny_bind (wpAny_load hS' ?_)
 refine wpAny_pure (hQ s' acc' (fun b ob e => hm.heap b ob (fun hb => ?_) (oth b ob ?_ (hG ▸ Heap.get?_push_of_some _ (sm _ _ e)))) hm.gens hm.drawn hm.os (Heap.lt_size hS') ?_)
 ·have hlt := Heap.lt_size e
  rcases List.mem_cons.mp hb with z | z
  ·rw [z] at hlt; exact Nat.lt_irrefl _ hlt
  ·rw [List.mem_singleton.mp z, hHs] at hlt
   exact absurd hlt (Nat.not_lt.mpr (Nat.le_succ _))
 ·intro z
  have hlt := Heap.lt_size e
  rw [z] at hlt
  exact Nat.lt_irrefl _ hlt
 ·have h2 := (dqj (w := w) (S := S) (ep := ep) (es := es)).length_eq
  rw [Array.length_toList, Array.length_toList] at h2
  refine List.ext_getElem? fun i => ?_
  rw [Array.getElem?_toList, List.getElem?_map, Array.getElem?_toList]
  rcases Nat.lt_or_ge i es.size with hlt | hge
  ·have hlt' : i < acc'.size := by rw [hacc.1]; exact hlt
   obtain ⟨e, he, hv⟩ := hacc.2 i _ (Array.getElem?_eq_getElem hlt')
   rw [Array.getElem?_eq_getElem hlt', he, hv]
   rfl
  ·rw [Array.getElem?_eq_none (by rw [hacc.1]; exact hge), Array.getElem?_eq_none (by lia)]
   rfl
theorem gq3 : ∀ {l : List (Int × Value)}, (∀ e ∈ l, ∃ (k : Nat) (t : Tok), k < 16 ∧ e = ((k : Int), .int (k : Int) t)) → IntsAre (l.map (·.2)) (l.map (·.1))
 | [], _ => .nil
 | e :: l, h => by
  obtain ⟨k, t, _, rfl⟩ := h e (List.mem_cons_self)
  exact .cons _ _ (gq3 fun x hx => h x (List.mem_cons_of_mem _ hx))
theorem iq2 {ks : List Int} {Q : Value → Shared → Prop} (hh : A.handled = none) (h : SetI (ledW w) s.heap S ks)
  (hQ : ∀ (s' : Shared) (p : Addr) (out : Array Value) (n : Nat) (ks' : List Int), (∀ b o, s.heap.get? b = some o → s'.heap.get? b = some o) → s'.gens = s.gens → s'.drawn = s.drawn → s'.os = s.os → s.heap.objs.size ≤ p → s'.heap.get? p = some (seqObj "list" out n) →
   IntsAre out.toList ks' → ks'.Perm ks → ks'.Pairwise (· ≤ ·) → Q (.ref p) s') :
  wpAny (model prog w) A (call (.builtin "sorted") [.ref S]) Q E s := by
 obtain ⟨o, es, ep, pl, ho, hex, hd, h4, hpl, hsm, hperm⟩ := h
 refine Calls.call_function_entry kind_sorted plain_sorted entry_sorted (args_sorted1 _) ?_
 unfold Builtin.«sorted»
 refine wpAny_bind (m := checkCount "sorted" 1 1 _) (wpAny_pure ?_)
 refine wpAny_bind (jqz (A := A.in1) hh ⟨⟨o, ho, hex, hd⟩, h4, hpl⟩ fun s1 acc k1 k2 k3 k4 k5 eacc => ?_)
 have hp2 := dqj (w := w) (S := S) (ep := ep) (es := es)
 have hI : IntsAre acc.toList ((ordI w S ep es).toList.map (·.1)) := by rw [eacc]; exact gq3 fun e he => hsm e (hp2.mem_iff.mp he)
 have hlen : acc.toList.length < 64 := by
  rw [eacc, List.length_map, hp2.length_eq, Array.length_toList]
  lia
 refine wpAny_bind (wpAny_newList ?_ (Nat.le_trans (Nat.le_of_lt hlen) (by decide)))
 have hoL : (s1.heap.push (seqObj "list" acc.toList.toArray 0)).get? s1.heap.objs.size = some (seqObj "list" acc.toList.toArray 0) := Heap.get?_push_size _ rfl
 refine wpAny_bind (wpAny_holding (wpAny_call_entry slot_list_sort ⟨_, hoL, rfl⟩ entry_list_sort (list_sort_tree hoL hI hlen fun out ns' a1 a2 a3 => ⟨_, rfl, ?_⟩) (args_list_sort _)))
 obtain ⟨e, he⟩ := sortedHeap_at (out := out) hoL
 refine wpAny_pure ⟨_, rfl, hQ _ s1.heap.objs.size out e ns' (fun b ob q => ?_) k2 k3 k4 (Nat.le_of_lt k5) he a1 (a2.trans ((hp2.map _).trans hperm)) a3⟩
 have q1 := k1 b ob q
 have hlt := Heap.lt_size q1
 rw [sortedHeap_old (Nat.ne_of_lt hlt) (by rw [size_push']; exact Nat.lt_succ_of_lt hlt)]
 exact Heap.get?_push_of_some _ q1
end
end PySem
namespace L2
open PySem PySem.Spec PyProof.Rows
def Itw (K : PySem.W.Frag) (a : Addr) (n : Nat) : It :=
 ⟨fun i H => ∃ xs x, SqL K H a xs ∧ xs.length = n ∧ i < n ∧ xs[n - 1 - i]? = some x, fun i H x H' => H' = H ∧ ∀ xs, SqL K H a xs → xs.length = n → xs[n - 1 - i]? = some x, fun i _ => n ≤ i⟩
theorem nqi {P : Program} {w : World} {K : PySem.W.Frag} {tg : Expr} (a it : Addr) (n : Nat) : Turn P w K tg (Itw K a n) [it] it (fun i h => i ≤ n ∧ h.IsRevIter it a ((n : Int) - 1 - (i : Int))) where
 mem := by simp
 obj := fun i h st b hb => by
  have e : b = it := by simpa using hb
  subst e
  obtain ⟨_, o, e, c, d⟩ := st
  exact ⟨o, e, fun v z => by rw [d] at z; cases z⟩
 keep := fun i h h' st k => by
  obtain ⟨hi, o, e, r⟩ := st
  exact ⟨hi, o, k it (by simp) o e, r⟩
 item := by
  intro X hP hw hK hc i pins s σ H E I hf st hg
  subst hP hw hK
  obtain ⟨xs, x, hq, hn, hi, hx⟩ := hg
  obtain ⟨its, rv, p, hz⟩ := I.list hq
  obtain ⟨u, hu, ru⟩ := rv.get hx
  obtain ⟨f0, f1, f2, f3, f4, f5⟩ := hf it (by simp)
  have hl := rv.length
  have e1 : (n : Int) - 1 - (i : Int) = ((n - 1 - i : Nat) : Int) := by lia
  have hit := st.2
  rw [e1] at hit
  refine wpAny_pyNext_rev_item hit p.isList (x := u) (by simpa using hu) fun h' st' sb => ?_
  have I1 : Inv X pins σ H { s with heap := h' } := I.turned (t' := s.toks) (fun b o hb e => (sb.2 b hb).trans e) f0 f1 f3 f4 f5
  have e2 : ((n - 1 - i : Nat) : Int) - 1 = (n : Int) - 1 - ((i + 1 : Nat) : Int) := by lia
  rw [e2] at st'
  obtain ⟨o, e, c, d⟩ := id st'
  exact ⟨u, rfl, kqv (s := { s with heap := h' }) e c d (by decide) ⟨x, H, I1, ru, ⟨rfl, fun ys hy hn' => by rw [I.list_inj hy hq]; exact hx⟩, ⟨hi, st'⟩, fun b hb => (hf b hb).1⟩⟩
 done := by
  intro X hP hw hK hc i pins s σ H E I hf st hg
  subst hP hw hK
  obtain ⟨f0, f1, f2, f3, f4, f5⟩ := hf it (by simp)
  have hge : n ≤ i := hg
  have e1 : (n : Int) - 1 - (i : Int) = -1 := by have := st.1; lia
  have hit := st.2
  rw [e1] at hit
  exact wpAny_pyNext_rev_end (I.ok.hd hc) hit fun h' eb => ⟨rfl, I.turned (t' := s.toks) (fun b o hb e => eb b o hb e) f0 f1 f3 f4 f5⟩
 self := fun _ _ _ _ _ st h => wpAny_pyIter_revIter st.2 h
section
variable {X : Cx} {tg : Expr} {K : PySem.W.Frag}
def iRevL (K : PySem.W.Frag) (ta : TA) : TI := fun σ H R => ta σ H fun vs H1 => ∃ a xs, vs = [.ref a] ∧ SqL K H1 a xs ∧ R (Itw K a xs.length) H1
theorem nqJ {a : Expr} {ta : TA} {p pos : Pos} (h : X.K = K) (hg : Gl X "reversed") (hm : X.mg "reversed" = none) (ha : PA X [a] ta) (hs : starEach [a] X.env = [(false, eval a X.env)] := by rfl) : PI X tg (.Call (.Name "reversed" p) [a] [] pos) (iRevL K ta) := by
 subst h
 intro pins s σ H R I h
 refine Call_ (eqD I hg hm boot_reversed (PyProof.Rows.callWith_type1 (thn (ha pos pins s σ H _ I h) fun us s1 W' => ?_) hs rfl))
 obtain ⟨vs, H1, I1, r1, q1⟩ := W'
 obtain ⟨a, xs, e, hq, q⟩ := q1
 subst e
 obtain ⟨u, rfl, ru⟩ := vals1 r1
 cases ru
 obtain ⟨its, rv, pt, hz⟩ := I1.list hq
 have hl := rv.length
 refine call_reversed_list pt.isList ?_
 have hn : (s1.heap.push (revObj a ((its.toArray.size : Int) - 1))).IsRevIter s1.heap.objs.size a ((xs.length : Int) - 1 - ((0 : Nat) : Int)) := ⟨_, Heap.get?_push_size _ rfl, rfl, by simp [revObj, hl]⟩
 refine wpAny_pyIter_revIter (s := { s1 with heap := s1.heap.push (revObj a ((its.toArray.size : Int) - 1)) }) hn ?_
 refine ⟨s1.heap.objs.size, [s1.heap.objs.size], _, _, H1, rfl, I1.kept (t' := s1.toks) fun b o e => Heap.get?_push_of_some _ e, nqi a _ xs.length, ⟨Nat.zero_le _, hn⟩, fun b hb => ?_, q⟩
 have e : b = s1.heap.objs.size := by simpa using hb
 subst e
 exact I1.fpOk (Nat.le_refl _) (I1.hok.fresh (Nat.le_refl _))
variable {σ : St} {H : Hp} {D : Ends} {g : TG} {tb : TS} {aa : TA}
theorem nqZ : (tFor (iRevL K aa) g tb D σ H) = (aa σ H fun vs H1 => ∃ a xs, vs = [.ref a] ∧ SqL K H1 a xs ∧ LoopI (Itw K a xs.length) g tb D σ H1) := rfl
theorem kq6 {a : Addr} {xs : List V} (Pv : Nat → St → Hp → Prop) (h0 : Pv 0 σ H) (hl : ∀ i σ H, i ≤ xs.length → Pv i σ H → SqL K H a xs)
  (hs : ∀ i x σ H, i < xs.length → xs[xs.length - 1 - i]? = some x → Pv i σ H → g x σ H fun σ2 H2 => tb { D with nx := Pv (i + 1), ct := Pv (i + 1), bk := D.nx } σ2 H2) (hd : ∀ σ H, Pv xs.length σ H → D.nx σ H) : LoopI (Itw K a xs.length) g tb D σ H := by
 refine ⟨fun i m σ H => m = xs.length - i ∧ i ≤ xs.length ∧ Pv i σ H, ⟨xs.length, by simp, Nat.zero_le _, h0⟩, ?_⟩
 rintro i m σ H ⟨rfl, hi, p⟩
 have hq := hl i σ H hi p
 by_cases hlt : i < xs.length
 ·have hx : xs[xs.length - 1 - i]? = some xs[xs.length - 1 - i] := List.getElem?_eq_getElem (by lia)
  refine .inr ⟨⟨xs, _, hq, rfl, hlt, hx⟩, Pv (i + 1), fun σ' H' p' => ⟨xs.length - (i + 1), by lia, rfl, hlt, p'⟩, fun x H' y => ?_⟩
  obtain ⟨e, y⟩ := y
  subst e
  exact hs i x σ _ hlt (y xs hq rfl) p
 ·have e : i = xs.length := by lia
  subst e
  exact .inl ⟨Nat.le_refl _, hd σ H p⟩
end
section
variable {X : Cx}
theorem iqE : ∀ {ns : List Nat} {its : List Value}, Vals (ns.map fun k : Nat => V.int (k : Int)) its → its.length = ns.length ∧ ∀ (i : Nat) (x : Value), its[i]? = some x → ∃ k t, ns[i]? = some k ∧ x = .int (k : Int) t
 | [], _, h => by cases h; exact ⟨rfl, fun i x h => by simp at h⟩
 | z :: ss, _, h => by
  cases h with
  | cons r rs =>
   obtain ⟨h1, h2⟩ := iqE rs
   obtain ⟨t, rfl⟩ := r
   refine ⟨by simp [h1], fun i x hx => ?_⟩
   cases i with
   | zero => cases hx; exact ⟨z, t, rfl, rfl⟩
   | succ i => exact h2 i x (by simpa using hx)
theorem iqf : ∀ {us : List Value} {ks : List Int}, IntsAre us ks → Vals (ks.map V.int) us
 | _, _, .nil => .nil
 | _, _, .cons y t h => .cons ⟨t, rfl⟩ (iqf h)
def tSortSet (ta : TA) : TE := fun σ H Q => ta σ H fun vs H1 => ∃ (l : Addr) (ns : List Nat), vs = [.ref l] ∧ H1 l = some (.lst (ns.map fun k : Nat => V.int (k : Int))) ∧ ns.length < 4 ∧ (∀ k ∈ ns, k < 16) ∧
 ∀ (p : Addr) (ks : List Int) (H' : Hp), H1 p = none → ks.Perm (fstU (ns.map Int.ofNat)) → ks.Pairwise (· ≤ ·) → Same H1 H' → H' p = some (.lst (ks.map V.int)) → Q (.ref p) H'
theorem kqf {a : Expr} {ta : TA} {p p' pos pos' : Pos} (hc : X.calm = true) (hg : Gl X "set") (hm : X.mg "set" = none) (hl : Gl X "sorted") (hlm : X.mg "sorted" = none) (ha : PA X [a] ta)
  (hs : starEach [a] X.env = [(false, eval a X.env)] := by rfl)
  (hs' : starEach [.Call (.Name "set" p) [a] [] pos] X.env = [(false, eval (.Call (.Name "set" p) [a] [] pos) X.env)] := by rfl) :
  PE X (.Call (.Name "sorted" p') [.Call (.Name "set" p) [a] [] pos] [] pos') (tSortSet ta) := by
 intro pins s σ H Q I h
 refine wpAny_Call_Name_kw (eqD I hl hlm boot_sorted (PyProof.Rows.callWith_builtin1 ?_ hs' rfl) (by decide) (by decide))
 rw [hs']
 refine Calls.spliced_cons ?_
 refine wpAny_Call_Name_kw (eqD I hg hm boot_set (PyProof.Rows.callWith_type1 (thn (ha pos pins s σ H _ I h) fun us s1 W' => ?_) hs rfl) (by decide) (by decide))
 obtain ⟨vs, H1, I1, r1, q1⟩ := W'
 obtain ⟨l, ns, e, hls, hz, h16, q⟩ := q1
 subst e
 obtain ⟨u, rfl, r⟩ := vals1 r1
 cases r
 obtain ⟨z, its, n, rv, e⟩ := I1.hok l _ hls
 obtain ⟨v1, v2⟩ := iqE rv
 refine lqs (ns := ns) (items := its.toArray) ⟨_, e, rfl, _, rfl⟩ (fun i x hx => v2 i x (by simpa using hx)) (by rw [List.size_toArray]; exact v1) hz h16 (I1.ok.hd hc) fun h' t' sm hset => ?_
 have I2 : Inv X pins σ H1 { s1 with heap := h', toks := t' } := I1.kept sm
 refine Calls.spliced_nil ?_
 refine iq2 (s := { s1 with heap := h', toks := t' }) (I2.ok.hd hc) hset fun s3 p out n ks' k1 k2 k3 k4 k5 k6 k7 k8 k9 => ?_
 obtain ⟨h3, g3, d3, t3, o3⟩ := s3
 cases k2; cases k3; cases k4
 have hf : H1 p = none := I2.hok.fresh k5
 have hlen : ks'.length < 4 := by
  have h1 := (dqS _ (ns.map Int.ofNat) rfl).1
  rw [List.length_map] at h1
  rw [k8.length_eq]
  lia
 have I3 := I2.laid (h' := h3) (a := p) (t' := t3) (o := .lst (ks'.map V.int)) k1 k5 (show ObjOk X.prog X.w _ _ _ (.lst (ks'.map V.int)) from ⟨by rw [List.length_map]; exact Nat.le_trans (Nat.le_of_lt hlen) (by decide), out.toList, n, iqf k7, k6⟩)
 exact ⟨.ref p, upd H1 p (.lst (ks'.map V.int)), I3, rfl, q p ks' _ hf k8 k9 (bqd hf) aqk⟩
end
theorem kqd {ta : TA} {σ : St} {H : Hp} {Q : VK} : (tSortSet ta σ H Q) = (ta σ H fun vs H1 => ∃ (l : Addr) (ns : List Nat), vs = [.ref l] ∧ H1 l = some (.lst (ns.map fun k : Nat => V.int (k : Int))) ∧ ns.length < 4 ∧ (∀ k ∈ ns, k < 16) ∧
 ∀ (p : Addr) (ks : List Int) (H' : Hp), H1 p = none → ks.Perm (fstU (ns.map Int.ofNat)) → ks.Pairwise (· ≤ ·) → Same H1 H' → H' p = some (.lst (ks.map V.int)) → Q (.ref p) H') := rfl
def tStp (te : TE) (t : TA) : TA := fun σ H Q => te σ H fun x H1 => t σ H1 fun xs H2 => Q (x :: xs) H2
section
variable {X : Cx}
theorem dqb {e : Expr} {es : List Expr} {te : TE} {t : TA} (h1 : PE X e te) (h2 : PA X es t) (hs : starEach (e :: es) X.env = (false, eval e X.env) :: starEach es X.env := by rfl) : PA X (e :: es) (tStp te t) := aqa h1 h2 hs
end
theorem stp {te : TE} {t : TA} {σ : St} {H : Hp} {Q : List V → Hp → Prop} (h : te σ H fun x H1 => t σ H1 fun xs H2 => Q (x :: xs) H2) : tStp te t σ H Q := h
end L2
namespace Wm
open PySem L2
def FrB (H0 H : Hp) (ys : List V) : Prop := ∀ v ∈ ys, ∃ (p : Addr) (a w : V), v = .ref p ∧ H p = some (.tup [a, w]) ∧ ∀ q, w = .ref q → H0 q = none
theorem FrB.mono {H0 H H' : Hp} {ys : List V} (s : SameT H H') (h : FrB H0 H ys) : FrB H0 H' ys := fun v hv => by
 obtain ⟨p, a, w, e, h1, h2⟩ := h v hv
 exact ⟨p, a, w, e, s _ _ h1, h2⟩
theorem FrB.snoc {H0 H : Hp} {ys : List V} {p : Addr} {a w : V} (h : FrB H0 H ys) (hp : H p = some (.tup [a, w])) (hw : ∀ q, w = .ref q → H0 q = none) : FrB H0 H (ys ++ [.ref p]) := fun v hv => by
 rcases List.mem_append.mp hv with z | z
 ·exact h v z
 ·exact ⟨p, a, w, List.mem_singleton.mp z, hp, hw⟩
theorem BndV.perm {H : Hp} {l : Addr} {ys zs : List V} (h : ys.Perm zs) : ∀ {bs : List (List Nat × Vl)}, BndV H l bs ys → ∃ bs' : List (List Nat × Vl), bs.Perm bs' ∧ BndV H l bs' zs := by
 induction h with
 | nil => intro bs h; exact ⟨bs, List.Perm.refl _, h⟩
 | cons x _ ih =>
  intro bs h
  cases h with
  | cons a b c r =>
   obtain ⟨bs', h1, h2⟩ := ih r
   exact ⟨_ :: bs', h1.cons _, .cons a b c h2⟩
 | swap x y l =>
  intro bs h
  cases h with
  | cons a b c r =>
   cases r with
   | cons a' b' c' r => exact ⟨_, List.Perm.swap _ _ _, .cons a' b' c' (.cons a b c r)⟩
 | trans _ _ ih1 ih2 =>
  intro bs h
  obtain ⟨b1, h1, h2⟩ := ih1 h
  obtain ⟨b2, h3, h4⟩ := ih2 h2
  exact ⟨b2, h1.trans h3, h4⟩
def OkAt (ws : List (List Nat × PyData)) (c : Pc) : Prop := ∃ d, named ws c.name = [d] ∧ isValD c d = true
theorem jqJ {ws : List (List Nat × PyData)} {c : Pc} (hs : c.isStep = false) (h : OkAt ws c) : ∃ s, fillS c ws = .ok s := by
 obtain ⟨d, h1, h2⟩ := h
 rw [eqS hs, h1]
 exact ⟨_, if_pos h2⟩
theorem iqK {ws : List (List Nat × PyData)} {c : Pc} (hs : c.isStep = false) (h : ¬ OkAt ws c) : fillS c ws = .error c.name := by
 rw [eqS hs]
 cases e : named ws c.name with
 | nil => rfl
 | cons d r =>
  cases r with
  | nil => exact if_neg fun z => h ⟨d, e, z⟩
  | cons _ _ => rfl
theorem fq7 {ws : List (List Nat × PyData)} : ∀ {cs : List Pc} {ss : List (List Nat)}, fillF cs ws = .ok ss → ∀ c ∈ cs, c.isStep = false → OkAt ws c
 | [], _, _, c, hc, _ => by cases hc
 | d :: cs, ss, h, c, hc, hs => by
  unfold fillF at h
  cases hd : fillS d ws with
  | error n => rw [hd] at h; cases h
  | ok a =>
   rw [hd] at h
   cases hf : fillF cs ws with
   | error n => rw [hf] at h; cases h
   | ok b =>
    rcases List.mem_cons.mp hc with rfl | hc
    ·refine Classical.byContradiction fun z => ?_
     rw [iqK hs z] at hd
     cases hd
    ·exact fq7 hf c hc hs
theorem jqg {ws : List (List Nat × PyData)} {cs : List Pc} {ss : List (List Nat)} (h : fillM cs ws = .ok ss) : ∀ c ∈ cs, c.isStep = false → OkAt ws c := by
 unfold fillM at h
 cases hf : fillF cs ws with
 | error n => rw [hf] at h; cases h
 | ok b => exact fq7 hf
theorem iqt {ws : List (List Nat × PyData)} : ∀ {cs : List Pc}, (∀ c ∈ cs, c.isStep = false → OkAt ws c) → ∃ ss, fillF cs ws = .ok ss
 | [], _ => ⟨[], rfl⟩
 | c :: cs, h => by
  obtain ⟨b, hb⟩ := iqt fun d hd => h d (List.mem_cons_of_mem _ hd)
  obtain ⟨a, ha⟩ : ∃ a, fillS c ws = .ok a := by
   cases hs : c.isStep with
   | true => obtain ⟨w, rfl⟩ := nqm hs; exact ⟨_, rfl⟩
   | false => exact jqJ hs (h c List.mem_cons_self hs)
  exact ⟨a ++ b, by unfold fillF; rw [ha, hb]⟩
theorem jqn {ws : List (List Nat × PyData)} {cs : List Pc} {n : List Nat} (h : ∀ c ∈ cs, c.isStep = false → OkAt ws c) (ho : otherM cs ws = some n) : fillM cs ws = .error n := by
 obtain ⟨ss, hf⟩ := iqt h
 unfold fillM
 rw [hf, ho]
theorem fq9 {ws : List (List Nat × PyData)} : ∀ {cs : List Pc} {m : Nat} {c : Pc}, (cs.filter fun c => !c.isStep)[m]? = some c → ¬ OkAt ws c → (∀ j d, j < m → (cs.filter fun c => !c.isStep)[j]? = some d → OkAt ws d) → fillF cs ws = .error c.name
 | [], m, c, h, _, _ => by cases h
 | d :: cs, m, c, h, hb, ho => by
  unfold fillF
  cases hs : d.isStep with
  | true =>
   obtain ⟨w, rfl⟩ := nqm hs
   have e : ((Pc.step w :: cs).filter fun c => !c.isStep) = cs.filter fun c => !c.isStep := rfl
   rw [e] at h ho
   have := fq9 h hb ho
   rw [show fillS (.step w) ws = .ok [w] from rfl, this]
  | false =>
   have e : ((d :: cs).filter fun c => !c.isStep) = d :: cs.filter fun c => !c.isStep := by rw [List.filter_cons, if_pos (by rw [hs]; rfl)]
   rw [e] at h ho
   cases m with
   | zero =>
    cases h
    rw [iqK hs hb]
   | succ m =>
    obtain ⟨a, ha⟩ := jqJ hs (ho 0 d (Nat.succ_pos _) rfl)
    have := fq9 (cs := cs) (m := m) h hb fun j x hj hx => ho (j + 1) x (Nat.succ_lt_succ hj) hx
    rw [ha, this]
theorem lqo {ws : List (List Nat × PyData)} {cs : List Pc} {m : Nat} {c : Pc} (h : (cs.filter fun c => !c.isStep)[m]? = some c) (hb : ¬ OkAt ws c) (ho : ∀ j d, j < m → (cs.filter fun c => !c.isStep)[j]? = some d → OkAt ws d) : fillM cs ws = .error c.name := by
 unfold fillM
 rw [fq9 h hb ho]
theorem aqw (a b : List (List Nat × PyData)) (n : List Nat) : named (a ++ b) n = named a n ++ named b n := by
 unfold named; rw [List.filter_append, List.map_append]
theorem dqR {n : List Nat} {w : List Nat × PyData} (h : w.1 ≠ n) : named [w] n = [] := by
 unfold named; rw [List.filter_cons, if_neg (by simpa using h)]; rfl
theorem hq6 (w : List Nat × PyData) : named [w] w.1 = [w.2] := by
 unfold named; rw [List.filter_cons, if_pos (by simp)]; rfl
theorem hqP {ws : List (List Nat × PyData)} {k : Nat} {w : List Nat × PyData} (h : ws[k]? = some w) : ws = ws.take k ++ ([w] ++ ws.drop (k + 1)) := by
 obtain ⟨hk, e⟩ := List.getElem?_eq_some_iff.mp h
 rw [← e, List.singleton_append, List.getElem_cons_drop hk, List.take_append_drop]
theorem fqv {ws : List (List Nat × PyData)} {k : Nat} {w : List Nat × PyData} {d : PyData} (h : ws[k]? = some w) (hn : named ws w.1 = [d]) : named (ws.take k) w.1 = [] ∧ named (ws.drop (k + 1)) w.1 = [] := by
 rw [hqP h, aqw, aqw, hq6] at hn
 have hl := congrArg List.length hn
 simp only [List.length_append, List.length_cons, List.length_nil] at hl
 exact ⟨List.length_eq_zero_iff.mp (by lia), List.length_eq_zero_iff.mp (by lia)⟩
def Spo (ws ws' : List (List Nat × PyData)) (c : Pc) : Prop := ¬ OkAt ws' c ∧ (∀ n, n ≠ c.name → named ws' n = named ws n) ∧ ∀ w ∈ ws', w.1 = c.name ∨ w ∈ ws
theorem oqy {ws : List (List Nat × PyData)} {c : Pc} {k : Nat} {d d0 : PyData} (h : ws[k]? = some (c.name, d)) (hn : named ws c.name = [d0]) : Spo ws (ws.take k ++ ws.drop (k + 1)) c := by
 obtain ⟨h1, h2⟩ := fqv h hn
 refine ⟨fun z => ?_, fun n hne => ?_, fun w hw => .inr ?_⟩
 ·obtain ⟨x, hx, _⟩ := z
  rw [aqw, h1, h2] at hx
  cases hx
 ·have e := congrArg (named · n) (hqP h)
  rw [aqw, aqw, dqR (Ne.symm hne), List.nil_append] at e
  rw [aqw]
  exact e.symm
 ·rcases List.mem_append.mp hw with z | z
  ·exact List.mem_of_mem_take z
  ·exact List.mem_of_mem_drop z
theorem lqd {ws : List (List Nat × PyData)} {c : Pc} {k o : Nat} {d d0 : PyData} (h : ws[k]? = some (c.name, d)) (hn : named ws c.name = [d0]) : Spo ws (ws.take o ++ [(c.name, d)] ++ ws.drop o) c := by
 refine ⟨fun z => ?_, fun n hne => ?_, fun w hw => ?_⟩
 ·obtain ⟨x, hx, _⟩ := z
  rw [aqw, aqw, hq6 (c.name, d)] at hx
  rw [← List.take_append_drop o ws, aqw] at hn
  have h1 := congrArg List.length hx
  have h2 := congrArg List.length hn
  simp only [List.length_append, List.length_cons, List.length_nil] at h1 h2
  lia
 ·have e := congrArg (named · n) (List.take_append_drop o ws)
  rw [aqw] at e
  rw [aqw, aqw, dqR (Ne.symm hne), List.append_nil]
  exact e
 ·rcases List.mem_append.mp hw with z | z
  ·rcases List.mem_append.mp z with z | z
   ·exact .inr (List.mem_of_mem_take z)
   ·exact .inl (by rw [List.mem_singleton.mp z])
  ·exact .inr (List.mem_of_mem_drop z)
theorem oq0 {ws : List (List Nat × PyData)} {c : Pc} {k : Nat} {d d0 x : PyData} (h : ws[k]? = some (c.name, d)) (hn : named ws c.name = [d0]) (hx : isValD c x = false) : Spo ws (ws.take k ++ [(c.name, x)] ++ ws.drop (k + 1)) c := by
 obtain ⟨h1, h2⟩ := fqv h hn
 refine ⟨fun z => ?_, fun n hne => ?_, fun w hw => ?_⟩
 ·obtain ⟨y, hy, hv⟩ := z
  rw [aqw, aqw, hq6 (c.name, x), h1, h2] at hy
  cases hy
  rw [hx] at hv
  cases hv
 ·have e := congrArg (named · n) (hqP h)
  rw [aqw, aqw, dqR (Ne.symm hne), List.nil_append] at e
  rw [aqw, aqw, dqR (Ne.symm hne), List.append_nil]
  exact e.symm
 ·rcases List.mem_append.mp hw with z | z
  ·rcases List.mem_append.mp z with z | z
   ·exact .inr (List.mem_of_mem_take z)
   ·exact .inl (by rw [List.mem_singleton.mp z])
  ·exact .inr (List.mem_of_mem_drop z)
theorem lq3 {ws ws' : List (List Nat × PyData)} {c : Pc} (h : named ws' c.name = named ws c.name) : OkAt ws' c ↔ OkAt ws c := by unfold OkAt; rw [h]
theorem stranger {ws : List (List Nat × PyData)} {cs : List Pc} {o : Nat} {u v : List Nat × PyData} (hu : u.1 ∉ gapsM cs) (hv : v.1 ∉ gapsM cs) :
  (∀ n ∈ gapsM cs, named (ws.take o ++ [u, v] ++ ws.drop o) n = named ws n) ∧ ((∀ w ∈ ws, w.1 ∈ gapsM cs) → otherM cs (ws.take o ++ [u, v] ++ ws.drop o) = some u.1) := by
 constructor
 ·intro n hn
  have e := congrArg (named · n) (List.take_append_drop o ws)
  rw [aqw] at e
  have e2 : named [u, v] n = [] := by
   rw [show [u, v] = [u] ++ [v] from rfl, aqw, dqR (fun z => hu (by rw [z]; exact hn)), dqR (fun z => hv (by rw [z]; exact hn))]
   rfl
  rw [aqw, aqw, e2, List.append_nil]
  exact e
 ·intro hall
  refine hqW (i := (ws.take o).length) (d := u.2) ?_ (fun w hw => ?_) hu
  ·rw [List.append_assoc, List.getElem?_append_right (Nat.le_refl _), Nat.sub_self]
   rfl
  ·rw [List.append_assoc, List.take_left] at hw
   exact hall w (List.mem_of_mem_take hw)
abbrev sD (s : String) : PyData := .str (Str.ofString s)
abbrev BadD (c : Pc) (d : PyData) : Prop := isValD c d = false ∧ smallD d = true
theorem nqn {c : Pc} {d : PyData} (h1 : ftx d = false) (h2 : isValD (.rest []) d = false) (h3 : isValD (.num []) d = false) (h4 : isValD (.word []) d = false) : isValD c d = false := by
 cases c with
 | step _ => rfl
 | part h n t => show (ftx d && _) = false; rw [h1]; rfl
 | gap n => show (ftx d && _) = false; rw [h1]; rfl
 | rest n => exact h2
 | num n => exact h3
 | word n => exact h4
theorem odd0 (c : Pc) {z : Int} (hz : z < 0) : ∀ d ∈ [PyData.none, .bool true, .int z, .str ⟨#[]⟩, sD "a\nb", .list [sD "a", .int 1], .list [], .tuple [], .tuple [.int 1, .int 2], .dict [], .list [sD "a", sD "."], .list [.none]], BadD c d := by
 have hb : ∀ d ∈ [PyData.none, .bool true, .str ⟨#[]⟩, sD "a\nb", .list [sD "a", .int 1], .list [], .tuple [], .tuple [.int 1, .int 2], .dict [], .list [sD "a", sD "."], .list [.none]], (ftx d = false ∧ isValD (.rest []) d = false) ∧ (isValD (.num []) d = false ∧ isValD (.word []) d = false) ∧ smallD d = true := by decide +kernel
 have up : ∀ {d}, (ftx d = false ∧ isValD (.rest []) d = false) ∧ (isValD (.num []) d = false ∧ isValD (.word []) d = false) ∧ smallD d = true → BadD c d := fun h => ⟨nqn h.1.1 h.1.2 h.2.1.1 h.2.1.2, h.2.2⟩
 intro d hd
 rcases List.mem_cons.mp hd with rfl | hd
 ·exact up (hb _ (by simp))
 rcases List.mem_cons.mp hd with rfl | hd
 ·exact up (hb _ (by simp))
 rcases List.mem_cons.mp hd with rfl | hd
 ·exact ⟨nqn rfl rfl (decide_eq_false fun y => by lia) rfl, rfl⟩
 ·exact up (hb d (List.mem_cons_of_mem _ (List.mem_cons_of_mem _ hd)))
theorem mq9 {h n t : List Nat} : ∀ d ∈ [PyData.int 5, .list [sD "a"]], BadD (.part h n t) d := fun d hd => by
 rcases List.mem_cons.mp hd with rfl | hd
 ·exact ⟨rfl, rfl⟩
 ·rw [List.mem_singleton.mp hd]
  exact ⟨rfl, by decide +kernel⟩
theorem nq5 {h n t v : List Nat} (hv : isDot (h ++ v ++ t) = true) (hl : v.length ≤ 2) : BadD (.part h n t) (.str ⟨v.toArray⟩) := by
 refine ⟨?_, ?_⟩
 ·show (ftx _ && !isDot (h ++ v ++ t)) = false
  rw [hv, Bool.not_true, Bool.and_false]
 ·exact decide_eq_true (by show v.toArray.size ≤ _; simp; lia)
theorem nq0 {n : List Nat} {z : Int} (hz : 10 ^ 60 ≤ z) : ∀ d ∈ [PyData.int z, sD "5", .bool false, .list [.int 5]], BadD (.num n) d := fun d hd => by
 rcases List.mem_cons.mp hd with rfl | hd
 ·exact ⟨decide_eq_false fun y => by lia, rfl⟩
 ·exact (show ∀ d ∈ [sD "5", .bool false, .list [.int 5]], BadD (.num []) d by decide +kernel) d hd
theorem mq7 {n : List Nat} {x : Str} (hx : x = ⟨(List.replicate 61 97).toArray⟩) : ∀ d ∈ [sD "aB", sD "a1", .str x, sD "a-", .list [sD "a"], .int 7, sD "."], BadD (.word n) d := by
 subst hx
 exact (show ∀ d ∈ [sD "aB", sD "a1", .str ⟨(List.replicate 61 97).toArray⟩, sD "a-", .list [sD "a"], .int 7, sD "."], BadD (.word []) d by decide +kernel)
theorem mqY {n : List Nat} : ∀ d ∈ [sD "a", .tuple [sD "a"], .list [.str ⟨#[]⟩], .list [sD ".."], .list [sD "a", sD "a\n"]], BadD (.rest n) d :=
 (show ∀ d ∈ [sD "a", .tuple [sD "a"], .list [.str ⟨#[]⟩], .list [sD ".."], .list [sD "a", sD "a\n"]], BadD (.rest []) d by decide +kernel)
theorem oq6 {n : List Nat} : ∀ d ∈ [sD ".", sD "..", .int 7, .list [sD "a"], .tuple [sD "a"]], BadD (.gap n) d :=
 (show ∀ d ∈ [sD ".", sD "..", .int 7, .list [sD "a"], .tuple [sD "a"]], BadD (.gap []) d by decide +kernel)
theorem a_61 : MulOk (Str.ofString "a") 61 ∧ PySem.Txt.mul (Str.ofString "a") 61 = ⟨(List.replicate 61 97).toArray⟩ :=
 ⟨⟨by decide, fun _ _ => by decide +kernel, fun _ _ => by decide +kernel⟩, by decide +kernel⟩
def dotv (j : Nat) : List Nat := if j = 0 then sStay else sUp
theorem pq0 {ws : List (List Nat × PyData)} {n : List Nat} {d0 : PyData} {N : Nat} (h : named ws n = [d0]) (hN : N = ws.length) : ∃ o r d, ((List.range N).filter fun j => decide ((ws[j]?.map (·.1)) = some n)) = o :: r ∧ ws[o]? = some (n, d) := by
 have hm : d0 ∈ named ws n := by rw [h]; exact List.mem_singleton.mpr rfl
 obtain ⟨w, hw, _⟩ := List.mem_map.mp hm
 obtain ⟨hw, hwn⟩ := List.mem_filter.mp hw
 have hwn : w.1 = n := of_decide_eq_true hwn
 obtain ⟨j, hj, ej⟩ := List.getElem_of_mem hw
 have hjm : j ∈ (List.range N).filter fun j => decide ((ws[j]?.map (·.1)) = some n) := List.mem_filter.mpr ⟨List.mem_range.mpr (by lia), decide_eq_true (by rw [List.getElem?_eq_getElem hj, ej, ← hwn]; rfl)⟩
 cases e : (List.range N).filter fun j => decide ((ws[j]?.map (·.1)) = some n) with
 | nil => rw [e] at hjm; cases hjm
 | cons o r =>
  have ho : o ∈ (List.range N).filter fun j => decide ((ws[j]?.map (·.1)) = some n) := by rw [e]; exact List.mem_cons_self
  have ho := of_decide_eq_true (List.mem_filter.mp ho).2
  cases eo : ws[o]? with
  | none => rw [eo] at ho; cases ho
  | some x =>
   rw [eo] at ho
   have hx : x.1 = n := Option.some.inj ho
   exact ⟨o, r, x.2, rfl, by rw [← hx]; exact eo⟩
theorem kq0 {K : Type} [DecidableEq K] : ∀ (n : Nat) (l : List K), l.length = n → (fstU l).Nodup
 | 0, l, h => by rw [List.length_eq_zero_iff.mp h]; exact List.nodup_nil
 | n + 1, l, h => by
  obtain ⟨l', x, rfl⟩ : ∃ l' x, l = l' ++ [x] := ⟨l.dropLast, l.getLast (fun z => by rw [z] at h; cases h), (List.dropLast_concat_getLast _).symm⟩
  have ih := kq0 n l' (by rw [List.length_append, List.length_singleton] at h; lia)
  rw [eqf]
  split
  ·exact ih
  ·next hx => exact ((List.perm_append_singleton x (fstU l')).nodup_iff).mpr (List.nodup_cons.mpr ⟨hx, ih⟩)
theorem mqS {ns : List Nat} {ks : List Int} (hp : ks.Perm (fstU (ns.map Int.ofNat))) (hs : ks.Pairwise (· ≤ ·)) : ∃ ms : List Nat, ks.map V.int = ms.map (fun k : Nat => V.int (k : Int)) ∧ ms.Pairwise (· < ·) ∧ (∀ m ∈ ms, m ∈ ns) ∧ ms.length = ks.length := by
 have hm : ∀ k ∈ ks, ∃ n ∈ ns, k = (n : Int) := fun k hk => by
  have h1 := (hqk _ (ns.map Int.ofNat) rfl k).mp (hp.mem_iff.mp hk)
  obtain ⟨n, h2, h3⟩ := List.mem_map.mp h1
  exact ⟨n, h2, h3.symm⟩
 have hnd : ks.Nodup := (hp.nodup_iff).mpr (kq0 _ _ rfl)
 refine ⟨ks.map Int.toNat, ?_, ?_, fun m hmm => ?_, List.length_map _⟩
 ·rw [List.map_map]
  refine List.map_congr_left fun k hk => ?_
  obtain ⟨n, _, rfl⟩ := hm k hk
  rfl
 ·rw [List.pairwise_map]
  refine List.Pairwise.imp_of_mem (fun {a b} ha hb h => ?_) (hs.and hnd)
  obtain ⟨x, _, rfl⟩ := hm a ha
  obtain ⟨y, _, rfl⟩ := hm b hb
  have h1 := h.1
  have h2 := h.2
  show Int.toNat (x : Int) < Int.toNat (y : Int)
  lia
 ·obtain ⟨k, hk, rfl⟩ := List.mem_map.mp hmm
  obtain ⟨n, h1, rfl⟩ := hm k hk
  exact h1
theorem mqB {gs : List Pc} {j m : Nat} {c d : Pc} (h : (gs.map Pc.name).Nodup) (hj : gs[j]? = some c) (hm : gs[m]? = some d) (e : c.name = d.name) : j = m := by
 refine (List.getElem?_inj (l := gs.map Pc.name) (by rw [List.length_map]; exact (List.getElem?_eq_some_iff.mp hj).1) h).mp ?_
 rw [List.getElem?_map, List.getElem?_map, hj, hm]
 exact congrArg some e
theorem qqG {nm : List (List Nat)} {cs : List Pc} {i : Nat} {n : List Nat} (hd : nm.Nodup) (hg : ∀ n ∈ gapsM cs, ∃ j, j < 12 ∧ nm[j]? = some n) (hi : nm[i]? = some n) (h12 : 12 ≤ i) : n ∉ gapsM cs := fun z => by
 obtain ⟨j, hj, ej⟩ := hg n z
 have := (List.getElem?_inj (l := nm) (i := j) (j := i) (List.getElem?_eq_some_iff.mp ej).1 hd).mp (ej.trans hi.symm)
 lia
theorem lqw {nm : List (List Nat)} {cs : List Pc} {n : List Nat} (hn : ∀ n ∈ nm, 0 < n.length ∧ n.length ≤ 8 ∧ n.all isSma = true) (hg : ∀ n ∈ gapsM cs, ∃ j, j < 12 ∧ nm[j]? = some n) (h : n = [] ∨ 65 ∈ n) : n ∉ gapsM cs := fun z => by
 obtain ⟨j, _, ej⟩ := hg n z
 obtain ⟨h1, _, h3⟩ := hn n (List.mem_of_getElem? ej)
 rcases h with rfl | h
 ·cases h1
 ·exact absurd (List.all_eq_true.mp h3 65 h) (by decide)
theorem jqs {H : Hp} : ∀ ks : List Nat, IsAll H (ks.map fun k : Nat => PyData.int (k : Int)) (ks.map fun k : Nat => V.int (k : Int))
 | [] => .nil
 | _ :: ks => .cons (.int _) (jqs ks)
theorem jqZ (ks : List Nat) : SeqAt.shaped (.list (ks.map fun k : Nat => PyData.int (k : Int))) = true := (layL (n := 0) fun d hd => by
 obtain ⟨k, _, rfl⟩ := List.mem_map.mp hd
 exact ⟨rfl, Nat.zero_le _⟩).shaped (by decide)
def top (i : Nat) : Stmt := PySem.Challenge.pw_waymark_k56_values_refused.main.body.getD i (.Pass ⟨0, 0, 0, 0⟩)
abbrev equ : Stmt := top 4
abbrev aqT : Stmt := top 7
abbrev aqE : Stmt := inClass (top 13) 0
abbrev fqJ : Stmt := top 19
abbrev fqO : Stmt := top 24
abbrev eqc : Stmt := top 25
abbrev eqI : Stmt := top 26
abbrev eqQ : Stmt := top 27
abbrev bqC : Stmt := top 38
abbrev cqi : Stmt := top 39
abbrev cqx : Stmt := top 40
abbrev cqO : Stmt := top 46
abbrev bqA : Stmt := top 47
abbrev bqS : Stmt := top 50
abbrev dqN : Stmt := top 51
abbrev cqt : Stmt := top 54
abbrev eqx : Stmt := top 3
abbrev dqO : Stmt := top 23
abbrev eqg : Stmt := top 30
abbrev aq7 : Stmt := top 35
abbrev cqW : Stmt := top 41
abbrev cqz : Stmt := top 52
abbrev aq8 : Stmt := top 6
abbrev bqf : Stmt := top 36
abbrev cqT : Stmt := top 42
abbrev bqT : Stmt := top 34
abbrev cqp : Stmt := top 43
abbrev cqq : Stmt := top 45
abbrev dqP : Stmt := top 33
abbrev bqB : Stmt := top 44
abbrev bqP : Stmt := top 48
abbrev bqE : Stmt := top 32
abbrev fqK : Stmt := top 31
abbrev cq0 : Stmt := top 53
abbrev nqj : Stmt := top 55
abbrev oqA : V := .str (Str.ofString " !\"#$&'()*+,-./0123456789:;<=>?@ABCDEFGHIJKLMNOPQRSTUVWXYZ[\\]^_`abcdefghijklmnopqrstuvwxyz{|}~")
abbrev dqq : V := .str (Str.ofString "abcdefghijklmnopqrstuvwxyz")
abbrev pqr : V := .str (Str.ofString ".")
abbrev k_UP : V := .str (Str.ofString "..")
abbrev jqI : V := .int 0
abbrev mqh : V := .int 1
abbrev gqB : V := .int 60
set_option genInjectivity false
set_option genSizeOf false
set_option genSizeOfSpec false
structure G (K : W.Frag) (mg : Str → Option Value) where
 eqM : Addr
 dqU : FuncData
 eqj : Fun K "made_of" "made_of" equ eqM dqU
 fq1 : mg "made_of" = some (.ref eqM)
 gqo : Binds K dqU ["text", "signs"] []
 aqV : Addr
 aqO : FuncData
 bqp : Fun K "is_whole_number" "is_whole_number" aqT aqV aqO
 cqE : mg "is_whole_number" = some (.ref aqV)
 cqG : Binds K aqO ["thing"] []
 aqP : Addr
 aqJ : FuncData
 cqy : Fun K "__init__" "NoValue.__init__" aqE aqP aqJ
 bqm : Binds K aqJ ["self", "name"] []
 fqG : Addr
 eqN : FuncData
 fqH : Fun K "is_dot" "is_dot" fqJ fqG eqN
 hqr : mg "is_dot" = some (.ref fqG)
 hq5 : Binds K eqN ["step"] []
 fqT : Addr
 eqA : FuncData
 fqS : Fun K "is_gap" "is_gap" fqO fqT eqA
 hqI : mg "is_gap" = some (.ref fqT)
 hqx : Binds K eqA ["piece"] []
 eqy : Addr
 dqV : FuncData
 dqu : Fun K "name_of" "name_of" eqc eqy dqV
 eqC : mg "name_of" = some (.ref eqy)
 eqK : Binds K dqV ["gap"] []
 eqq : Addr
 dqI : FuncData
 eqo : Fun K "head_of" "head_of" eqI eqq dqI
 fq5 : mg "head_of" = some (.ref eqq)
 gqa : Binds K dqI ["piece"] []
 eqw : Addr
 dqT : FuncData
 eqr : Fun K "tail_of" "tail_of" eqQ eqw dqT
 gqd : mg "tail_of" = some (.ref eqw)
 gqq : Binds K dqT ["piece"] []
 bqD : Addr
 bqe : FuncData
 aqM : Fun K "_law_cell_at" "_law_cell_at" bqC bqD bqe
 aq1 : mg "_law_cell_at" = some (.ref bqD)
 aqZ : Binds K bqe ["_law_script", "_law_k"] []
 cqs : Addr
 bqU : FuncData
 dqm : Fun K "_law_names" "_law_names" cqi cqs bqU
 fqo : mg "_law_names" = some (.ref cqs)
 fqs : Binds K bqU ["_law_cell", "_law_many"] []
 cqh : Addr
 bqO : FuncData
 dqp : Fun K "_law_signs" "_law_signs" cqx cqh bqO
 fqk : mg "_law_signs" = some (.ref cqh)
 fqn : Binds K bqO [] []
 cqR : Addr
 cqv : FuncData
 cqP : Fun K "_law_gaps" "_law_gaps" cqO cqR cqv
 eqa : mg "_law_gaps" = some (.ref cqR)
 dq8 : Binds K cqv ["_law_pattern_here"] []
 bqF : Addr
 bqk : FuncData
 aq0 : Fun K "_law_name_of" "_law_name_of" bqA bqF bqk
 bqt : mg "_law_name_of" = some (.ref bqF)
 bqs : Binds K bqk ["_law_piece_here"] []
 bq1 : Addr
 bqu : FuncData
 cqQ : Fun K "_law_turned" "_law_turned" bqS bq1 bqu
 eqn : mg "_law_turned" = some (.ref bq1)
 eqe : Binds K bqu ["_law_values_here", "_law_cell"] []
 dqH : Addr
 cq3 : FuncData
 fqa : Fun K "_law_odd" "_law_odd" dqN dqH cq3
 hqc : mg "_law_odd" = some (.ref dqH)
 hqd : Binds K cq3 ["_law_piece_here", "_law_cell"] []
 cqw : Addr
 bq0 : FuncData
 dqt : Fun K "_law_alone" "_law_alone" cqt cqw bq0
 fqg : mg "_law_alone" = some (.ref cqw)
 fqp : Binds K bq0 ["_law_error"] []
 eql : Addr
 dqK : FuncData
 gqc : Fun K "is_text" "is_text" eqx eql dqK
 iqA : mg "is_text" = some (.ref eql)
 iqd : Binds K dqK ["thing"] []
 dqM : Addr
 dqa : FuncData
 eq5 : Fun K "names_of" "names_of" dqO dqM dqa
 gqO : mg "names_of" = some (.ref dqM)
 gqW : Binds K dqa ["pieces"] []
 eqF : Addr
 dqQ : FuncData
 fqX : Fun K "is_word" "is_word" eqg eqF dqQ
 iqc : mg "is_word" = some (.ref eqF)
 iqL : Binds K dqQ ["text"] []
 aq6 : Addr
 aqU : FuncData
 bqL : Fun K "steps_of_value" "steps_of_value" aq7 aq6 aqU
 dqe : mg "steps_of_value" = some (.ref aq6)
 dqc : Binds K aqU ["gap", "value"] []
 cqU : Addr
 cqu : FuncData
 bqo : Fun K "_law_text" "_law_text" cqW cqU cqu
 bq8 : mg "_law_text" = some (.ref cqU)
 bq5 : Binds K cqu ["_law_cell"] []
 cql : Addr
 bqZ : FuncData
 dqy : Fun K "_law_spoil" "_law_spoil" cqz cql bqZ
 fqq : mg "_law_spoil" = some (.ref cql)
 fqi : Binds K bqZ ["_law_values_here", "_law_gaps_here", "_law_at", "_law_cell"] []
 aq4 : Addr
 aqS : FuncData
 aq3 : Fun K "is_filled_text" "is_filled_text" aq8 aq4 aqS
 bqM : mg "is_filled_text" = some (.ref aq4)
 bqK : Binds K aqS ["thing"] []
 bql : Addr
 aq5 : FuncData
 cqf : Fun K "refuse_others" "refuse_others" bqf bql aq5
 dqk : mg "refuse_others" = some (.ref bql)
 dqC : Binds K aq5 ["pattern", "values"] []
 cqS : Addr
 cqn : FuncData
 bq6 : Fun K "_law_step" "_law_step" cqT cqS cqn
 cqY : mg "_law_step" = some (.ref cqS)
 cq8 : Binds K cqn ["_law_cell"] []
 bqW : Addr
 bqr : FuncData
 cq5 : Fun K "can_be_step" "can_be_step" bqT bqW bqr
 eqh : mg "can_be_step" = some (.ref bqW)
 eqT : Binds K bqr ["thing"] []
 cqA : Addr
 bqV : FuncData
 dqB : Fun K "_law_piece" "_law_piece" cqp cqA bqV
 fqw : mg "_law_piece" = some (.ref cqA)
 fql : Binds K bqV ["_law_cell", "_law_name"] []
 cqo : Addr
 bqQ : FuncData
 dqF : Fun K "_law_value" "_law_value" cqq cqo bqQ
 fqx : mg "_law_value" = some (.ref cqo)
 fqy : Binds K bqQ ["_law_piece_here", "_law_cell"] []
 dqW : Addr
 cq4 : FuncData
 eq7 : Fun K "is_value" "is_value" dqP dqW cq4
 gqY : mg "is_value" = some (.ref dqW)
 hqe : Binds K cq4 ["gap", "value"] []
 bqx : Addr
 bqc : FuncData
 cqC : Fun K "_law_pattern" "_law_pattern" bqB bqx bqc
 dq4 : mg "_law_pattern" = some (.ref bqx)
 dqY : Binds K bqc ["_law_cell", "_law_names_here", "_law_cells"] []
 bqY : Addr
 bqw : FuncData
 cqN : Fun K "_law_values" "_law_values" bqP bqY bqw
 eqk : mg "_law_values" = some (.ref bqY)
 eqY : Binds K bqw ["_law_pattern_here", "_law_cells"] []
 bqy : Addr
 bqg : FuncData
 cqD : Fun K "filled_steps" "filled_steps" bqE bqy bqg
 dq2 : mg "filled_steps" = some (.ref bqy)
 dq0 : Binds K bqg ["piece", "values"] []
 fqN : Addr
 eqR : FuncData
 hqj : Fun K "filled" "filled" fqK fqN eqR
 jqE : mg "filled" = some (.ref fqN)
 jqS : Binds K eqR ["pattern", "values"] []
 cqZ : Addr
 cqr : FuncData
 cqa : Fun K "_law_told" "_law_told" cq0 cqZ cqr
 cqM : mg "_law_told" = some (.ref cqZ)
 cq2 : Binds K cqr ["_law_pattern_here", "_law_values_here"] []
 lq8 : Addr
 iqM : FuncData
 qqz : Fun K "law" "law" nqj lq8 iqM
 qqU : mg "law" = some (.ref lq8)
 qqN : Binds K iqM ["_law_script"] []
 gqj : Tok
 kq9 : mg "SIGNS" = some (.str (Str.ofString " !\"#$&'()*+,-./0123456789:;<=>?@ABCDEFGHIJKLMNOPQRSTUVWXYZ[\\]^_`abcdefghijklmnopqrstuvwxyz{|}~") gqj)
 aqR : Tok
 dqi : mg "SMALL_LETTERS" = some (.str (Str.ofString "abcdefghijklmnopqrstuvwxyz") aqR)
 iqO : Tok
 nqr : mg "STAY" = some (.str (Str.ofString ".") iqO)
 t_UP : Tok
 c_UP : mg "UP" = some (.str (Str.ofString "..") t_UP)
 eqE : Tok
 hqi : mg "PIECES" = some (.int 0 eqE)
 eqJ : Tok
 jqK : mg "CLOSES" = some (.int 1 eqJ)
 aqY : Tok
 dq3 : mg "LONGEST_WORD" = some (.int 60 aqY)
 oqF : mg "all" = none
 aqx : mg "isinstance" = none
 nqs : mg "bool" = none
 pqp : mg "int" = none
 dqX : mg "len" = none
 cq9 : mg "range" = none
 jqO : mg "list" = none
 lqS : mg "str" = none
 fqm : mg "ValueError" = none
 iq3 : mg "tuple" = none
 qqt : mg "zip" = none
 gqh : mg "enumerate" = none
 gqT : mg "reversed" = none
 qqv : mg "set" = none
 jqD : mg "sorted" = none
 hqJ : Addr
 lqP : mg "NoRow" = some (.ref hqJ)
 fqF : Addr
 jqC : mg "NoName" = some (.ref fqF)
 cqX : Addr
 fq0 : mg "NoPattern" = some (.ref cqX)
 fqE : Addr
 jq1 : mg "NoBase" = some (.ref fqE)
 cq1 : Addr
 gqk : mg "NoAddress" = some (.ref cq1)
 aqo : Addr
 eqO : mg "NoValue" = some (.ref aqo)
 dqJ : Addr
 gqS : mg "WayError" = some (.ref dqJ)
 gq4 : Catch K dqJ
 bqH : ExLook K aqo
 gqi : Mk1 K aqo aqP
 dqh : ExSt K aqo "name"
 bq7 : ExFld K aqo "name"
 cqk : W.subIn K (.ref aqo) (.ref dqJ) = some true
 cqF : W.kitOne K (.ref aqo) (.ref aqo) = some true
 bqN : W.kitOne K (.ref aqo) (.type "ValueError") = some true
 cqd : W.kitOne K (.ref aqo) (.ref cq1) = some false
 dqf : W.kitOne K (.ref aqo) (.ref fqE) = some false
 cqb : W.kitOne K (.ref aqo) (.ref cqX) = some false
 dqd : W.kitOne K (.ref aqo) (.ref fqF) = some false
 dqA : W.kitOne K (.ref aqo) (.ref hqJ) = some false
def kqx : Sp := fun vs H Q _ => ∃ x y : Str, vs = [.str x, .str y] ∧ x.length ≤ 100000 ∧ ∀ H', Same H H' → Q (.bl (x.cps.toList.all fun c => decide (c ∈ y.cps.toList))) H'
def eqG : Sp := fun vs H Q _ => ∃ (d : PyData) (v : V), vs = [v] ∧ Is H d v ∧ Q (.bl (match d with | .int _ => true | _ => false)) H
def bqa (K : W.Frag) (C : Addr) : Sp := fun vs H Q _ => ∃ (a : Addr) (v : V), vs = [.ref a, v] ∧ H a = some (exNew a C) ∧ ∀ d, H d = none → Q .non (upd (upd H a (exSet a C d)) d (.xd [("name", v)]))
theorem gqR {K : W.Frag} {C : Addr} {H : Hp} {E : XK} {v : V} (hE : ∀ d H', Same H H' → H' d = some (.xd [("name", v)]) → E (.ref C) (some d) H') : ∀ a, H a = none → bqa K C [.ref a, v] (upd H a (exNew a C)) (fun u H2 => u = .non ∧ ∃ d, H2 a = some (exSet a C d) ∧ E (.ref C) (some d) (forget H2 a)) E0 := by
 intro a ha
 refine ⟨a, v, rfl, aqk, fun d hd => ?_⟩
 have hda : d ≠ a := fun z => by rw [z, aqk] at hd; cases hd
 rw [aqj hda] at hd
 refine ⟨rfl, d, by rw [aqj hda.symm, aqk], hE d _ (fun b o e => ?_) ?_⟩
 ·have ba : b ≠ a := aqh e ha
  rw [bqi ba, aqj (aqh e hd), aqj ba, aqj ba]
  exact e
 ·rw [bqi hda, aqk]
def iqX : Sp := fun vs H Q _ => ∃ s : Stp, vs = [sV s] ∧ Q (.bl (isDot s)) H
def lqR (K : W.Frag) : Sp := fun vs H Q _ => ∃ (c : Pc) (p : Addr), vs = [.ref p] ∧ SqT K H p c.vals ∧ Q (.bl (!c.isStep)) H
def gqH (K : W.Frag) : Sp := fun vs H Q _ => ∃ (c : Pc) (p : Addr), vs = [.ref p] ∧ SqT K H p c.vals ∧ c.isStep = false ∧ Q (tV c.name) H
def kqp (K : W.Frag) : Sp := fun vs H Q _ => ∃ (c : Pc) (p : Addr), vs = [.ref p] ∧ SqT K H p c.vals ∧ Q (tV c.head) H
def kqw (K : W.Frag) : Sp := fun vs H Q _ => ∃ (c : Pc) (p : Addr), vs = [.ref p] ∧ SqT K H p c.vals ∧ Q (tV c.tail) H
def gqm (K : W.Frag) : Sp := fun vs H Q _ => ∃ (a : Addr) (ns : List Int) (k : Nat), vs = [.ref a, .int (k : Int)] ∧ SqL K H a (ns.map V.int) ∧ Q (.int (ns.getD k 0)) H
def hqy (K : W.Frag) : Sp := fun vs H Q _ => ∃ (c : Int) (m : Nat), vs = [.int c, .int (m : Int)] ∧ m ≤ 26 ∧ ∀ (ns : List (List Nat)) (p : Addr) (H' : Hp), ns.length = m → (∀ n ∈ ns, 0 < n.length ∧ n.length ≤ 8 ∧ n.all isSma = true) → ns.Nodup → Same H H' → H' p = some (.lst (ns.map tV)) → Q (.ref p) H'
def eqP : Sp := fun vs H Q _ => vs = [] ∧ Q (.str ⟨SG.toArray⟩) H
def iqe (K : W.Frag) : Sp := fun vs H Q _ => ∃ (cs : List Pc) (e : Bool) (p : Addr), vs = [.ref p] ∧ PtAt H cs e p ∧ cs.length ≤ 90 ∧ ∀ (l : Addr) (ys : List V) (H' : Hp), H l = none → Same H H' → H' l = some (.lst ys) → PcT H' (cs.filter fun c => !c.isStep) ys → Q (.ref l) H'
def gqp (K : W.Frag) : Sp := fun vs H Q _ => ∃ (c : Pc) (p : Addr), vs = [.ref p] ∧ SqT K H p c.vals ∧ c.isStep = false ∧ Q (tV c.name) H
def gqx (K : W.Frag) : Sp := fun vs H Q _ => ∃ (l : Addr) (ys : List V) (i : Int), vs = [.ref l, .int i] ∧ H l = some (.lst ys) ∧ ys.length ≤ 90 ∧ ∀ (l' : Addr) (zs : List V) (H' : Hp), H l' = none → Same H H' → H' l' = some (.lst zs) → zs.Perm ys → Q (.ref l') H'
def jqm (K : W.Frag) : Sp := fun vs H Q _ => ∃ (c : Pc) (p : Addr) (i : Int), vs = [.ref p, .int i] ∧ H p = some (.tup c.vals) ∧ PcOk c ∧ c.isStep = false ∧ ∀ (d : PyData) (v : V) (H' : Hp), Same H H' → Is H' d v → isValD c d = false → smallD d = true → Q v H'
def hqs (K : W.Frag) (C : Addr) : Sp := fun vs H Q _ => ∃ (a d : Addr) (n : List Nat), vs = [.ref a] ∧ H a = some (exC a C (some d)) ∧ H d = some (.xd [("name", tV n)]) ∧ Q (.bl true) H
def kqg : Sp := fun vs H Q _ => ∃ (d : PyData) (v : V), vs = [v] ∧ Is H d v ∧ smallD d = true ∧ ∀ H', Same H H' → Q (.bl (tx d)) H'
def iqY (K : W.Frag) : Sp := fun vs H Q _ => ∃ (cs : List Pc) (xs : List V) (q : Addr), vs = [.ref q] ∧ SqT K H q xs ∧ PcAll K H cs xs ∧ cs.length ≤ 1000 ∧ ∀ (p : Addr) (H' : Hp), Same H H' → H' p = some (.lst ((gapsM cs).map tV)) → Q (.ref p) H'
def kqi : Sp := fun vs H Q _ => ∃ (l : List Nat), vs = [tV l] ∧ l.length ≤ 100000 ∧ ∀ H', Same H H' → Q (.bl (wordB l)) H'
def eq2 (K : W.Frag) : Sp := fun vs H Q _ => ∃ (c : Pc) (p : Addr) (d : PyData) (v : V), vs = [.ref p, v] ∧ SqT K H p c.vals ∧ c.isStep = false ∧ c.head.length ≤ 100000 ∧ c.tail.length ≤ 100000 ∧ Is H d v ∧ smallD d = true ∧ isValD c d = true ∧ ∀ (q : Addr) (H' : Hp), Same H H' → H' q = some (.lst ((stpsD c d).map tV)) → Q (.ref q) H'
def iqD (K : W.Frag) : Sp := fun vs H Q _ => ∃ c : Int, vs = [.int c] ∧ ∀ (l : List Nat) (H' : Hp), l.length ≤ 4 → (∀ c ∈ l, isSg c = true) → Same H H' → Q (tV l) H'
def hqU (K : W.Frag) : Sp := fun vs H Q _ => ∃ (ws : List (List Nat × PyData)) (ys : List V) (gs : List Pc) (gx : List V) (l lg : Addr) (m : Nat) (c : Pc) (i : Int), vs = [.ref l, .ref lg, .int (m : Int), .int i] ∧ H l = some (.lst ys) ∧ VlsV H ws ys ∧ H lg = some (.lst gx) ∧ PcT H gs gx ∧ gs[m]? = some c ∧ PcOk c ∧ c.isStep = false ∧ OkAt ws c ∧ ws.length ≤ 1000 ∧ (∀ w ∈ ws, smallD w.2 = true) ∧
 ∀ (l' : Addr) (ws' : List (List Nat × PyData)) (ys' : List V) (H' : Hp), Same H H' → H' l' = some (.lst ys') → VlsV H' ws' ys' → Spo ws ws' c → ws'.length ≤ ws.length + 1 → (∀ w ∈ ws', smallD w.2 = true) → Q (.ref l') H'
def eq8 : Sp := fun vs H Q _ => ∃ (d : PyData) (v : V), vs = [v] ∧ Is H d v ∧ smallD d = true ∧ ∀ H', Same H H' → Q (.bl (ftx d)) H'
def fqe (K : W.Frag) (CN : Addr) : Sp := fun vs H Q E => ∃ (cs : List Pc) (xs : List V) (p q pz : Addr) (cl : Bool) (ws : List (List Nat × PyData)) (ys : List V), vs = [.ref p, .ref pz] ∧ SqT K H p [.ref q, .bl cl] ∧ SqT K H q xs ∧ PcAll K H cs xs ∧ cs.length ≤ 100 ∧ H pz = some (.lst ys) ∧ VlsV H ws ys ∧ ws.length ≤ 100000 ∧
 (otherM cs ws = none → ∀ H', Same H H' → Q .non H') ∧ ∀ n, otherM cs ws = some n → ∀ d H', Same H H' → H' d = some (.xd [("name", tV n)]) → E (.ref CN) (some d) H'
def iqx (K : W.Frag) : Sp := fun vs H Q _ => ∃ c : Int, vs = [.int c] ∧ ∀ (l : List Nat) (H' : Hp), 0 < l.length → l.length ≤ 5 → (∀ c ∈ l, isSg c = true) → isDot l = false → Same H H' → Q (tV l) H'
def gqA (K : W.Frag) : Sp := fun vs H Q _ => ∃ (d : PyData) (v : V), vs = [v] ∧ Is H d v ∧ smallD d = true ∧ ∀ H', Same H H' → Q (.bl (canD d)) H'
def hqm (K : W.Frag) : Sp := fun vs H Q _ => ∃ (c : Int) (n : List Nat), vs = [.int c, tV n] ∧ ∀ (pc : Pc) (p : Addr) (H' : Hp), PcOk pc → pc.isRest = false → (pc.isStep = false → pc.name = n) → Same H H' → H' p = some (.tup pc.vals) → Q (.ref p) H'
def hqO (K : W.Frag) : Sp := fun vs H Q _ => ∃ (c : Pc) (p : Addr) (i : Int), vs = [.ref p, .int i] ∧ H p = some (.tup c.vals) ∧ PcOk c ∧ c.isStep = false ∧ ∀ (x : Vl) (v : V) (H' : Hp), GvOk c x → SmV x → Same H H' → VlV H' x v → (∀ q, v = .ref q → H q = none) → Q v H'
def jqu (K : W.Frag) : Sp := fun vs H Q _ => ∃ (c : Pc) (p : Addr) (d : PyData) (v : V), vs = [.ref p, v] ∧ SqT K H p c.vals ∧ c.isStep = false ∧ c.head.length ≤ 100000 ∧ c.tail.length ≤ 100000 ∧ Is H d v ∧ smallD d = true ∧ ∀ H', Same H H' → Q (.bl (isValD c d)) H'
def gqb (K : W.Frag) : Sp := fun vs H Q _ => ∃ (c : Int) (pn pc : Addr) (ns : List (List Nat)) (cs : List Int), vs = [.int c, .ref pn, .ref pc] ∧ H pn = some (.lst (ns.map tV)) ∧ SqL K H pc (cs.map V.int) ∧ cs.length ≤ ns.length ∧ ns.length ≤ 100 ∧ (∀ n ∈ ns, ∀ x ∈ n, isSg x = true) ∧ ∀ (ps : List Pc) (e : Bool) (p q : Addr) (xs : List V) (H' : Hp), PatOk ps → ps.length = cs.length → (∀ (i : Nat) (c : Pc), ps[i]? = some c → c.isStep = false → ns[i]? = some c.name) → (ps = [] → e = true) → Same H H' → H' q = some (.tup xs) → PcT H' ps xs → H' p = some (.tup [.ref q, .bl e]) → Q (.ref p) H'
def gqu (K : W.Frag) : Sp := fun vs H Q _ => ∃ (cs : List Pc) (e : Bool) (p pc : Addr) (is : List Int), vs = [.ref p, .ref pc] ∧ PtAt H cs e p ∧ (∀ c ∈ cs, PcOk c) ∧ cs.length ≤ 12 ∧ SqL K H pc (is.map V.int) ∧ 0 < is.length ∧ is.length ≤ 100 ∧ ∀ (bs : List (List Nat × Vl)) (l : Addr) (ys : List V) (H' : Hp), GvA cs bs → (∀ b ∈ bs, SmV b.2) → H l = none → FrB H H' ys → Same H H' → H' l = some (.lst ys) → BndV H' l bs ys → Q (.ref l) H'
def fqz (K : W.Frag) (CN : Addr) : Sp := fun vs H Q E => ∃ (c : Pc) (p pz : Addr) (ws : List (List Nat × PyData)) (ys : List V), vs = [.ref p, .ref pz] ∧ SqT K H p c.vals ∧ c.head.length ≤ 100000 ∧ c.tail.length ≤ 100000 ∧ H pz = some (.lst ys) ∧ VlsV H ws ys ∧ ws.length ≤ 100000 ∧ (∀ w ∈ ws, smallD w.2 = true) ∧
 (∀ ss, fillS c ws = .ok ss → ∀ (q : Addr) (H' : Hp), Same H H' → H' q = some (.lst (ss.map tV)) → Q (.ref q) H') ∧
 ∀ n, fillS c ws = .error n → ∀ d H', Same H H' → H' d = some (.xd [("name", tV n)]) → E (.ref CN) (some d) H'
def kqc (K : W.Frag) (CN : Addr) : Sp := fun vs H Q E => ∃ (cs : List Pc) (xs : List V) (p q pz : Addr) (cl : Bool) (ws : List (List Nat × PyData)) (ys : List V), vs = [.ref p, .ref pz] ∧ SqT K H p [.ref q, .bl cl] ∧ SqT K H q xs ∧ PcAll K H cs xs ∧ cs.length ≤ 100 ∧ PcSz cs ∧ H pz = some (.lst ys) ∧ VlsV H ws ys ∧ ws.length ≤ 100000 ∧ (∀ w ∈ ws, smallD w.2 = true) ∧
 (∀ ss, fillM cs ws = .ok ss → ∀ (pw qw : Addr) (H' : Hp), Same H H' → H' qw = some (.tup (ss.map tV)) → H' pw = some (.tup [.bl true, .ref qw, .bl cl]) → Q (.ref pw) H') ∧ ∀ n, fillM cs ws = .error n → ∀ d H', Same H H' → H' d = some (.xd [("name", tV n)]) → E (.ref CN) (some d) H'
def dqs (K : W.Frag) (C : Addr) : Sp := fun vs H Q _ => ∃ (cs : List Pc) (xs : List V) (p q pz : Addr) (cl : Bool) (ws : List (List Nat × PyData)) (ys : List V), vs = [.ref p, .ref pz] ∧ SqT K H p [.ref q, .bl cl] ∧ SqT K H q xs ∧ PcAll K H cs xs ∧ cs.length ≤ 100 ∧ PcSz cs ∧ H pz = some (.lst ys) ∧ VlsV H ws ys ∧ ws.length ≤ 100000 ∧ (∀ w ∈ ws, smallD w.2 = true) ∧
 (∀ ss, fillM cs ws = .ok ss → ∀ H', Same H H' → Q .non H') ∧ ∀ n, fillM cs ws = .error n → ∀ a d H', Same H H' → H' a = some (exC a C (some d)) → H' d = some (.xd [("name", tV n)]) → Q (.ref a) H'
def jqU (K : W.Frag) : Sp := fun vs H Q _ => ∃ (a : Addr) (ns : List Int), vs = [.ref a] ∧ SqL K H a (ns.map V.int) ∧ ns.length ≤ 63 ∧ ∀ H', Q (.bl true) H'
section
variable {H : Hp} {Q : VK} {E : XK} {K : W.Frag}
theorem oq7 : eqP [] H Q E ↔ Q (.str ⟨SG.toArray⟩) H := ⟨fun h => h.2, fun h => ⟨rfl, h⟩⟩
end
section
variable {P : Program} {w : World} {K : W.Frag} {mg : Str → Option Value} {base : Heap}
seal PE PA PT PS PSs PG PI PF PO PW
local macro_rules | `(tactic| walk_at "rd") => `(tactic| simp only [L2.start, List.map_cons, List.map_nil, List.length_cons, List.length_nil, Nat.reduceAdd, Nat.reduceSub, Nat.zero_add, List.replicate_succ, List.replicate_zero, L2.pq5, L2.rd_C, L2.pq6, L2.pqz, L2.mqj, L2.qqD, L2.oq3, L2.pqm, L2.oqR, L2.pq2, L2.qqA, L2.nqV, L2.qqS, L2.pqj, L2.rd_B, L2.pqo, L2.qqM, L2.qqp, L2.pqg, L2.qqo, L2.oqx, L2.qqO, L2.mql, L2.pqS, L2.oq2, L2.qqx, L2.pqZ, L2.nq3, L2.nq9, L2.oqj, L2.cqc, L2.oqD, L2.oqW, L2.oqp, L2.nqa, L2.oqB, L2.qq0, L2.qqY, L2.qqI, L2.qqV, L2.lqe, L2.nqS, L2.mqJ, L2.rd_I, L2.mqW, L2.oqX, L2.aqI, L2.nqT, L2.lqn, L2.hqD, L2.nqH, L2.nqN, L2.pql, L2.mqu, L2.oqM, L2.oq1, L2.mqi, L2.pqn, L2.pqW, L2.pq8, L2.gq9, L2.pqu, L2.oqv, L2.mqf, L2.oqm, L2.mq3, L2.mq2, L2.lqL, L2.nqf, L2.mq4, L2.lqE, L2.kqs, L2.fqc, L2.fqA, L2.fqC, L2.fqb, L2.eqs, L2.hqB, L2.iqh, L2.iqW, L2.hqN, L2.gqy, L2.iqg, L2.jqe, L2.jqc, L2.iqn, L2.hqq, L2.iqr, L2.jqa, L2.iqZ, L2.iqP, L2.hqM, L2.hqQ, L2.iqv, L2.iqb, L2.hq0, L2.gqC, L2.gqD, L2.hqF, L2.hqZ, L2.gqz, L2.gqn, L2.pqf, L2.nqO, L2.nqh, L2.oqi, L2.oq8, L2.cx_K, L2.qqJ, L2.pqQ, L2.qqa, L2.qqc, L2.pqE, L2.jqN, L2.pqs, L2.qqW, L2.pqX, L2.lqO, L2.qqL, L2.qq1, L2.qqK, L2.mq8, L2.mqZ, L2.nq4, L2.mqr, Option.getD_some, L2.pq3, L2.qqP, L2.rd_U, L2.pqO, L2.oqY, L2.mqE, L2.pqa, L2.jqy, L2.nqU, L2.qqe, L2.pqB, L2.nq8, L2.oqV, L2.nqQ, L2.oqe, List.getElem?_cons_zero, List.getElem?_cons_succ, List.set_cons_zero, List.set_cons_succ, List.nil_append, List.cons_append, List.append_nil, Option.some.injEq, exists_eq_left, exists_eq_left', true_and, and_true, L2.V.bl.injEq, L2.V.int.injEq, L2.V.str.injEq, L2.V.ref.injEq, List.cons.injEq, reduceCtorEq, false_and, and_false, exists_false, false_or, or_false, decide_eq_true_eq, Bool.not_true, Bool.not_false, ↓reduceIte, if_true, if_false, not_true_eq_false, not_false_eq_true, decide_true, decide_false, Bool.false_eq_true, oq7, L2.mqX, L2.oql, L2.mqK, L2.nqc, L2.qqB, qqi, L2.qqu, L2.mqv, L2.qqQ, L2.nqY, L2.mqs, L2.mqF, L2.mqc, L2.qqZ, L2.lql, L2.oqT, L2.pqT, L2.jqH, L2.pq9, L2.qqq, L2.oqr, L2.pqK, L2.qqr, L2.pqy, L2.nqK, L2.oqU, L2.oq9, L2.pqc, L2.oqn, L2.lq2, L2.kqN, L2.nqb, L2.kql, L2.mqC, L2.kqb, L2.kqh, L2.jqH, L2.lqM, L2.oqK, L2.jq9, L2.qql, L2.oqd, L2.nqX, L2.pqd, L2.nq7, L2.pqD, L2.nqo, L2.lqg, L2.qqH, L2.oqo, L2.nqR, L2.nqI, L2.mqQ, L2.nq1, L2.nqC, L2.oq5, L2.lqi, L2.nqZ, L2.kqd, pqP, mqA, cqI, bqG, nqG, oqL, List.drop_succ_cons, List.drop_zero, L2.nqg, L2.pq4, L2.qqd, L2.pqU, Bool.not_eq_true', decide_eq_false_iff_not])
theorem jq5 : FnScope ["text", "signs"] ["text", "signs"] (defScope equ) := ⟨rfl, rfl, rfl, by decide +kernel, rfl, by decide +kernel, by decide +kernel⟩
theorem eqi : FnScope ["thing"] ["thing"] (defScope aqT) := ⟨rfl, rfl, rfl, by decide +kernel, rfl, by decide +kernel, by decide +kernel⟩
theorem dq6 : FnScope ["self", "name"] ["self", "name"] (defScope aqE) := ⟨rfl, rfl, rfl, by decide +kernel, rfl, by decide +kernel, by decide +kernel⟩
theorem lqf : FnScope ["step"] ["step"] (defScope fqJ) := ⟨rfl, rfl, rfl, by decide +kernel, rfl, by decide +kernel, by decide +kernel⟩
theorem kqK : FnScope ["piece"] ["piece"] (defScope fqO) := ⟨rfl, rfl, rfl, by decide +kernel, rfl, by decide +kernel, by decide +kernel⟩
theorem kqC : FnScope ["gap"] ["gap"] (defScope eqc) := ⟨rfl, rfl, rfl, by decide +kernel, rfl, by decide +kernel, by decide +kernel⟩
theorem kqa : FnScope ["piece"] ["piece"] (defScope eqI) := ⟨rfl, rfl, rfl, by decide +kernel, rfl, by decide +kernel, by decide +kernel⟩
theorem kqA : FnScope ["piece"] ["piece"] (defScope eqQ) := ⟨rfl, rfl, rfl, by decide +kernel, rfl, by decide +kernel, by decide +kernel⟩
theorem gqg : FnScope ["_law_script", "_law_k"] ["_law_script", "_law_k"] (defScope bqC) := ⟨rfl, rfl, rfl, by decide +kernel, rfl, by decide +kernel, by decide +kernel⟩
theorem aqy : FnScope ["_law_cell", "_law_many", "_law_letters", "_law_size", "_law_at", "_law_names_here", "_law_k", "_law_name", "_law_j", "_law_step_here"] ["_law_cell", "_law_many"] (defScope cqi) := ⟨rfl, rfl, rfl, by decide +kernel, rfl, by decide +kernel, by decide +kernel⟩
theorem eqp : FnScope ["_law_some"] [] (defScope cqx) := ⟨rfl, rfl, rfl, by decide +kernel, rfl, by decide +kernel, by decide +kernel⟩
theorem iqC : FnScope ["_law_pattern_here"] ["_law_pattern_here"] (defScope cqO) := ⟨rfl, rfl, rfl, by decide +kernel, rfl, by decide +kernel, by decide +kernel⟩
theorem fqZ : FnScope ["_law_piece_here"] ["_law_piece_here"] (defScope bqA) := ⟨rfl, rfl, rfl, by decide +kernel, rfl, by decide +kernel, by decide +kernel⟩
theorem bqv : FnScope ["_law_values_here", "_law_cell", "_law_found", "_law_k", "_law_other"] ["_law_values_here", "_law_cell"] (defScope bqS) := ⟨rfl, rfl, rfl, by decide +kernel, rfl, by decide +kernel, by decide +kernel⟩
theorem aqQ : FnScope ["_law_piece_here", "_law_cell", "_law_some", "_law_dot"] ["_law_piece_here", "_law_cell"] (defScope dqN) := ⟨rfl, rfl, rfl, by decide +kernel, rfl, by decide +kernel, by decide +kernel⟩
theorem hqS : FnScope ["_law_error"] ["_law_error"] (defScope cqt) := ⟨rfl, rfl, rfl, by decide +kernel, rfl, by decide +kernel, by decide +kernel⟩
theorem kqy : FnScope ["thing"] ["thing"] (defScope eqx) := ⟨rfl, rfl, rfl, by decide +kernel, rfl, by decide +kernel, by decide +kernel⟩
theorem jqv : FnScope ["pieces"] ["pieces"] (defScope dqO) := ⟨rfl, rfl, rfl, by decide +kernel, rfl, by decide +kernel, by decide +kernel⟩
theorem jq3 : FnScope ["text"] ["text"] (defScope eqg) := ⟨rfl, rfl, rfl, by decide +kernel, rfl, by decide +kernel, by decide +kernel⟩
theorem fqd : FnScope ["gap", "value"] ["gap", "value"] (defScope aq7) := ⟨rfl, rfl, rfl, by decide +kernel, rfl, by decide +kernel, by decide +kernel⟩
theorem bqI : FnScope ["_law_cell", "_law_pool", "_law_text_here", "_law_k"] ["_law_cell"] (defScope cqW) := ⟨rfl, rfl, rfl, by decide +kernel, rfl, by decide +kernel, by decide +kernel⟩
theorem bqR : FnScope ["_law_values_here", "_law_gaps_here", "_law_at", "_law_cell", "_law_name", "_law_own", "_law_other"] ["_law_values_here", "_law_gaps_here", "_law_at", "_law_cell"] (defScope cqz) := ⟨rfl, rfl, rfl, by decide +kernel, rfl, by decide +kernel, by decide +kernel⟩
theorem fqf : FnScope ["thing"] ["thing"] (defScope aq8) := ⟨rfl, rfl, rfl, by decide +kernel, rfl, by decide +kernel, by decide +kernel⟩
theorem aq2 : FnScope ["pattern", "values", "names", "name", "value"] ["pattern", "values"] (defScope bqf) := ⟨rfl, rfl, rfl, by decide +kernel, rfl, by decide +kernel, by decide +kernel⟩
theorem dqz : FnScope ["_law_cell", "_law_text_here"] ["_law_cell"] (defScope cqT) := ⟨rfl, rfl, rfl, by decide +kernel, rfl, by decide +kernel, by decide +kernel⟩
theorem gqw : FnScope ["thing"] ["thing"] (defScope bqT) := ⟨rfl, rfl, rfl, by decide +kernel, rfl, by decide +kernel, by decide +kernel⟩
theorem bqX : FnScope ["_law_cell", "_law_name", "_law_head", "_law_tail"] ["_law_cell", "_law_name"] (defScope cqp) := ⟨rfl, rfl, rfl, by decide +kernel, rfl, by decide +kernel, by decide +kernel⟩
theorem cqL : FnScope ["_law_piece_here", "_law_cell", "_law_text_here"] ["_law_piece_here", "_law_cell"] (defScope cqq) := ⟨rfl, rfl, rfl, by decide +kernel, rfl, by decide +kernel, by decide +kernel⟩
theorem jqh : FnScope ["gap", "value"] ["gap", "value"] (defScope dqP) := ⟨rfl, rfl, rfl, by decide +kernel, rfl, by decide +kernel, by decide +kernel⟩
theorem dqv : FnScope ["_law_cell", "_law_names_here", "_law_cells", "_law_pieces"] ["_law_cell", "_law_names_here", "_law_cells"] (defScope bqB) := ⟨rfl, rfl, rfl, by decide +kernel, rfl, by decide +kernel, by decide +kernel⟩
theorem aqX : FnScope ["_law_pattern_here", "_law_cells", "_law_found", "_law_k", "_law_piece_here", "_law_cell"] ["_law_pattern_here", "_law_cells"] (defScope bqP) := ⟨rfl, rfl, rfl, by decide +kernel, rfl, by decide +kernel, by decide +kernel⟩
theorem dqo : FnScope ["piece", "values", "named"] ["piece", "values"] (defScope bqE) := ⟨rfl, rfl, rfl, by decide +kernel, rfl, by decide +kernel, by decide +kernel⟩
theorem fqV : FnScope ["pattern", "values", "steps", "piece"] ["pattern", "values"] (defScope fqK) := ⟨rfl, rfl, rfl, by decide +kernel, rfl, by decide +kernel, by decide +kernel⟩
theorem cqB : FnScope ["_law_pattern_here", "_law_values_here", "_law_found", "e"] ["_law_pattern_here", "_law_values_here"] (defScope cq0) := ⟨rfl, rfl, rfl, by decide +kernel, rfl, by decide +kernel, by decide +kernel⟩
theorem bqn : FnScope ["_law_script", "_law_names_here", "_law_pattern_here", "_law_cell", "_law_good", "_law_gaps_here", "_law_values_here", "_law_spoiled", "_law_at", "_law_strange", "_law_other", "_law_due", "_law_k", "_law_error"] ["_law_script"] (defScope nqj) := ⟨rfl, rfl, rfl, by decide +kernel, rfl, by decide +kernel, by decide +kernel⟩
theorem gqZ (g : G K mg) : FnOk P w K mg base CX0 1 g.eqM g.dqU ["text", "signs"] kqx := by
 refine g.eqj.ok jq5 (fun vs H Q E h => ?_) (fun cdv A outer s H vs Q E hr h => ?_)
 ·obtain ⟨x, y, rfl, _⟩ := h; rfl
 ·obtain ⟨x, y, rfl, hx, k⟩ := h
  refine ⟨_, (aqd (aqr (aqt (iql (K := K) rfl rfl) rfl g.oqF PyProof.Rows.boot_all (aqa (dq7 (fx := ["signs"]) (fr := [1]) rfl rfl (by decide +kernel) rfl (by decide +kernel) rfl (by decide +kernel) rfl (.cons rfl rfl rfl rfl .nil) rfl (pqL (pv 0)) (fun _ _ _ => iqI) (fun _ _ _ => (cq6 qqk (pv 0) (pv 1) (by with_unfolding_all rfl)))) aqb)))), ?_⟩
  walk_at "rd"
  intro p hp
  refine mq6 (z := x) (aqv hx) hp (fun c => .bl (decide (c ∈ y.cps.toList))) (fun c hc H' R hR => ?_) (fun H' sm hp' => ?_)
  ·walk_at "rd"
   exact hR H' (Same.refl _)
  ·refine jqy.mpr ⟨x.cps.toList.map fun c => decide (c ∈ y.cps.toList), SqL.of (by rw [hp', List.map_map]; rfl), ?_⟩
   rw [List.all_map]
   exact k H' sm
theorem eqL (g : G K mg) : FnOk P w K mg base CX0 1 g.aqV g.aqO ["thing"] eqG := by
 refine g.bqp.ok eqi (fun vs H Q E h => ?_) (fun cdv A outer s H vs Q E hr h => ?_)
 ·obtain ⟨d, v, rfl, _⟩ := h; rfl
 ·obtain ⟨d, v, rfl, hv, k⟩ := h
  refine ⟨_, (aqd (aqr (dqr (aqt cqK rfl g.aqx aqq (aqa (pv 0) (aqa (eqb (v := .ty "int") rfl g.pqp pq1 rfl) aqb))) (dqg (iqs (aqt cqK rfl g.aqx aqq (aqa (pv 0) (aqa (eqb (v := .ty "bool") rfl g.nqs oqI rfl) aqb)))))))), ?_⟩
  cases hv with
  | lst hp r => walk_at "rd"; simp only [fqM hp]; walk_at "rd"; exact k
  | tup hp r => walk_at "rd"; simp only [fqD hp]; walk_at "rd"; exact k
  | dic hp => walk_at "rd"; exact ⟨"dict", by simp only [kindV, hp], ite2 (fun z => absurd z (by decide)) (fun _ => k)⟩
  | _ => walk_at "rd"; exact k
theorem bq9 (g : G K mg) : FnOk P w K mg base CX0 1 g.aqP g.aqJ ["self", "name"] (bqa K g.aqo) := by
 refine g.cqy.ok dq6 (fun vs H Q E h => ?_) (fun cdv A outer s H vs Q E hr h => ?_)
 ·obtain ⟨a, v, rfl, _⟩ := h; rfl
 ·obtain ⟨a, v, rfl, ha, k⟩ := h
  refine ⟨_, (aqd (oqq (pv 0) (pv 1) rfl)), ?_⟩
  walk_at "rd"
  exact ⟨a, _, rfl, ha, g.dqh, fun d hd => k d hd⟩
theorem iqu (g : G K mg) : FnOk P w K mg base CX0 1 g.fqG g.eqN ["step"] iqX := by
 refine g.fqH.ok lqf (fun vs H Q E h => ?_) (fun cdv A outer s H vs Q E hr h => ?_)
 ·obtain ⟨s, rfl, _⟩ := h; rfl
 ·obtain ⟨s, rfl, k⟩ := h
  refine ⟨_, (aqd (aqr (pqY (cq6 aq9 (pv 0) (bqh (v := pqr) rfl g.nqr ⟨_, rfl⟩) (nomark _)) (dqg (cq6 aq9 (pv 0) (bqh (v := k_UP) rfl g.c_UP ⟨_, rfl⟩) (nomark _)))))), ?_⟩
  have d1 : Str.ofString ".." = ⟨sUp.toArray⟩ := by decide +kernel
  have d2 : Str.ofString "." = ⟨sStay.toArray⟩ := by decide +kernel
  walk_at "rd"
  rw [d1, d2]
  simp only [fqU]
  by_cases h2 : s = sStay
  ·rw [if_pos h2]
   rw [show isDot s = true by simp [isDot, h2]] at k
   exact k
  ·rw [if_neg h2]
   rw [show isDot s = decide (s = sUp) by simp [isDot, h2]] at k
   exact k
theorem iqS (g : G K mg) : FnOk P w K mg base CX0 1 g.fqT g.eqA ["piece"] (lqR K) := by
 refine g.fqS.ok kqK (fun vs H Q E h => ?_) (fun cdv A outer s H vs Q E hr h => ?_)
 ·obtain ⟨c, p, rfl, _⟩ := h; rfl
 ·obtain ⟨c, p, rfl, hp, k⟩ := h
  refine ⟨_, (aqd (aqr (cq6 nqd (aqz (aqg (K := K) rfl) (pv 0) aqc (fun _ _ => rfl)) aqi (nomark _)))), ?_⟩
  walk_at "rd"
  refine ⟨_, _, .inr hp, c.at0, ?_⟩
  refine L2.hqD.mpr ?_
  rw [lqT]
  exact k
theorem eq9 (g : G K mg) : FnOk P w K mg base CX0 1 g.eqy g.dqV ["gap"] (gqH K) := by
 refine g.dqu.ok kqC (fun vs H Q E h => ?_) (fun cdv A outer s H vs Q E hr h => ?_)
 ·obtain ⟨c, p, rfl, _⟩ := h; rfl
 ·obtain ⟨c, p, rfl, hp, hc, k⟩ := h
  refine ⟨_, (aqd (aqr (fqL (aqp aq9 (aqz (aqg (K := K) rfl) (pv 0) aqc (fun _ _ => rfl)) aqi (nomark _)) (aqz (aqg (K := K) rfl) (pv 0) aqc (fun _ _ => rfl)) (aqz (aqg (K := K) rfl) (pv 0) aqc (fun _ _ => rfl))))), ?_⟩
  walk_at "rd"
  refine ⟨_, _, .inr hp, c.at0, ?_⟩
  refine L2.aqI.mpr ⟨_, rfl, ?_⟩
  rw [eq1]
  cases c with
  | step s => cases hc
  | part h n t => exact ite2 (fun _ => ⟨_, _, .inr hp, aqn (j := 2) rfl, k⟩) (fun z => absurd rfl z)
  | num n => exact ite2 (fun z => by cases z) (fun _ => ⟨_, _, .inr hp, aqn (j := 1) rfl, k⟩)
  | word n => exact ite2 (fun z => by cases z) (fun _ => ⟨_, _, .inr hp, aqn (j := 1) rfl, k⟩)
  | gap n => exact ite2 (fun z => by cases z) (fun _ => ⟨_, _, .inr hp, aqn (j := 1) rfl, k⟩)
  | rest n => exact ite2 (fun z => by cases z) (fun _ => ⟨_, _, .inr hp, aqn (j := 1) rfl, k⟩)
theorem gqK (g : G K mg) : FnOk P w K mg base CX0 1 g.eqq g.dqI ["piece"] (kqp K) := by
 refine g.eqo.ok kqa (fun vs H Q E h => ?_) (fun cdv A outer s H vs Q E hr h => ?_)
 ·obtain ⟨c, p, rfl, _⟩ := h; rfl
 ·obtain ⟨c, p, rfl, hp, k⟩ := h
  refine ⟨_, (aqd (aqr (fqL (aqp aq9 (aqz (aqg (K := K) rfl) (pv 0) aqc (fun _ _ => rfl)) aqi (nomark _)) (aqz (aqg (K := K) rfl) (pv 0) aqc (fun _ _ => rfl)) aqi))), ?_⟩
  walk_at "rd"
  refine ⟨_, _, .inr hp, c.at0, ?_⟩
  refine L2.aqI.mpr ⟨_, rfl, ?_⟩
  rw [eq1]
  cases c with
  | part h n t => exact ite2 (fun _ => ⟨_, _, .inr hp, aqn (j := 1) rfl, k⟩) (fun z => absurd rfl z)
  | _ => exact ite2 (fun z => by cases z) (fun _ => k)
theorem gqV (g : G K mg) : FnOk P w K mg base CX0 1 g.eqw g.dqT ["piece"] (kqw K) := by
 refine g.eqr.ok kqA (fun vs H Q E h => ?_) (fun cdv A outer s H vs Q E hr h => ?_)
 ·obtain ⟨c, p, rfl, _⟩ := h; rfl
 ·obtain ⟨c, p, rfl, hp, k⟩ := h
  refine ⟨_, (aqd (aqr (fqL (aqp aq9 (aqz (aqg (K := K) rfl) (pv 0) aqc (fun _ _ => rfl)) aqi (nomark _)) (aqz (aqg (K := K) rfl) (pv 0) aqc (fun _ _ => rfl)) aqi))), ?_⟩
  walk_at "rd"
  refine ⟨_, _, .inr hp, c.at0, ?_⟩
  refine L2.aqI.mpr ⟨_, rfl, ?_⟩
  rw [eq1]
  cases c with
  | part h n t => exact ite2 (fun _ => ⟨_, _, .inr hp, aqn (j := 3) rfl, k⟩) (fun z => absurd rfl z)
  | _ => exact ite2 (fun z => by cases z) (fun _ => k)
theorem bqj (g : G K mg) : FnOk P w K mg base CX0 1 g.bqD g.bqe ["_law_script", "_law_k"] (gqm K) := by
 refine g.aqM.ok gqg (fun vs H Q E h => ?_) (fun cdv A outer s H vs Q E hr h => ?_)
 ·obtain ⟨a, ns, k, rfl, _⟩ := h; rfl
 ·obtain ⟨a, ns, i, rfl, hS, k⟩ := h
  refine ⟨_, (aqe (aqW (aqp mqI (pv 1) (aqt (aqH (K := K) rfl) rfl g.dqX PySem.boot_len (aqa (pv 0) aqb)) (nomark _))
    (aqd (aqr (aqz (aqg (K := K) rfl) (pv 0) (pv 1) (fun _ _ => rfl)))) aqB)
   (aqd (aqr aqc))), ?_⟩
  walk_at "rd"
  refine ⟨ns.map V.int, .inl hS, ite2 (fun h => ?_) (fun h => ?_)⟩
  ·rw [List.length_map] at h
   exact ⟨ns.map V.int, _, .inl hS, oqb (by lia), k⟩
  ·rw [List.length_map] at h
   rw [List.getD_eq_getElem?_getD, List.getElem?_eq_none (by lia)] at k
   exact k
theorem hqg (g : G K mg) : FnOk P w K mg base CX0 1 g.cqs g.bqU ["_law_cell", "_law_many"] (hqy K) := by
 refine g.dqm.ok aqy (fun vs H Q E h => ?_) (fun cdv A outer s H vs Q E hr h => ?_)
 ·obtain ⟨c, m, rfl, _⟩ := h; rfl
 ·obtain ⟨c, m, rfl, hm, k⟩ := h
  refine ⟨_, (aqe (aqs (i := 2) aqy.nd rfl (Or.inl rfl) aqi)
   (aqe (aqs (i := 3) aqy.nd rfl (Or.inl rfl) (aqf (aqm (K := K)) aqc (aqf aqC (pv 0) aqc)))
   (aqe (aqs (i := 4) aqy.nd rfl (Or.inl rfl) (aqf aqC (aqf aqA (pv 0) aqc) (pv 3)))
   (aqe (aqs (i := 5) aqy.nd rfl (Or.inl rfl) (aqu aqb))
   (aqe (eqt PassesOwn.never rfl (bqJ rfl g.cq9 (aqa (pv 1) aqb)) (bqb (i := 6) aqy.nd rfl (Or.inl rfl))
   (aqe (aqs (i := 7) aqy.nd rfl (Or.inl rfl) aqi)
   (aqN (eqt PassesOwn.never rfl (bqJ rfl g.cq9 (aqa (pv 3) aqb)) (bqb (i := 8) aqy.nd rfl (Or.inl rfl))
   (aqe (aqs (i := 9) aqy.nd rfl (Or.inl rfl) (aqf (aqm (K := K)) (aqf aqA (pv 0) (aqf (aqm (K := K)) aqc (aqf cq7 aqc (pv 8)))) (aqf cq7 (aqf cq7 aqc (pv 8)) (pv 8))))
   (aqN (aqW (aqp aq9 (pv 8) (pv 4) (nomark _))
    (aqd (aqs (i := 9) aqy.nd rfl (Or.inl rfl) (aqf (aqm (K := K)) (pv 9) (pv 6)))) aqB)
   (aqd (aqs (i := 7) aqy.nd rfl (Or.inl rfl) (aqf (aqm (K := K)) (pv 7) (aqz (aqg (K := K) rfl) (pv 2) (aqf aqC (pv 9) aqc) (fun _ _ => rfl))))))))
   (aqN (aqW (PW.pt (lqK (aqp aq9 (aqf aqC (aqf aqA (pv 0) aqc) aqc) aqc (nomark _)) (jqo (aqp aq9 (aqf aqC (pv 6) aqc) aqc (nomark _)))))
    (aqd (aqs (i := 7) aqy.nd rfl (Or.inl rfl) (aqf (aqm (K := K)) (pv 7) (aqz (aqg (K := K) rfl) (pv 2) (aqf aqC (aqf aqA (pv 0) aqc) aqc) (fun _ _ => rfl))))) aqB)
   (aqd (hqL (kq1 (K := K) rfl PySem.F.plainAttrs_list PySem.F.slot_list_append PySem.F.type_list_append eqH (pv 5) (aqa (pv 7) aqb))))))))
   (aqd (aqr (pv 5)))))))), ?_⟩
  have eL : Str.ofString "abcdefghijklmnopqrstuvwxyz" = ⟨smaL.toArray⟩ := by unfold smaL; simp
  rw [eL]
  walk_at "rd"
  refine ⟨by decide, ⟨by decide, by decide⟩, by lia, by decide, fun p H1 n1 s1 e1 => ⟨by lia, by lia, ?_⟩⟩
  rw [Int.toNat_natCast]
  obtain ⟨sz, hsz, hs1, hs7⟩ : ∃ sz : Nat, 1 + c % 7 = (sz : Int) ∧ 1 ≤ sz ∧ sz ≤ 7 := ⟨(1 + c % 7).toNat, by lia, by lia, by lia⟩
  rw [hsz]
  obtain ⟨at_, ha, hat⟩ : ∃ a : Nat, c / 7 % (sz : Int) = (a : Int) ∧ a < sz := by
   have h1 := Int.emod_nonneg (c / 7) (show (sz : Int) ≠ 0 by lia)
   have h2 := Int.emod_lt_of_pos (c / 7) (show 0 < (sz : Int) by lia)
   exact ⟨(c / 7 % (sz : Int)).toNat, by lia, by lia⟩
  rw [ha]
  obtain ⟨X, hX⟩ : ∃ X : Int, X = c / (49 + 11 * (at_ : Int)) + 3 * (at_ : Int) * (at_ : Int) := ⟨_, rfl⟩
  refine cqJ (fun i σ H' => ∃ (ns : List (List Nat)) (v6 v7 v8 v9 : Option V), σ = [some (.int c), some (.int (m : Int)), some (tV smaL), some (.int (sz : Int)), some (.int (at_ : Int)), some (.ref p), v6, v7, v8, v9] ∧ ns.length = i ∧ (∀ n ∈ ns, 0 < n.length ∧ n.length ≤ 8 ∧ n.all isSma = true) ∧ (∀ (k : Nat) (n : List Nat), ns[k]? = some n → NmAt X at_ k n) ∧ Same H H' ∧ H' p = some (.lst (ns.map tV))) ⟨[], none, none, none, none, rfl, rfl, by simp, (fun k n h => by cases h), s1, e1⟩ ?_ ?_
  ·rintro i σ H2 hi ⟨ns, v6, v7, v8, v9, rfl, hl, hns, hnm, s2, e2⟩
   walk_at "rd"
   refine ⟨fun σ H3 => H3 = H2 ∧ ∃ (l : List Nat) (v8 v9 : Option V), l.length = sz ∧ NmAt X at_ i l ∧ l.all isSma = true ∧ σ = [some (.int c), some (.int (m : Int)), some (tV smaL), some (.int (sz : Int)), some (.int (at_ : Int)), some (.ref p), some (.int (0 + (i : Int))), some (tV l), v8, v9], ?_, ?_⟩
   ·refine ⟨by lia, by lia, ?_⟩
    rw [Int.toNat_natCast]
    refine cqJ (fun j σ H3 => H3 = H2 ∧ ∃ (l : List Nat) (v8 v9 : Option V), l.length = j ∧ (at_ < j → NmAt X at_ i l) ∧ l.all isSma = true ∧ σ = [some (.int c), some (.int (m : Int)), some (tV smaL), some (.int (sz : Int)), some (.int (at_ : Int)), some (.ref p), some (.int (0 + (i : Int))), some (tV l), v8, v9]) ⟨rfl, [], _, _, rfl, (fun z => absurd z (by lia)), rfl, rfl⟩ ?_ (fun σ H3 ⟨h1, l, v8, v9, h2, h3, h4, h5⟩ => ⟨h1, l, v8, v9, h2, h3 hat, h4, h5⟩)
    rintro j σ H3 hj ⟨rfl, l, v8, v9, hll, hln, hla, rfl⟩
    walk_at "rd"
    refine ⟨.inl ⟨by decide, by decide⟩, ⟨by lia, by lia⟩, .inl ⟨by decide, by decide⟩, .inr ⟨by lia, by lia⟩, ?_⟩
    refine ⟨fun σ H4 => H4 = H3 ∧ ∃ x : Int, (j = at_ → x = X + (i : Int)) ∧ σ = [some (.int c), some (.int (m : Int)), some (tV smaL), some (.int (sz : Int)), some (.int (at_ : Int)), some (.ref p), some (.int (0 + (i : Int))), some (tV l), some (.int (0 + (j : Int))), some (.int x)], ?_, ?_⟩
    ·refine ite2 (fun z => ⟨rfl, _, fun e => ?_, rfl⟩) (fun z => ⟨rfl, _, fun e => absurd (by rw [e]; lia) z, rfl⟩)
     rw [hX, e, Int.zero_add, Int.zero_add]
    rintro σ H4 ⟨rfl, x, hx, rfl⟩
    obtain ⟨d, hd, hds⟩ := nqt x
    walk_at "rd"
    refine ⟨by decide, d, by decide +kernel, hd, aqv (by lia), l ++ [d], _, _, by rw [List.length_append, List.length_singleton, hll], fun z => ?_, by rw [List.all_append, hla]; simp [hds], rfl, rfl, rfl⟩
    by_cases ej : j = at_
    ·rw [hx ej] at hd
     exact ⟨d, by rw [List.getElem?_append_right (by lia), hll, ej, Nat.sub_self]; rfl, hd⟩
    ·exact (hln (by lia)).app
   rintro σ H3 ⟨rfl, l, v8, v9, hll, hln, hla, rfl⟩
   walk_at "rd"
   refine ⟨fun σ H4 => H4 = H3 ∧ ∃ (l : List Nat), (0 < l.length ∧ l.length ≤ 8 ∧ l.all isSma = true) ∧ NmAt X at_ i l ∧ σ = [some (.int c), some (.int (m : Int)), some (tV smaL), some (.int (sz : Int)), some (.int (at_ : Int)), some (.ref p), some (.int (0 + (i : Int))), some (tV l), v8, v9], ?_, ?_⟩
   ·have stay : H3 = H3 ∧ ∃ (l' : List Nat), (0 < l'.length ∧ l'.length ≤ 8 ∧ l'.all isSma = true) ∧ NmAt X at_ i l' ∧ [some (V.int c), some (.int (m : Int)), some (tV smaL), some (.int (sz : Int)), some (.int (at_ : Int)), some (.ref p), some (.int (0 + (i : Int))), some (tV l), v8, v9] = [some (V.int c), some (.int (m : Int)), some (tV smaL), some (.int (sz : Int)), some (.int (at_ : Int)), some (.ref p), some (.int (0 + (i : Int))), some (tV l'), v8, v9] := ⟨rfl, l, ⟨by lia, by lia, hla⟩, hln, rfl⟩
    refine ⟨⟨by decide, by decide⟩, by decide, ite2 (fun _ => ⟨by decide, ite2 (fun _ => ?_) (fun _ => stay)⟩) (fun _ => stay)⟩
    obtain ⟨d, hd, hds⟩ := nqt (c / 686)
    refine ⟨⟨by decide, by decide⟩, by decide, d, by decide +kernel, hd, aqv (by lia), rfl, l ++ [d], ⟨by rw [List.length_append, List.length_singleton]; lia, by rw [List.length_append, List.length_singleton]; lia, by rw [List.all_append, hla]; simp [hds]⟩, hln.app, ?_⟩
    simp
   rintro σ H4 ⟨rfl, l2, hl2, hn2, rfl⟩
   walk_at "rd"
   refine ⟨⟨_, .of e2⟩, _, e2, by rw [List.length_map]; exact Nat.lt_of_le_of_lt (show ns.length ≤ 26 by lia) (by decide), ns ++ [l2], _, _, _, _, ⟨rfl, rfl, rfl, rfl⟩, by rw [List.length_append, List.length_singleton, hl], fun n hn => ?_, fun k n hk => ?_, eqd n1 s2, by rw [aqk, List.map_append]; rfl⟩
   rcases List.mem_append.mp hn with z | z
   ·exact hns n z
   ·rw [List.mem_singleton.mp z]; exact hl2
   ·by_cases hk2 : k < ns.length
    ·rw [List.getElem?_append_left hk2] at hk
     exact hnm k n hk
    ·rw [List.getElem?_append_right (by lia)] at hk
     have hk3 : k - ns.length = 0 := by
      cases hh : k - ns.length with
      | zero => rfl
      | succ z => rw [hh] at hk; cases hk
     rw [hk3] at hk
     cases hk
     rw [show k = i by lia]
     exact hn2
  ·rintro σ H2 ⟨ns, v6, v7, v8, v9, rfl, hl, hns, hnm, s2, e2⟩
   walk_at "rd"
   exact k ns p H2 hl hns (mqq hnm (by lia)) s2 e2
theorem hqz (g : G K mg) : FnOk P w K mg base CX0 1 g.cqh g.bqO [] eqP := by
 refine g.dqp.ok eqp (fun vs H Q E h => ?_) (fun cdv A outer s H vs Q E hr h => ?_)
 ·obtain ⟨rfl, _⟩ := h; rfl
 ·obtain ⟨rfl, k⟩ := h
  refine ⟨_, (aqe (aqs (i := 0) eqp.nd rfl (Or.inl rfl) aqi)
   (aqd (aqr (aqf (pqb (K := K) rfl) (pv 0) aqi)))), ?_⟩
  walk_at "rd"
  rw [show Str.ofString " !\"#$&'()*+,-./0123456789:;<=>?@ABCDEFGHIJKLMNOPQRSTUVWXYZ" ++ Str.ofString "[\\]^_`abcdefghijklmnopqrstuvwxyz{|}~" = ⟨SG.toArray⟩ by decide +kernel]
  exact ⟨by decide +kernel, k⟩
theorem fqj (g : G K mg) : FnOk P w K mg base CX0 1 g.cqR g.cqv ["_law_pattern_here"] (iqe K) := by
 refine g.cqP.ok iqC (fun vs H Q E h => ?_) (fun cdv A outer s H vs Q E hr h => ?_)
 ·obtain ⟨cs, e, p, rfl, _⟩ := h; rfl
 ·obtain ⟨cs, e, p, rfl, ⟨q, xs, hp, hq, hx⟩, hcl, k⟩ := h
  refine ⟨_, (aqd (aqr (dq7 (fx := []) (fr := []) rfl rfl (by decide +kernel) rfl (by decide +kernel) rfl (by decide +kernel) rfl .nil rfl (hqu (K := K) rfl (aqz (aqg (K := K) rfl) (pv 0) aqc (fun _ _ => rfl))) (fun _ _ _ => (iqU (aqp nqd (aqz (aqg (K := K) rfl) (pv 0) aqc (fun _ _ => rfl)) aqi (nomark _)))) (fun _ _ _ => (pv 0))))), ?_⟩
  walk_at "rd"
  have hxl := hx.length
  refine ⟨_, _, .inr (.of hp), aqn (j := 0) rfl, q, rfl, ⟨_, .of hq⟩, fun l nl => ?_⟩
  refine eqZ (fun i => ((cs[i]?.map fun c => !c.isStep)).getD false) (fun i => xs[i]?.getD .non) (.of hq) (aqv (by lia)) nl (fun i x hxi H1 R s1 hR => ?_) (fun i x hxi ht H1 T s1 hT => ?_) (fun H1 s1 hl1 => ?_)
  ·obtain ⟨c, b, hc, rfl, hb⟩ := hx.get hxi
   rw [hc] at hR
   walk_at "rd"
   refine ⟨_, _, .inr (.of (s1 _ _ hb)), c.at0, hqD.mpr ⟨_, rfl, ?_⟩⟩
   rw [lqT]
   exact hR H1 (Same.refl _)
  ·rw [hxi] at hT
   walk_at "rd"
   exact hT H1 (Same.refl _)
  ·refine k l _ H1 nl s1 hl1 ?_
   have := (hx.mono s1.toT).pick ((List.range xs.length).filter fun i => ((cs[i]?.map fun c => !c.isStep)).getD false) (fun i hi => List.mem_range.mp (List.mem_filter.mp hi).1)
   have e := dqG (fun c : Pc => !c.isStep) (fun c => c) (Pc.gap []) cs
   rw [List.map_id', ← hxl] at e
   rw [← e]
   have e2 : (((List.range xs.length).filter fun i => ((cs[i]?.map fun c => !c.isStep)).getD false).map fun i => (cs[i]?.map fun c => c).getD (Pc.gap [])) = ((List.range xs.length).filter fun i => ((cs[i]?.map fun c => !c.isStep)).getD false).map fun i => cs[i]?.getD (Pc.gap []) := by
    apply List.map_congr_left
    intro i _
    rw [Option.map_id']
   rw [e2]
   exact this
theorem bq3 (g : G K mg) : FnOk P w K mg base CX0 1 g.bqF g.bqk ["_law_piece_here"] (gqp K) := by
 refine g.aq0.ok fqZ (fun vs H Q E h => ?_) (fun cdv A outer s H vs Q E hr h => ?_)
 ·obtain ⟨c, p, rfl, _⟩ := h; rfl
 ·obtain ⟨c, p, rfl, hp, hst, k⟩ := h
  refine ⟨_, (aqd (aqr (fqL (aqp aq9 (aqz (aqg (K := K) rfl) (pv 0) aqc (fun _ _ => rfl)) aqi (nomark _)) (aqz (aqg (K := K) rfl) (pv 0) aqc (fun _ _ => rfl)) (aqz (aqg (K := K) rfl) (pv 0) aqc (fun _ _ => rfl))))), ?_⟩
  walk_at "rd"
  refine ⟨_, _, .inr hp, c.at0, ?_⟩
  refine L2.aqI.mpr ⟨_, rfl, ?_⟩
  rw [eq1]
  cases c with
  | part h n t => exact ite2 (fun _ => ⟨_, _, .inr hp, aqn (j := 2) rfl, k⟩) (fun z => absurd rfl z)
  | step w => cases hst
  | _ => exact ite2 (fun z => by cases z) (fun _ => ⟨_, _, .inr hp, aqn (j := 1) rfl, k⟩)
theorem gqr (g : G K mg) : FnOk P w K mg base CX0 1 g.bq1 g.bqu ["_law_values_here", "_law_cell"] (gqx K) := by
 refine g.cqQ.ok bqv (fun vs H Q E h => ?_) (fun cdv A outer s H vs Q E hr h => ?_)
 ·obtain ⟨l, ys, i, rfl, _⟩ := h; rfl
 ·obtain ⟨l, ys, i, rfl, hl, hyl, k⟩ := h
  refine ⟨_, (aqe (aqs (i := 2) bqv.nd rfl (Or.inl rfl) (dqE (gqN (K := K) rfl) rfl g.jqO jqf (aqa (pv 0) aqb)))
   (aqe (eqt PassesOwn.never rfl (bqJ rfl g.cq9 (aqa (aqt (aqH (K := K) rfl) rfl g.dqX PySem.boot_len (aqa (pv 2) aqb)) aqb)) (bqb (i := 3) bqv.nd rfl (Or.inl rfl))
   (aqe (aqs (i := 4) bqv.nd rfl (Or.inl rfl) (aqf aqC (aqf aqA (pv 1) (aqf (aqm (K := K)) (pv 3) aqc)) (aqf (aqm (K := K)) (pv 3) aqc)))
   (aqd (nqk (aqL (aqa (aqz (aqg (K := K) rfl) (pv 2) (pv 4) (fun _ _ => rfl)) (aqa (aqz (aqg (K := K) rfl) (pv 2) (pv 3) (fun _ _ => rfl)) aqb))) (iq5 (n := 2) (K := K) rfl rfl (cqm (kqL (pv 2) (pv 3) hqY) (cqm (kqL (pv 2) (pv 4) hqY) hq4)))))))
   (aqd (aqr (pv 2))))), ?_⟩
  walk_at "rd"
  refine ⟨_, .inl (.of hl), fun l' H1 n1 s1 hl1 => ⟨_, .inl (.of hl1), by lia, by lia, ?_⟩⟩
  rw [Int.toNat_natCast]
  refine cqJ (fun j σ H' => Same H H' ∧ ∃ (zs : List V) (v3 v4 : Option V), σ = [some (.ref l), some (.int i), some (.ref l'), v3, v4] ∧ H' l' = some (.lst zs) ∧ zs.Perm ys) ⟨s1, ys, none, none, rfl, hl1, List.Perm.refl _⟩ ?_ ?_
  rotate_left
  ·rintro σ H2 ⟨s2, zs, v3, v4, rfl, hl2, hp⟩
   walk_at "rd"
   exact k l' zs H2 n1 s2 hl2 hp
  rintro j σ H2 hj ⟨s2, zs, v3, v4, rfl, hl2, hp⟩
  have hzl := hp.length_eq
  walk_at "rd"
  obtain ⟨o, ho, eo⟩ : ∃ o : Nat, o < zs.length ∧ i / (0 + (j : Int) + 1) % (0 + (j : Int) + 1) = (o : Int) := by
   have h1 := Int.emod_nonneg (i / (0 + (j : Int) + 1)) (show 0 + (j : Int) + 1 ≠ 0 by lia)
   have h2 := Int.emod_lt_of_pos (i / (0 + (j : Int) + 1)) (show 0 < 0 + (j : Int) + 1 by lia)
   exact ⟨(i / (0 + (j : Int) + 1) % (0 + (j : Int) + 1)).toNat, by lia, by lia⟩
  have hj' : j < zs.length := by lia
  rw [eo]
  refine ⟨⟨by lia, by lia⟩, by lia, _, zs[o], .inl (.of hl2), aqn (List.getElem?_eq_getElem ho), _, zs[j], .inl (.of hl2), by rw [Int.zero_add]; exact aqn (List.getElem?_eq_getElem hj'), by decide, fun p3 H3 n3 s3 e3 => ?_⟩
  have ix : ∀ (n m : Nat), m < n → ixN n (m : Int) = some m := fun n m h => by unfold ixN; rw [if_pos (by lia), if_pos (by lia)]; simp
  refine ⟨p3, _, rfl, .of e3, rfl, _, _, rfl, zs, j, s3 _ _ hl2, by rw [Int.zero_add]; exact ix _ _ hj', _, _, rfl, zs.set j zs[o], o, aqk, by rw [List.length_set]; exact ix _ _ ho, rfl, ?_⟩
  refine ⟨eqd n1 (eqd n1 (s2.trans s3)), (zs.set j zs[o]).set o zs[j], _, _, ⟨rfl, rfl⟩, aqk, (List.set_set_perm hj' ho).trans hp⟩
theorem jqp (g : G K mg) : FnOk P w K mg base CX0 1 g.dqH g.cq3 ["_law_piece_here", "_law_cell"] (jqm K) := by
 refine g.fqa.ok aqQ (fun vs H Q E h => ?_) (fun cdv A outer s H vs Q E hr h => ?_)
 ·obtain ⟨c, p, i, rfl, _⟩ := h; rfl
 ·obtain ⟨c, p, i, rfl, hp, hok, hst, k⟩ := h
  refine ⟨_, (aqN (aqs (i := 2) aqQ.nd rfl (Or.inl rfl) (aqu (dqb gqJ (dqb jqi (dqb (aqf lq1 (qqf nqx aqc) (aqf aqC (pv 1) (aqf gq0 aqc aqc))) (dqb aqi (dqb aqi (dqb (aqu (aqa aqi (aqa aqc aqb))) (dqb (aqu aqb) (dqb (aqL aqb) (dqb (aqL (aqa aqc (aqa aqc aqb))) (dqb mqt (dqb (aqu (aqa aqi (aqa aqi aqb))) (dqb (aqu (aqa gqJ aqb)) aqb))))))))))))))
   (aqe (aqW (aqp aq9 (aqz (aqg (K := K) rfl) (pv 0) aqc (fun _ _ => rfl)) aqi (nomark _))
    (aqe (nqL (i := 3) (fx := ["_law_piece_here"]) (fr := [0]) aqQ.nd rfl rfl rfl rfl (by decide +kernel) rfl (by decide +kernel) rfl (by decide +kernel) rfl (.cons rfl rfl rfl rfl .nil) rfl (hqu (K := K) rfl (aqL (aqa aqi (aqa aqi aqb)))) (fun _ _ _ => (iqU (aqp (eq0 (K := K) rfl) (aqf (aqm (K := K)) (aqf (aqm (K := K)) (aqz (aqg (K := K) rfl) (pv 1) aqc (fun _ _ => rfl)) (pv 0)) (aqz (aqg (K := K) rfl) (pv 1) aqc (fun _ _ => rfl))) (aqL (aqa aqi (aqa aqi aqb))) (by with_unfolding_all rfl)))) (fun _ _ _ => (pv 0)))
   (aqd (aqs (i := 2) aqQ.nd rfl (Or.inl rfl) (aqf (aqm (K := K)) (aqf (aqm (K := K)) (pv 2) (pv 3)) (aqu (aqa aqc (aqa (aqu (aqa aqi aqb)) aqb))))))) (aqd (aqW (aqp aq9 (aqz (aqg (K := K) rfl) (pv 0) aqc (fun _ _ => rfl)) aqi (nomark _))
    (aqd (aqs (i := 2) aqQ.nd rfl (Or.inl rfl) (aqf (aqm (K := K)) (pv 2) (aqu (aqa (aqf (aqm (K := K)) (aqf gq0 aqc aqc) (aqf aqC (pv 1) (aqf gq0 aqc aqc))) (aqa aqi (aqa jqi (aqa (aqu (aqa aqc aqb)) aqb)))))))) (aqd (aqW (aqp aq9 (aqz (aqg (K := K) rfl) (pv 0) aqc (fun _ _ => rfl)) aqi (nomark _))
    (aqd (aqs (i := 2) aqQ.nd rfl (Or.inl rfl) (aqf (aqm (K := K)) (pv 2) (aqu (aqa aqi (aqa aqi (aqa (aqf cq7 aqi aqc) (aqa aqi (aqa (aqu (aqa aqi aqb)) (aqa aqc (aqa aqi aqb))))))))))) (aqd (aqW (aqp aq9 (aqz (aqg (K := K) rfl) (pv 0) aqc (fun _ _ => rfl)) aqi (nomark _))
    (aqd (aqs (i := 2) aqQ.nd rfl (Or.inl rfl) (aqf (aqm (K := K)) (pv 2) (aqu (aqa aqi (aqa (aqL (aqa aqi aqb)) (aqa (aqu (aqa aqi aqb)) (aqa (aqu (aqa aqi aqb)) (aqa (aqu (aqa aqi (aqa aqi aqb))) aqb))))))))) (aqd (aqs (i := 2) aqQ.nd rfl (Or.inl rfl) (aqf (aqm (K := K)) (pv 2) (aqu (aqa aqi (aqa aqi (aqa aqc (aqa (aqu (aqa aqi aqb)) (aqa (aqL (aqa aqi aqb)) aqb))))))))))))))))
   (aqd (aqr (aqz (aqg (K := K) rfl) (pv 2) (aqf aqC (pv 1) (aqt (aqH (K := K) rfl) rfl g.dqX PySem.boot_len (aqa (pv 2) aqb))) (fun _ _ => rfl)))))), ?_⟩
  walk_at "rd"
  refine ⟨fun σ H1 => Same H H1 ∧ ∃ (l : Addr) (xs : List V) (ds : List PyData), σ = [some (.ref p), some (.int i), some (.ref l), none] ∧ H1 l = some (.lst xs) ∧ IsAll H1 ds xs ∧ ds.length ≤ 100 ∧ 0 < ds.length ∧ (∀ d ∈ ds, isValD c d = false ∧ smallD d = true), ?_, ?_⟩
  ·refine stp ?_
   walk_at "rd"
   refine stp ?_
   walk_at "rd"
   refine stp ?_
   walk_at "rd"
   refine ⟨⟨by decide, by decide, by decide⟩, by decide, ?_⟩
   refine stp ?_
   walk_at "rd"
   refine stp ?_
   walk_at "rd"
   refine stp ?_
   walk_at "rd"
   refine ⟨by decide, fun p1 H1 n1 s1 e1 => ?_⟩
   refine stp ?_
   walk_at "rd"
   refine ⟨by decide, fun p2 H2 n2 s2 e2 => ?_⟩
   refine stp ?_
   walk_at "rd"
   refine ⟨by decide, fun p3 H3 n3 s3 e3 => ?_⟩
   refine stp ?_
   walk_at "rd"
   refine ⟨by decide, fun p4 H4 n4 s4 e4 => ?_⟩
   refine stp ?_
   walk_at "rd"
   intro p5 n5
   refine stp ?_
   walk_at "rd"
   refine ⟨by decide, fun p6 H6 n6 s6 e6 => ?_⟩
   refine stp ?_
   walk_at "rd"
   refine ⟨by decide, fun p7 H7 n7 s7 e7 => ?_⟩
   refine ⟨by decide, fun p8 H8 n8 s8 e8 => ?_⟩
   have s68 := s7.trans s8
   have s48 := (bqd n5).trans (s6.trans s68)
   have s38 := s4.trans s48
   have s28 := s3.trans s38
   have s18 := s2.trans s28
   refine ⟨s1.trans s18, p8, _, [PyData.none, .bool true, .int (-1 - i % 10 ^ Int.toNat 20), .str ⟨#[]⟩, sD "a\nb", .list [sD "a", .int 1], .list [], .tuple [], .tuple [.int 1, .int 2], .dict [], .list [sD "a", sD "."], .list [.none]], rfl, e8, ?_, by simp only [List.length_cons, List.length_nil]; lia, by simp only [List.length_cons, List.length_nil]; lia, odd0 c (by have := Int.emod_nonneg i (show (10 : Int) ^ Int.toNat 20 ≠ 0 by decide); lia)⟩
   refine .cons .non (.cons (.bl _) (.cons (.int _) (.cons (.str _) (.cons (.str _) (.cons (.lst (s18 _ _ e1) (.cons (.str _) (.cons (.int _) .nil))) (.cons (.lst (s28 _ _ e2) .nil) (.cons (.tup (s38 _ _ e3) .nil) (.cons (.tup (s48 _ _ e4) (.cons (.int _) (.cons (.int _) .nil))) (.cons (.dic ((s6.trans s68) _ _ aqk)) (.cons (.lst (s68 _ _ e6) (.cons (.str _) (.cons (.str _) .nil))) (.cons (.lst (s8 _ _ e7) (.cons .non .nil)) .nil)))))))))))
  rintro σ H1 ⟨s1, l, xs, ds, rfl, hl, hA, hdl, hd0, hbad⟩
  have hxl := hA.length
  have fin : ∀ {H2 : Hp} {l2 : Addr} {es : List PyData} {ys : List V}, Same H H2 → H2 l2 = some (.lst ys) → IsAll H2 es ys → es.length ≤ 300 → 0 < es.length → (∀ d ∈ es, BadD c d) → rLenU K [.ref l2] H2 fun y H2 => rI (fun _ j => 0 < j) (fun i j => V.int (i % j)) (V.int i) y H2 fun y H3 => rIx K (.ref l2) y H3 Q := by
   intro H2 l2 es ys s2 h2 hA2 hl2 h0 hb
   have hn := hA2.length
   refine jqN.mpr ⟨ys, .inl (.of h2), ?_⟩
   walk_at "rd"
   obtain ⟨j, hj, ej⟩ : ∃ j : Nat, j < ys.length ∧ i % (ys.length : Int) = (j : Int) := by
    have h1 := Int.emod_nonneg i (show (ys.length : Int) ≠ 0 by lia)
    have h2 := Int.emod_lt_of_pos i (show 0 < (ys.length : Int) by lia)
    exact ⟨(i % (ys.length : Int)).toNat, by lia, by lia⟩
   have hx : ys[j]? = some ys[j] := List.getElem?_eq_getElem hj
   obtain ⟨d, hd, hI⟩ := hA2.at j _ hx
   obtain ⟨b1, b2⟩ := hb d (List.mem_of_getElem? hd)
   rw [ej]
   exact ⟨by lia, _, _, .inl (.of h2), aqn hx, k d _ H2 s2 hI b1 b2⟩
  have add : ∀ {H2 : Hp} {l2 : Addr} {es : List PyData} {ys : List V}, Same H1 H2 → H2 l2 = some (.lst ys) → IsAll H2 es ys → es.length ≤ 100 → (∀ d ∈ es, BadD c d) → rAddS K (V.ref l) (V.ref l2) H2 fun x H1 => rLenU K [x] H1 fun y H2 => rI (fun _ j => 0 < j) (fun i j => V.int (i % j)) (V.int i) y H2 fun y H2 => rIx K x y H2 Q := by
   intro H2 l2 es ys s2 h2 hA2 hl2 hb
   have hn := hA2.length
   refine .inl ⟨_, _, s2 _ _ hl, h2, aqv (by lia), fun p5 H5 n5 s5 e5 => ?_⟩
   refine fin ((s1.trans s2).trans s5) e5 (((hA.mono s2).append hA2).mono s5) (by rw [List.length_append]; lia) (by rw [List.length_append]; lia) fun d hd => ?_
   rcases List.mem_append.mp hd with z | z
   ·exact hbad d z
   ·exact hb d z
  walk_at "rd"
  refine ⟨_, _, .inr (.of (s1 _ _ hp)), c.at0, aqI.mpr ⟨_, rfl, ?_⟩⟩
  rw [eq1]
  refine ite2 (fun h2 => ?_) (fun h2 => ⟨_, _, .inr (.of (s1 _ _ hp)), c.at0, aqI.mpr ⟨_, rfl, ?_⟩⟩)
  ·obtain ⟨a, n, t, rfl⟩ := qqh h2
   obtain ⟨o1, o2, o3, o4, o5⟩ := hok
   have d1 : Str.ofString ".." = ⟨sUp.toArray⟩ := by decide +kernel
   have d2 : Str.ofString "." = ⟨sStay.toArray⟩ := by decide +kernel
   rw [d1, d2]
   refine ⟨by decide, fun pt Ht nt st et => ⟨⟨_, .of et⟩, fun pd nd => ?_⟩⟩
   have hv := (s1.trans st) _ _ hp
   have hat : ∀ {j : Nat} {x : V}, [tV sStay, tV sUp][j]? = some x → x = tV (dotv j) ∧ (dotv j).length ≤ 2 := fun {j x} hj => by
    match j with
    | 0 => cases hj; exact ⟨rfl, by decide⟩
    | 1 => cases hj; exact ⟨rfl, by decide⟩
   refine eqZ (xs := [tV sStay, tV sUp]) (fun j => isDot (a ++ dotv j ++ t)) (fun j => tV (dotv j)) (.of et) (by decide) nd (fun j x hj H2 R s2 hR => ?_) (fun j x hj hj2 H2 T s2 hT => ?_) (fun H2 s2 hp2 => ?_)
   ·obtain ⟨rfl, hl2⟩ := hat hj
    walk_at "rd"
    refine ⟨_, _, .inr (.of (s2 _ _ hv)), aqn (j := 1) rfl, cqc.mpr ⟨aqv (by rw [bqG, bqG]; lia), _, _, .inr (.of (s2 _ _ hv)), aqn (j := 3) rfl, ?_⟩⟩
    rw [cqI]
    refine cqc.mpr ⟨aqv (by rw [bqG, bqG, List.length_append]; lia), ?_⟩
    rw [cqI]
    refine ⟨by decide, fun p2 H3 n3 s3 e3 => ⟨p2, _, rfl, .inr (.of e3), rfl, rfl, _, rfl, ?_⟩⟩
    show R (if false then _ else inV (sV (a ++ dotv j ++ t)) [sV sStay, sV sUp]) _
    rw [if_neg (show ¬ false = true by decide), jqb]
    exact hR H3 s3
   ·obtain ⟨rfl, hl2⟩ := hat hj
    walk_at "rd"
    exact hT H2 (Same.refl _)
   have s12 := st.trans s2
   obtain ⟨L, hL⟩ : ∃ L, L = ((List.range [tV sStay, tV sUp].length).filter fun j => isDot (a ++ dotv j ++ t)) := ⟨_, rfl⟩
   rw [← hL] at hp2
   have hLl : L.length ≤ 2 := by rw [hL]; exact List.length_filter_le _ _
   have hLm : ∀ j ∈ L, isDot (a ++ dotv j ++ t) = true ∧ (dotv j).length ≤ 2 := fun j hj => by
    rw [hL] at hj
    refine ⟨(List.mem_filter.mp hj).2, ?_⟩
    unfold dotv
    split <;> decide
   have hLA : IsAll H2 (L.map fun j => PyData.str ⟨(dotv j).toArray⟩) (L.map fun j => tV (dotv j)) := by
    clear hL hp2 hLl hLm
    induction L with
    | nil => exact .nil
    | cons j L ih => exact .cons (.str _) ih
   refine .inl ⟨_, _, s12 _ _ hl, hp2, aqv (by rw [List.length_map]; lia), fun p5 H5 n5 s5 e5 => ⟨by decide, fun pa Ha na sa ea => ⟨by decide, fun pb Hb nb sb eb => ?_⟩⟩⟩
   refine .inl ⟨_, _, (sa.trans sb) _ _ e5, eb, aqv (by rw [List.length_append, List.length_map]; simp only [List.length_cons, List.length_nil]; lia), fun p6 H6 n6 s6 e6 => ?_⟩
   have s56 := sa.trans (sb.trans s6)
   refine fin ((s1.trans s12).trans (s5.trans s56)) e6 (es := (ds ++ L.map fun j => PyData.str ⟨(dotv j).toArray⟩) ++ [.int 5, .list [sD "a"]]) (((((hA.mono s12).append hLA).mono s5).mono s56).append (.cons (.int _) (.cons (.lst ((sb.trans s6) _ _ ea) (.cons (.str _) .nil)) .nil))) (by rw [List.length_append, List.length_append, List.length_map]; simp only [List.length_cons, List.length_nil]; lia) (by rw [List.length_append, List.length_append]; lia) fun d hd => ?_
   rcases List.mem_append.mp hd with z | z
   ·rcases List.mem_append.mp z with z | z
    ·exact hbad d z
    ·obtain ⟨j, hj, rfl⟩ := List.mem_map.mp z
     exact nq5 (hLm j hj).1 (hLm j hj).2
   ·exact mq9 d z
  rw [jqM]
  refine ite2 (fun h3 => ?_) (fun h3 => ⟨_, _, .inr (.of (s1 _ _ hp)), c.at0, aqI.mpr ⟨_, rfl, ?_⟩⟩)
  ·obtain ⟨n, rfl⟩ : ∃ n, c = .num n := by cases c <;> first | exact ⟨_, rfl⟩ | cases h3
   refine ⟨⟨by decide, by decide, by decide⟩, ⟨by decide, by decide, by decide⟩, by decide, by decide, fun pa Ha na sa ea => ⟨by decide, fun pb Hb nb sb eb => ?_⟩⟩
   refine add (sa.trans sb) eb (es := [.int (10 ^ Int.toNat 60 + i % 10 ^ Int.toNat 9), sD "5", .bool false, .list [.int 5]]) (.cons (.int _) (.cons (.str _) (.cons (.bl _) (.cons (.lst (sb _ _ ea) (.cons (.int _) .nil)) .nil)))) (by simp only [List.length_cons, List.length_nil]; lia) (nq0 ?_)
   have := Int.emod_nonneg i (show (10 : Int) ^ Int.toNat 9 ≠ 0 by decide)
   show (10 : Int) ^ 60 ≤ 10 ^ Int.toNat 60 + _
   rw [show Int.toNat 60 = 60 from rfl]
   lia
  rw [jqw]
  refine ite2 (fun h4 => ?_) (fun h4 => ⟨_, _, .inr (.of (s1 _ _ hp)), c.at0, aqI.mpr ⟨_, rfl, ?_⟩⟩)
  ·obtain ⟨n, rfl⟩ : ∃ n, c = .word n := by cases c <;> first | exact ⟨_, rfl⟩ | cases h4
   refine ⟨a_61.1, by decide, fun pa Ha na sa ea => ⟨by decide, fun pb Hb nb sb eb => ?_⟩⟩
   exact add (sa.trans sb) eb (es := [sD "aB", sD "a1", .str (Txt.mul (Str.ofString "a") 61), sD "a-", .list [sD "a"], .int 7, sD "."]) (.cons (.str _) (.cons (.str _) (.cons (.str _) (.cons (.str _) (.cons (.lst (sb _ _ ea) (.cons (.str _) .nil)) (.cons (.int _) (.cons (.str _) .nil))))))) (by simp only [List.length_cons, List.length_nil]; lia) (mq7 a_61.2)
  rw [hqG]
  refine ite2 (fun h5 => ?_) (fun h5 => ?_)
  ·obtain ⟨n, rfl⟩ := qqg h5
   refine ⟨by decide, fun pa Ha na sa ea => ⟨by decide, fun pb Hb nb sb eb => ⟨by decide, fun pc Hc nc sc ec => ⟨by decide, fun pd Hd nd sd ed => ⟨by decide, fun pe He ne se ee => ?_⟩⟩⟩⟩⟩
   have sbe := sc.trans (sd.trans se)
   exact add (sa.trans (sb.trans sbe)) ee (es := [sD "a", .tuple [sD "a"], .list [.str ⟨#[]⟩], .list [sD ".."], .list [sD "a", sD "a\n"]]) (.cons (.str _) (.cons (.tup ((sb.trans sbe) _ _ ea) (.cons (.str _) .nil)) (.cons (.lst (sbe _ _ eb) (.cons (.str _) .nil)) (.cons (.lst ((sd.trans se) _ _ ec) (.cons (.str _) .nil)) (.cons (.lst (se _ _ ed) (.cons (.str _) (.cons (.str _) .nil))) .nil))))) (by decide) mqY
  obtain ⟨n, rfl⟩ : ∃ n, c = .gap n := by
   cases c with
   | gap n => exact ⟨n, rfl⟩
   | step n => cases hst
   | part a n t => exact absurd rfl h2
   | num n => exact absurd rfl h3
   | word n => exact absurd rfl h4
   | rest n => exact absurd rfl h5
  refine ⟨by decide, fun pa Ha na sa ea => ⟨by decide, fun pb Hb nb sb eb => ⟨by decide, fun pc Hc nc sc ec => ?_⟩⟩⟩
  exact add (sa.trans (sb.trans sc)) ec (es := [sD ".", sD "..", .int 7, .list [sD "a"], .tuple [sD "a"]]) (.cons (.str _) (.cons (.str _) (.cons (.int _) (.cons (.lst ((sb.trans sc) _ _ ea) (.cons (.str _) .nil)) (.cons (.tup (sc _ _ eb) (.cons (.str _) .nil)) .nil))))) (by decide) oq6
theorem hqh (g : G K mg) : FnOk P w K mg base CX0 1 g.cqw g.bq0 ["_law_error"] (hqs K g.aqo) := by
 refine g.dqt.ok hqS (fun vs H Q E h => ?_) (fun cdv A outer s H vs Q E hr h => ?_)
 ·obtain ⟨a, d, n, rfl, _⟩ := h; rfl
 ·obtain ⟨a, d, n, rfl, ha, hd, k⟩ := h
  refine ⟨_, (aqe (aqW (PW.pt (iqV (gqP (dq1 (aqt (cqe (K := K) rfl) rfl g.aqx aqq (aqa (pv 0) (aqa (bqh (v := .ref g.aqo) rfl g.eqO rfl) aqb))))) (iqV (gqP (dq1 (aqt (cqe (K := K) rfl) rfl g.aqx aqq (aqa (pv 0) (aqa (eqb (v := .ty "ValueError") rfl g.fqm hqK rfl) aqb))))) (gq6 (gqP (dq1 (aqt cqK rfl g.aqx aqq (aqa (jqX (K := K) rfl (pv 0) rfl) (aqa (eqb (v := .ty "str") rfl g.lqS jqW rfl) aqb)))))))))
    (aqd (aqr jqi)) aqB)
   (aqe (aqW (PW.pt (iqV (dq1 (aqt (cqe (K := K) rfl) rfl g.aqx aqq (aqa (pv 0) (aqa (bqh (v := .ref g.cq1) rfl g.gqk rfl) aqb)))) (iqV (dq1 (aqt (cqe (K := K) rfl) rfl g.aqx aqq (aqa (pv 0) (aqa (bqh (v := .ref g.fqE) rfl g.jq1 rfl) aqb)))) (gq6 (dq1 (aqt (cqe (K := K) rfl) rfl g.aqx aqq (aqa (pv 0) (aqa (bqh (v := .ref g.cqX) rfl g.fq0 rfl) aqb))))))))
    (aqd (aqr jqi)) aqB)
   (aqd (aqr (dqr (iqs (aqt (cqe (K := K) rfl) rfl g.aqx aqq (aqa (pv 0) (aqa (bqh (v := .ref g.fqF) rfl g.jqC rfl) aqb)))) (dqg (iqs (aqt (cqe (K := K) rfl) rfl g.aqx aqq (aqa (pv 0) (aqa (bqh (v := .ref g.hqJ) rfl g.lqP rfl) aqb)))))))))), ?_⟩
  walk_at "rd"
  refine ⟨_, _, true, ha, g.bqH, .cls g.cqF, ite2 (fun z => by cases z) fun _ => ⟨_, _, true, ha, g.bqH, .ty g.bqN, ite2 (fun z => by cases z) fun _ => ?_⟩⟩
  refine ⟨a, _, d, _, _, rfl, ha, hd, g.bq7, (by rw [List.lookup_cons, beq_self_eq_true]), "str", rfl, ite2 (fun z => absurd z (by decide)) fun _ => ?_⟩
  refine ⟨_, _, false, ha, g.bqH, .cls g.cqd, ite2 (fun z => by cases z) fun _ => ⟨_, _, false, ha, g.bqH, .cls g.dqf, ite2 (fun z => by cases z) fun _ => ⟨_, _, false, ha, g.bqH, .cls g.cqb, ite2 (fun z => by cases z) fun _ => ?_⟩⟩⟩
  refine ⟨_, _, false, ha, g.bqH, .cls g.dqd, ite2 (fun _ => ⟨_, _, false, ha, g.bqH, .cls g.dqA, k⟩) (fun z => absurd rfl z)⟩
theorem jq4 (g : G K mg) : FnOk P w K mg base CX0 2 g.eql g.dqK ["thing"] kqg := by
 refine g.gqc.ok kqy (fun vs H Q E h => ?_) (fun cdv A outer s H vs Q E hr h => ?_)
 ·obtain ⟨d, v, rfl, _⟩ := h; rfl
 ·obtain ⟨d, v, rfl, hv, hs, k⟩ := h
  refine ⟨_, (aqd (aqr (dqr (aqt cqK rfl g.aqx aqq (aqa (pv 0) (aqa (eqb (v := .ty "str") rfl g.lqS jqW rfl) aqb))) (dqg (aql (gqZ g) (hr.mono (by decide)) rfl g.fq1 g.eqj.kp g.gqo .nil pass0 (aqa (pv 0) (aqa (bqh (v := oqA) rfl g.kq9 ⟨_, rfl⟩) aqb))))))), ?_⟩
  cases hv with
  | lst hp r => walk_at "rd"; simp only [fqM hp]; walk_at "rd"; exact k H (Same.refl _)
  | tup hp r => walk_at "rd"; simp only [fqD hp]; walk_at "rd"; exact k H (Same.refl _)
  | dic hp => walk_at "rd"; exact ⟨"dict", by simp only [kindV, hp], ite2 (fun z => absurd z (by decide)) (fun _ => k H (Same.refl _))⟩
  | str x =>
   walk_at "rd"
   refine ⟨x, _, rfl, dqw hs, fun H' sm => ?_⟩
   simp only [qqF]
   exact k H' sm
  | _ => walk_at "rd"; exact k H (Same.refl _)
theorem iq0 (g : G K mg) : FnOk P w K mg base CX0 2 g.dqM g.dqa ["pieces"] (iqY K) := by
 refine g.eq5.ok jqv (fun vs H Q E h => ?_) (fun cdv A outer s H vs Q E hr h => ?_)
 ·obtain ⟨cs, xs, q, rfl, _⟩ := h; rfl
 ·obtain ⟨cs, xs, q, rfl, hq, hx, hn, k⟩ := h
  refine ⟨_, (aqd (aqr (dq7 (fx := []) (fr := []) rfl rfl (by decide +kernel) rfl (by decide +kernel) rfl (by decide +kernel) rfl .nil rfl (hqu (K := K) rfl (pv 0)) (fun _ _ _ => (iqU (dq1 (aql (iqS g) (hr.mono (by decide)) rfl g.hqI g.fqS.kp g.hqx .nil pass0 (aqa (pv 0) aqb))))) (fun _ _ _ => (aql (eq9 g) (hr.mono (by decide)) rfl g.eqC g.dqu.kp g.eqK .nil pass0 (aqa (pv 0) aqb)))))), ?_⟩
  walk_at "rd"
  have hl := hx.length
  refine ⟨⟨_, hq⟩, fun p n => ?_⟩
  refine eqZ (fun i => (cs[i]?.map fun c => !c.isStep).getD false) (fun i => (cs[i]?.map fun c => tV c.name).getD .non) hq (aqv (by lia)) n (fun i x hi H1 R s1 hR => ?_) (fun i x hi ht H1 T s1 hT => ?_) (fun H1 s1 hp1 => ?_)
  ·obtain ⟨c, q, hc, rfl, hv⟩ := hx.get hi
   walk_at "rd"
   have := hR H1 (Same.refl _)
   rw [hc] at this
   exact ⟨c, q, rfl, s1.tup hv, _, rfl, this⟩
  ·obtain ⟨c, q, hc, rfl, hv⟩ := hx.get hi
   rw [hc] at ht
   walk_at "rd"
   have := hT H1 (Same.refl _)
   rw [hc] at this
   exact ⟨c, q, rfl, s1.tup hv, by simpa using ht, this⟩
  ·refine k p H1 s1 ?_
   rw [hp1, hl, dqG (fun c : Pc => !c.isStep) (fun c : Pc => tV c.name) .non cs]
   unfold gapsM
   rw [List.map_map]
   rfl
theorem kqu (g : G K mg) : FnOk P w K mg base CX0 2 g.eqF g.dqQ ["text"] kqi := by
 refine g.fqX.ok jq3 (fun vs H Q E h => ?_) (fun cdv A outer s H vs Q E hr h => ?_)
 ·obtain ⟨l, rfl, _⟩ := h; rfl
 ·obtain ⟨l, rfl, hl, k⟩ := h
  refine ⟨_, (aqd (aqr (dqr (jqB oqQ oqQ aqc (aqt (aqH (K := K) rfl) rfl g.dqX PySem.boot_len (aqa (pv 0) aqb)) (bqh (v := gqB) rfl g.dq3 ⟨_, rfl⟩)) (dqg (aql (gqZ g) (hr.mono (by decide)) rfl g.fq1 g.eqj.kp g.gqo .nil pass0 (aqa (pv 0) (aqa (bqh (v := dqq) rfl g.dqi ⟨_, rfl⟩) aqb))))))), ?_⟩
  have eF : dqq = .str ⟨smaL.toArray⟩ := by
   show V.str (Str.ofString _) = _
   unfold smaL; simp
  rw [eF]
  walk_at "rd"
  have no : (¬ (1 ≤ l.length ∧ l.length ≤ 60)) → Q (.bl false) H := fun h => by
   have : wordB l = false := by
    unfold wordB
    by_cases h1 : 1 ≤ l.length
    ·rw [decide_eq_false (show ¬ l.length ≤ 60 from fun z => h ⟨h1, z⟩)]; simp
    ·rw [decide_eq_false h1]; simp
   rw [← this]
   exact k H (Same.refl _)
  refine ⟨aqv hl, ite2 (fun h1 => ite2 (fun h2 => ?_) (fun h2 => no (by lia))) (fun h1 => no (by lia))⟩
  refine ⟨_, _, rfl, hl, fun H' sm => ?_⟩
  have e : wordB l = (l.all fun c => decide (c ∈ smaL)) := by
   unfold wordB
   rw [decide_eq_true (show 1 ≤ l.length by lia), decide_eq_true (show l.length ≤ 60 by lia), oqZ]
   rfl
  have := k H' sm
  rw [e] at this
  simpa using this
theorem eq6 (g : G K mg) : FnOk P w K mg base CX0 2 g.aq6 g.aqU ["gap", "value"] (eq2 K) := by
 refine g.bqL.ok fqd (fun vs H Q E h => ?_) (fun cdv A outer s H vs Q E hr h => ?_)
 ·obtain ⟨c, p, d, v, rfl, _⟩ := h; rfl
 ·obtain ⟨c, p, d, v, rfl, hp, hc, hh, ht, hv, hs, hval, k⟩ := h
  refine ⟨_, (aqe (aqW (aqp aq9 (aqz (aqg (K := K) rfl) (pv 0) aqc (fun _ _ => rfl)) aqi (nomark _))
    (aqd (aqr (pv 1))) aqB)
   (aqe (aqW (aqp aq9 (aqz (aqg (K := K) rfl) (pv 0) aqc (fun _ _ => rfl)) aqi (nomark _))
    (aqd (aqr (aqu (aqa (dqE iqk rfl g.lqS jqW (aqa (pv 1) aqb)) aqb)))) aqB)
   (aqd (aqr (aqu (aqa (aqf (aqm (K := K)) (aqf (aqm (K := K)) (aql (gqK g) (hr.mono (by decide)) rfl g.fq5 g.eqo.kp g.gqa .nil pass0 (aqa (pv 0) aqb)) (pv 1)) (aql (gqV g) (hr.mono (by decide)) rfl g.gqd g.eqr.kp g.gqq .nil pass0 (aqa (pv 0) aqb))) aqb)))))), ?_⟩
  walk_at "rd"
  have b3 : 300000 ≤ sizeLine := by decide
  refine ⟨_, _, .inr hp, c.at0, aqI.mpr ⟨_, rfl, ?_⟩⟩
  rw [hqG]
  refine ite2 (fun hrs => ?_) (fun hrs => ⟨_, _, .inr hp, c.at0, aqI.mpr ⟨_, rfl, ?_⟩⟩)
  ·cases c with
   | rest n =>
    cases hv with
    | lst hl r =>
     rename_i a xs ds
     have e : isValD (.rest n) (.list ds) = (decide (0 < ds.length) && ds.all canD) := rfl
     rw [e, Bool.and_eq_true] at hval
     refine k a H (Same.refl _) ?_
     rw [hl, iqi r hval.2]
     rfl
    | _ => cases hval
   | _ => cases hrs
  rw [jqM]
  refine ite2 (fun hnm => ?_) (fun hnm => ?_)
  ·cases c with
   | num n =>
    cases hv with
    | int i =>
     have e : isValD (.num n) (.int i) = decide (0 ≤ i ∧ i < 10 ^ 60) := rfl
     rw [e] at hval
     have h60 := of_decide_eq_true hval
     have hlg : i.natAbs.log2 < 1920 := by
      by_cases h0 : i.natAbs = 0
      ·rw [h0]; decide
      ·rw [Nat.log2_lt h0]
       have : i.natAbs < 10 ^ 60 := by lia
       exact Nat.lt_of_lt_of_le this (by decide +kernel)
     exact ⟨i, rfl, hlg, by decide, fun p1 H1 n1 s1 hp1 => k p1 H1 s1 hp1⟩
    | _ => cases hval
   | _ => cases hnm
  ·have e : isValD c d = (ftx d && !isDot (c.head ++ txD d ++ c.tail)) ∨ c.isWord = true := by
    cases c with
    | part a b e => exact .inl rfl
    | gap n => exact .inl (show (ftx d && !isDot (txD d)) = (ftx d && !isDot ([] ++ txD d ++ [])) by rw [List.nil_append, List.append_nil])
    | step s => cases hc
    | num n => exact absurd rfl hnm
    | word n => exact .inr rfl
    | rest n => exact absurd rfl hrs
   have e2 : stpsD c d = [c.head ++ txD d ++ c.tail] := by
    cases c with
    | step s => cases hc
    | num n => exact absurd rfl hnm
    | rest n => exact absurd rfl hrs
    | _ => rfl
   cases hv with
   | str x =>
    obtain ⟨⟨l⟩⟩ := x
    have hl : l.length ≤ 100000 := dqw hs
    refine ⟨c, p, rfl, hp, cqc.mpr ⟨Nat.le_trans (show c.head.length + l.length ≤ 300000 by lia) b3, c, p, rfl, hp, cqc.mpr ⟨?_, by decide, fun p1 H1 n1 s1 hp1 => k p1 H1 s1 ?_⟩⟩⟩
    ·show ((⟨c.head.toArray⟩ : Str) ++ ⟨l.toArray⟩).length + c.tail.length ≤ _
     rw [cqI, bqG, List.length_append]
     lia
    ·rw [hp1, e2]
     show some (HO.lst [V.str ((⟨c.head.toArray⟩ : Str) ++ ⟨l.toArray⟩ ++ ⟨c.tail.toArray⟩)]) = _
     rw [cqI, cqI]
     rfl
   | _ =>
    rcases e with e | e
    ·rw [e] at hval; cases hval
    ·cases c with
     | word n => cases hval
     | _ => cases e
theorem cqj (g : G K mg) : FnOk P w K mg base CX0 2 g.cqU g.cqu ["_law_cell"] (iqD K) := by
 refine g.bqo.ok bqI (fun vs H Q E h => ?_) (fun cdv A outer s H vs Q E hr h => ?_)
 ·obtain ⟨c, rfl, _⟩ := h; rfl
 ·obtain ⟨c, rfl, k⟩ := h
  refine ⟨_, (aqe (aqs (i := 1) bqI.nd rfl (Or.inl rfl) (aqz (aqg (K := K) rfl) (aqu (aqa aqi (aqa aqi (aqa aqi (aqa aqi (aqa (mqa (hqz g) (hr.mono (by decide)) rfl g.fqk g.dqp.kp g.fqn .nil pass0) (aqa aqi aqb))))))) (aqf aqC (pv 0) aqc) (fun _ _ => rfl)))
   (aqe (aqs (i := 2) bqI.nd rfl (Or.inl rfl) aqi)
   (aqe (eqt PassesOwn.never rfl (bqJ rfl g.cq9 (aqa (aqf aqC (aqf aqA (pv 0) aqc) aqc) aqb)) (bqb (i := 3) bqI.nd rfl (Or.inl rfl))
   (aqd (aqs (i := 2) bqI.nd rfl (Or.inl rfl) (aqf (aqm (K := K)) (pv 2) (aqz (aqg (K := K) rfl) (pv 1) (aqf aqC (aqf aqA (pv 0) (aqf (aqm (K := K)) aqc (aqf cq7 (aqf cq7 aqc (pv 3)) (pv 3)))) (aqt (aqH (K := K) rfl) rfl g.dqX PySem.boot_len (aqa (pv 1) aqb))) (fun _ _ => rfl))))))
   (aqd (aqr (pv 2)))))), ?_⟩
  walk_at "rd"
  refine ⟨by decide, fun p H1 n1 s1 e1 => ⟨by decide, ?_⟩⟩
  obtain ⟨v, hv, hat⟩ := nqP [V.str (Str.ofString "ab"), V.str (Str.ofString "a1"), V.str (Str.ofString "0123456789"), V.str (Str.ofString "a."), V.str { cps := SG.toArray }, V.str (Str.ofString "./{}~ab")] c 6 (by decide) (by decide)
  have hpool : ∃ l : List Nat, v = tV l ∧ 0 < l.length ∧ l.length ≤ 94 ∧ ∀ c ∈ l, isSg c = true := by
   simp only [List.mem_cons, List.not_mem_nil, or_false] at hv
   rcases hv with rfl | rfl | rfl | rfl | rfl | rfl
   ·exact ⟨[97, 98], congrArg V.str (by decide +kernel), by decide, by decide, by decide⟩
   ·exact ⟨[97, 49], congrArg V.str (by decide +kernel), by decide, by decide, by decide⟩
   ·exact ⟨[48, 49, 50, 51, 52, 53, 54, 55, 56, 57], congrArg V.str (by decide +kernel), by decide, by decide, by decide⟩
   ·exact ⟨[97, 46], congrArg V.str (by decide +kernel), by decide, by decide, by decide⟩
   ·exact ⟨SG, rfl, by rw [nqu]; decide, by rw [nqu]; decide, fun c hc => nqq.mp hc⟩
   ·exact ⟨[46, 47, 123, 125, 126, 97, 98], congrArg V.str (by decide +kernel), by decide, by decide, by decide⟩
  obtain ⟨pl, rfl, hp0, hp94, hpl⟩ := hpool
  refine ⟨_, _, .inl (.of e1), hat, ⟨by decide, by decide⟩, by decide, by lia, by lia, ?_⟩
  refine cqJ (fun j σ H2 => H2 = H1 ∧ ∃ (w : List Nat) (v3 : Option V), σ = [some (.int c), some (tV pl), some (tV w), v3] ∧ w.length = j ∧ ∀ c ∈ w, isSg c = true) ⟨rfl, [], none, rfl, rfl, by simp⟩ ?_ ?_
  ·rintro j σ H2 hj ⟨rfl, w, v3, rfl, hwl, hw⟩
   have hj5 : j = 0 ∨ j = 1 ∨ j = 2 ∨ j = 3 ∨ j = 4 := by lia
   have hb : 0 < 30 + 17 * (0 + (j : Int)) * (0 + (j : Int)) ∧ 30 + 17 * (0 + (j : Int)) * (0 + (j : Int)) < 1073741824 := by
    rcases hj5 with rfl | rfl | rfl | rfl | rfl <;> decide
   obtain ⟨d, hd, hda⟩ := hqT pl (c / (30 + 17 * (0 + (j : Int)) * (0 + (j : Int)))) (pl.length : Int) (by lia) (by lia)
   walk_at "rd"
   refine ⟨.inl ⟨by decide, by decide⟩, .inr ⟨by lia, by lia⟩, hb, aqv (by lia), by lia, d, aqv (by lia), hda, aqv (by lia), w ++ [d], _, ⟨by simp, rfl⟩, by rw [List.length_append, List.length_singleton, hwl], fun e he => ?_⟩
   rcases List.mem_append.mp he with z | z
   ·exact hw e z
   ·rw [List.mem_singleton.mp z]; exact hpl d hd
  ·rintro σ H2 ⟨rfl, w, v3, rfl, hwl, hw⟩
   walk_at "rd"
   exact k w H2 (by lia) hw s1
theorem hql (g : G K mg) : FnOk P w K mg base CX0 2 g.cql g.bqZ ["_law_values_here", "_law_gaps_here", "_law_at", "_law_cell"] (hqU K) := by
 refine g.dqy.ok bqR (fun vs H Q E h => ?_) (fun cdv A outer s H vs Q E hr h => ?_)
 ·obtain ⟨ws, ys, gs, gx, l, lg, m, c, i, rfl, _⟩ := h; rfl
 ·obtain ⟨ws, ys, gs, gx, l, lg, m, c, i, rfl, hl, hV, hlg, hP, hm, hok, hst, hO, hwl, hsm, k⟩ := h
  refine ⟨_, (aqe (aqs (i := 4) bqR.nd rfl (Or.inr rfl) (aql (bq3 g) (hr.mono (by decide)) rfl g.bqt g.aq0.kp g.bqs .nil pass0 (aqa (aqz (aqg (K := K) rfl) (pv 1) (pv 2) (fun _ _ => rfl)) aqb)))
   (aqN (aqs (i := 5) bqR.nd rfl (Or.inl rfl) (aqz (aqg (K := K) rfl) (dq7 (fx := ["_law_name", "_law_values_here"]) (fr := [4, 0]) rfl rfl (by decide +kernel) rfl (by decide +kernel) rfl (by decide +kernel) rfl (.cons rfl rfl rfl rfl (.cons rfl rfl rfl rfl .nil)) rfl (bqJ rfl g.cq9 (aqa (aqt (aqH (K := K) rfl) rfl g.dqX PySem.boot_len (aqa (pv 0) aqb)) aqb)) (fun _ _ _ => (iqU (aqp aq9 (aqz (aqg (K := K) rfl) (aqz (aqg (K := K) rfl) (pv 2) (pv 0) (fun _ _ => rfl)) aqc (fun _ _ => rfl)) (pv 1) (nomark _)))) (fun _ _ _ => (pv 0))) aqc (fun _ _ => rfl)))
   (aqe (aqW (aqp aq9 (aqf aqC (pv 3) aqc) aqc (nomark _))
    (aqd (aqr (aqf (aqm (K := K)) (bqq (bqz (K := K) rfl) (pv 0) cqV (bq4 (pv 5))) (bqq (bqz (K := K) rfl) (pv 0) (bq4 (aqf (aqm (K := K)) (pv 5) aqc)) cqV)))) aqB)
   (aqe (aqW (aqp aq9 (aqf aqC (pv 3) aqc) aqc (nomark _))
    (aqe (aqs (i := 6) bqR.nd rfl (Or.inl rfl) (aqf aqC (aqf aqA (pv 3) aqc) (aqf (aqm (K := K)) (aqt (aqH (K := K) rfl) rfl g.dqX PySem.boot_len (aqa (pv 0) aqb)) aqc)))
   (aqd (aqr (aqf (aqm (K := K)) (aqf (aqm (K := K)) (bqq (bqz (K := K) rfl) (pv 0) cqV (bq4 (pv 6))) (aqu (aqa (aqz (aqg (K := K) rfl) (pv 0) (pv 5) (fun _ _ => rfl)) aqb))) (bqq (bqz (K := K) rfl) (pv 0) (bq4 (pv 6)) cqV))))) aqB)
   (aqd (aqr (aqf (aqm (K := K)) (aqf (aqm (K := K)) (bqq (bqz (K := K) rfl) (pv 0) cqV (bq4 (pv 5))) (aqu (aqa (aqL (aqa (pv 4) (aqa (aql (jqp g) (hr.mono (by decide)) rfl g.hqc g.fqa.kp g.hqd .nil pass0 (aqa (aqz (aqg (K := K) rfl) (pv 1) (pv 2) (fun _ _ => rfl)) (aqa (aqf aqA (pv 3) aqc) aqb))) aqb))) aqb))) (bqq (bqz (K := K) rfl) (pv 0) (bq4 (aqf (aqm (K := K)) (pv 5) aqc)) cqV)))))))), ?_⟩
  walk_at "rd"
  have hyl := hV.length
  have hgl := hP.length
  have hmlt := (List.getElem?_eq_some_iff.mp hm).1
  obtain ⟨v, hv⟩ : ∃ v, gx[m]? = some v := ⟨_, List.getElem?_eq_getElem (by lia)⟩
  obtain ⟨c', pg, hc', rfl, hpg⟩ := hP.get hv
  rw [hm] at hc'
  cases hc'
  obtain ⟨d0, hn0, hv0⟩ := hO
  refine ⟨_, _, .inl (.of hlg), aqn hv, c, pg, rfl, .of hpg, hst, ?_⟩
  refine ⟨fun σ H1 => Same H H1 ∧ ∃ (o : Nat) (d : PyData), σ = [some (.ref l), some (.ref lg), some (.int m), some (.int i), some (tV c.name), some (.int (o : Int)), none] ∧ ws[o]? = some (c.name, d), ?_, ?_⟩
  ·refine ⟨ys, .inl (.of hl), by lia, by lia, fun p0 n0 => ?_⟩
   rw [Int.toNat_natCast]
   refine fq2 (fun j => decide ((ws[j]?.map (·.1)) = some c.name)) (fun j => V.int (0 + (j : Int))) (aqv (by lia)) n0 (fun j hj H1 R s1 hR => ?_) (fun j hj hf H1 T s1 hT => ?_) (fun H1 s1 hp1 => ?_)
   ·have hx : ys[j]? = some ys[j] := List.getElem?_eq_getElem hj
    obtain ⟨n, d, b, v, h1, h2, h3, h4⟩ := hV.get hx
    rw [h2] at hx
    have := hR H1 (Same.refl _)
    rw [h1] at this
    walk_at "rd"
    refine ⟨_, _, .inl (.of (s1 _ _ hl)), by rw [Int.zero_add]; exact aqn hx, gq9.mpr ⟨_, _, .inr (.of (s1 _ _ h3)), aqn (j := 0) rfl, aqI.mpr ⟨_, rfl, ?_⟩⟩⟩
    have e : decide ((⟨n.toArray⟩ : Str) = ⟨c.name.toArray⟩) = decide ((some (n, d)).map (·.1) = some c.name) := by
     rw [decide_eq_decide, fqU]
     exact ⟨fun z => by rw [z]; rfl, fun z => Option.some.inj z⟩
    rw [e]
    exact this
   ·walk_at "rd"
    exact hT H1 (Same.refl _)
   ·obtain ⟨o, r, d, e1, e2⟩ := pq0 (N := ys.length) hn0 hyl
    rw [e1] at hp1
    refine gq9.mpr ⟨_, _, .inl (.of hp1), aqn (j := 0) rfl, s1, o, d, by simp only [Int.zero_add], e2⟩
  rintro σ H1 ⟨s1, o, d, rfl, ho⟩
  have holt := (List.getElem?_eq_some_iff.mp ho).1
  walk_at "rd"
  have hl1 := s1 _ _ hl
  have hV1 := hV.mono s1
  have hsp : ∀ {a b : List (List Nat × PyData)} {x : List Nat × PyData}, (∀ w ∈ a, w ∈ ws) → (∀ w ∈ b, w ∈ ws) → smallD x.2 = true → ∀ w ∈ a ++ [x] ++ b, smallD w.2 = true := fun {a b x} ha hb hx w hw => by
   rcases List.mem_append.mp hw with z | z
   ·rcases List.mem_append.mp z with z | z
    ·exact hsm w (ha w z)
    ·rw [List.mem_singleton.mp z]; exact hx
   ·exact hsm w (hb w z)
  have hyo : ys[o]? = some ys[o] := List.getElem?_eq_getElem (by lia)
  obtain ⟨n', d', b, v, h1, h2, h3, h4⟩ := hV.get hyo
  rw [ho] at h1
  cases h1
  refine ⟨by decide, ite2 (fun _ => ?_) (fun _ => ⟨by decide, ite2 (fun _ => ?_) (fun _ => ?_)⟩)⟩
  ·refine ⟨_, .of hl1, fun p2 H2 n2 s2 e2 => ⟨_, .of (s2 _ _ hl1), fun p3 H3 n3 s3 e3 => ?_⟩⟩
   rw [fqR] at e2
   rw [show ((o : Int) + 1) = ((o + 1 : Nat) : Int) by lia, fqP] at e3
   refine .inl ⟨_, _, s3 _ _ e2, e3, aqv (by rw [List.length_take, List.length_drop]; lia), fun p4 H4 n4 s4 e4 => ?_⟩
   have s14 := s2.trans (s3.trans s4)
   refine k p4 (ws.take o ++ ws.drop (o + 1)) _ H4 (s1.trans s14) e4 (((hV1.mono s14).drop (o + 1)).append ((hV1.mono s14).take o)) (oqy ho hn0) (by rw [List.length_append, List.length_take, List.length_drop]; lia) fun w hw => ?_
   rcases List.mem_append.mp hw with z | z
   ·exact hsm w (List.mem_of_mem_take z)
   ·exact hsm w (List.mem_of_mem_drop z)
  ·obtain ⟨q, hq, eq⟩ : ∃ q : Nat, q ≤ ys.length ∧ i / 5 % ((ys.length : Int) + 1) = (q : Int) := by
    have h1 := Int.emod_nonneg (i / 5) (show (ys.length : Int) + 1 ≠ 0 by lia)
    have h2 := Int.emod_lt_of_pos (i / 5) (show 0 < (ys.length : Int) + 1 by lia)
    exact ⟨(i / 5 % ((ys.length : Int) + 1)).toNat, by lia, by lia⟩
   refine ⟨⟨by decide, by decide⟩, ys, .inl (.of hl1), by lia, ?_⟩
   rw [eq]
   refine ⟨_, .of hl1, fun p2 H2 n2 s2 e2 => ⟨_, _, .inl (.of (s2 _ _ hl1)), aqn hyo, by decide, fun p3 H3 n3 s3 e3 => ?_⟩⟩
   rw [fqR] at e2
   refine .inl ⟨_, _, s3 _ _ e2, e3, aqv (by rw [List.length_take]; simp only [List.length_cons, List.length_nil]; lia), fun p4 H4 n4 s4 e4 => ?_⟩
   have s24 := s2.trans (s3.trans s4)
   refine ⟨_, .of (s24 _ _ hl1), fun p5 H5 n5 s5 e5 => ?_⟩
   rw [fqP] at e5
   refine .inl ⟨_, _, s5 _ _ e4, e5, aqv (by rw [List.length_append, List.length_take, List.length_drop]; simp only [List.length_cons, List.length_nil]; lia), fun p6 H6 n6 s6 e6 => ?_⟩
   have s16 := s24.trans (s5.trans s6)
   have hV6 := hV1.mono s16
   refine k p6 (ws.take q ++ [(c.name, d)] ++ ws.drop q) _ H6 (s1.trans s16) e6 ?_ (lqd ho hn0) (by rw [List.length_append, List.length_append, List.length_take, List.length_drop]; simp only [List.length_cons, List.length_nil]; lia) (hsp (fun w => List.mem_of_mem_take) (fun w => List.mem_of_mem_drop) (hsm _ (List.mem_of_getElem? ho)))
   refine (hV6.drop q).append (VlsV.append ?_ (hV6.take q))
   rw [h2]
   exact .cons ((s1.trans s16) _ _ h3) (h4.mono (s1.trans s16)) .nil
  refine ⟨_, .of hl1, fun p2 H2 n2 s2 e2 => ⟨_, _, .inl (.of ((s1.trans s2) _ _ hlg)), aqn hv, ⟨by decide, by decide⟩, c, pg, i / 5, rfl, (s1.trans s2) _ _ hpg, hok, hst, fun x u H3 hs3 hI hb hs => ⟨by decide, fun p4 H4 n4 s4 e4 => ⟨by decide, fun p5 H5 n5 s5 e5 => ?_⟩⟩⟩⟩
  rw [fqR] at e2
  have s25 := hs3.trans (s4.trans s5)
  refine .inl ⟨_, _, s25 _ _ e2, e5, aqv (by rw [List.length_take]; simp only [List.length_cons, List.length_nil]; lia), fun p6 H6 n6 s6 e6 => ⟨_, .of ((s2.trans (s25.trans s6)) _ _ hl1), fun p7 H7 n7 s7 e7 => ?_⟩⟩
  rw [show ((o : Int) + 1) = ((o + 1 : Nat) : Int) by lia, fqP] at e7
  refine .inl ⟨_, _, s7 _ _ e6, e7, aqv (by rw [List.length_append, List.length_take, List.length_drop]; simp only [List.length_cons, List.length_nil]; lia), fun p8 H8 n8 s8 e8 => ?_⟩
  have s58 := s6.trans (s7.trans s8)
  have s18 := s2.trans (s25.trans s58)
  have hV8 := hV1.mono s18
  refine k p8 (ws.take o ++ [(c.name, x)] ++ ws.drop (o + 1)) _ H8 (s1.trans s18) e8 ?_ (oq0 ho hn0 hb) (by rw [List.length_append, List.length_append, List.length_take, List.length_drop]; simp only [List.length_cons, List.length_nil]; lia) (hsp (fun w => List.mem_of_mem_take) (fun w => List.mem_of_mem_drop) hs)
  exact (hV8.drop (o + 1)).append (VlsV.append (.cons ((s5.trans s58) _ _ e4) (hI.mono (s4.trans (s5.trans s58))) .nil) (hV8.take o))
theorem cqH (g : G K mg) : FnOk P w K mg base CX0 3 g.aq4 g.aqS ["thing"] eq8 := by
 refine g.aq3.ok fqf (fun vs H Q E h => ?_) (fun cdv A outer s H vs Q E hr h => ?_)
 ·obtain ⟨d, v, rfl, _⟩ := h; rfl
 ·obtain ⟨d, v, rfl, hv, hs, k⟩ := h
  refine ⟨_, (aqd (aqr (dqr (aql (jq4 g) (hr.mono (by decide)) rfl g.iqA g.gqc.kp g.iqd .nil pass0 (aqa (pv 0) aqb)) (dqg (cq6 nq6 (aqt (aqH (K := K) rfl) rfl g.dqX PySem.boot_len (aqa (pv 0) aqb)) aqc (nomark _)))))), ?_⟩
  walk_at "rd"
  refine ⟨d, v, rfl, hv, hs, fun H1 s1 => ?_⟩
  walk_at "rd"
  have k1 := k H1 s1
  cases hv with
  | str x =>
   refine ite2 (fun h => ?_) (fun h => ?_)
   ·walk_at "rd"
    refine ⟨aqv (dqw hs), ?_⟩
    have e : ftx (.str x) = decide ((0 : Int) < (x.length : Int)) := by
     simp only [ftx]
     rw [show x.cps.toList.all isSg = true from h, Bool.true_and]
     exact decide_eq_decide.mpr (by lia)
    rw [e] at k1
    exact k1
   ·rw [show ftx (.str x) = false by simp only [ftx]; rw [show x.cps.toList.all isSg = false from (Bool.not_eq_true _).mp h, Bool.false_and]] at k1
    exact k1
  | _ => exact k1
theorem eq4 (g : G K mg) : FnOk P w K mg base (CXN P w base) 3 g.bql g.aq5 ["pattern", "values"] (fqe K g.aqo) := by
 refine g.cqf.okn aq2 (fun vs H Q E h => ?_) (fun cdv A outer s H vs Q E hr h => ?_)
 ·obtain ⟨cs, xs, p, q, pz, cl, ws, ys, rfl, _⟩ := h; rfl
 ·obtain ⟨cs, xs, p, q, pz, cl, ws, ys, rfl, hp, hq, hx, hn, hpv, hw, hwl, kQ, kE⟩ := h
  refine ⟨_, (aqe (aqs (i := 2) aq2.nd rfl (Or.inl rfl) (aql (iq0 g) (hr.mono (by decide)) rfl g.gqO g.eq5.kp g.gqW .nil pass0 (aqa (aqz (aqg (K := K) rfl) (pv 0) (bqh (v := jqI) rfl g.hqi ⟨_, rfl⟩) (fun _ _ => rfl)) aqb)))
   (aqd (eqt PassesOwn.leaving rfl (hqX (K := K) rfl (pv 1)) (iq5 (n := 2) (K := K) rfl rfl (cqm (bqb (i := 3) aq2.nd rfl (Or.inl rfl)) (cqm (bqb (i := 4) aq2.nd rfl (Or.inl rfl)) hq4)))
   (aqd (aqW (aqp (lqz (K := K) rfl) (pv 3) (pv 2) (by with_unfolding_all rfl))
    (aqd (iqo gqL rfl g.eqO g.gqi (bq9 g) (hr.mono (by decide)) g.bqm rfl pass0 rfl (aqa (pv 3) aqb))) aqB))))), ?_⟩
  walk_at "rd"
  refine ⟨_, _, .inr hp, rfl, cs, xs, q, rfl, hq, hx, by lia, fun p1 H1 s1 hp1 => ⟨⟨_, .of (s1 _ _ hpv)⟩, ?_⟩⟩
  have hgl := jqF cs
  refine lq5 (xs := ys) (fun i σ H' => Same H1 H' ∧ (∀ w ∈ ws.take i, w.1 ∈ gapsM cs) ∧ ∃ v3 v4, σ = [some (.ref p), some (.ref pz), some (.ref p1), v3, v4]) ⟨Same.refl _, (fun w hw => by rw [List.take_zero] at hw; cases hw), none, none, rfl⟩ (fun i σ H' _ h => .of ((s1.trans h.1) _ _ hpv)) ?_ ?_
  ·rintro i x σ H2 hxi ⟨s2, hpre, v3, v4, rfl⟩
   obtain ⟨n, d, b, v, h1, rfl, h3, h4⟩ := hw.get hxi
   have s12 := s1.trans s2
   walk_at "rd"
   refine ⟨b, _, rfl, .of (s12 _ _ h3), rfl, _, _, rfl, _, _, rfl, rfl, p1, _, rfl, .inl (.of (s2 _ _ hp1)), rfl, ?_, _, rfl, ?_⟩
   ·exact List.all_eq_true.mpr fun y hy => by obtain ⟨z, _, rfl⟩ := List.mem_map.mp hy; rfl
   have e : inV (tV n) ((gapsM cs).map tV) = decide (n ∈ gapsM cs) := oqC n (gapsM cs)
   rw [e]
   by_cases hg : n ∈ gapsM cs
   ·rw [decide_eq_true hg]
    refine ite2 (fun z => absurd z (by decide)) (fun _ => ⟨s2, fun w hw' => ?_, _, _, rfl, rfl⟩)
    rw [List.take_add_one, h1] at hw'
    rcases List.mem_append.mp hw' with z | z
    ·exact hpre w z
    ·have : w = (n, d) := by simpa using z
     rw [this]; exact hg
   ·rw [decide_eq_false hg]
    refine ite2 (fun _ => ?_) (fun z => absurd rfl z)
    exact gqR fun dd H3 s3 hd => kE n (hqW h1 hpre hg) dd H3 (s12.trans s3) hd
  ·rintro σ H2 ⟨s2, hpre, v3, v4, rfl⟩
   rw [hw.length, List.take_length] at hpre
   exact kQ (gqM hpre) H2 (s1.trans s2)
theorem dql (g : G K mg) : FnOk P w K mg base CX0 3 g.cqS g.cqn ["_law_cell"] (iqx K) := by
 refine g.bq6.ok dqz (fun vs H Q E h => ?_) (fun cdv A outer s H vs Q E hr h => ?_)
 ·obtain ⟨c, rfl, _⟩ := h; rfl
 ·obtain ⟨c, rfl, k⟩ := h
  refine ⟨_, (aqe (aqs (i := 1) dqz.nd rfl (Or.inl rfl) (aql (cqj g) (hr.mono (by decide)) rfl g.bq8 g.bqo.kp g.bq5 .nil pass0 (aqa (pv 0) aqb)))
   (aqN (aqW (aqp (eq0 (K := K) rfl) (pv 1) (aqL (aqa aqi (aqa aqi (aqa aqi aqb)))) (by with_unfolding_all rfl))
    (aqd (aqs (i := 1) dqz.nd rfl (Or.inl rfl) (aqf (aqm (K := K)) (pv 1) (aqz (aqg (K := K) rfl) aqi (aqf aqC (aqf aqA (pv 0) aqc) aqc) (fun _ _ => rfl))))) aqB)
   (aqd (aqr (pv 1))))), ?_⟩
  have d1 : Str.ofString ".." = ⟨sUp.toArray⟩ := by decide +kernel
  have d2 : Str.ofString "." = ⟨sStay.toArray⟩ := by decide +kernel
  rw [d1, d2]
  walk_at "rd"
  refine ⟨c, rfl, fun l H1 hl hs s1 => ?_⟩
  refine ⟨fun σ H2 => Same H H2 ∧ ∃ l : List Nat, 0 < l.length ∧ l.length ≤ 5 ∧ (∀ c ∈ l, isSg c = true) ∧ isDot l = false ∧ σ = [some (.int c), some (tV l)], ?_, ?_⟩
  ·refine ⟨by decide, fun p H2 n2 s2 e2 => ?_⟩
   refine ⟨p, _, rfl, .inr (.of e2), rfl, rfl, _, rfl, ?_⟩
   show if (if false then _ else inV (sV l) [sV [], sV sStay, sV sUp]) = true then _ else _
   rw [if_neg (show ¬ false = true by decide), lqA]
   refine ite2 (fun hin => ?_) (fun hin => ?_)
   ·obtain ⟨d, hd, hda⟩ := hqT (Str.ofString "ab1z").cps.toList (c / 30) 4 (by decide) (by decide +kernel)
    have hd' : d ≠ 46 ∧ isSg d = true := by
     rw [show (Str.ofString "ab1z").cps.toList = [97, 98, 49, 122] by decide +kernel] at hd
     simp only [List.mem_cons, List.not_mem_nil, or_false] at hd
     rcases hd with rfl | rfl | rfl | rfl <;> decide
    refine ⟨⟨by decide, by decide⟩, by decide, d, by decide +kernel, hda, ?_⟩
    walk_at "rd"
    refine ⟨aqv (by lia), s1.trans s2, l ++ [d], by simp, by simp; lia, fun e he => ?_, mqP l d hd'.1, by simp⟩
    rcases List.mem_append.mp he with z | z
    ·exact hs e z
    ·rw [List.mem_singleton.mp z]; exact hd'.2
   ·simp only [Bool.or_eq_true, decide_eq_true_eq, not_or, Bool.not_eq_true] at hin
    exact ⟨s1.trans s2, l, List.length_pos_iff.mpr hin.1, by lia, hs, hin.2, rfl⟩
  rintro σ H2 ⟨s2, l, h1, h2, h3, h4, rfl⟩
  walk_at "rd"
  exact k l H2 h1 h2 h3 h4 s2
theorem gqE (g : G K mg) : FnOk P w K mg base CX0 4 g.bqW g.bqr ["thing"] (gqA K) := by
 refine g.cq5.ok gqw (fun vs H Q E h => ?_) (fun cdv A outer s H vs Q E hr h => ?_)
 ·obtain ⟨d, v, rfl, _⟩ := h; rfl
 ·obtain ⟨d, v, rfl, hv, hs, k⟩ := h
  refine ⟨_, (aqd (aqr (dqr (aql (cqH g) (hr.mono (by decide)) rfl g.bqM g.aq3.kp g.bqK .nil pass0 (aqa (pv 0) aqb)) (dqg (iqs (aql (iqu g) (hr.mono (by decide)) rfl g.hqr g.fqH.kp g.hq5 .nil pass0 (aqa (pv 0) aqb))))))), ?_⟩
  walk_at "rd"
  refine ⟨d, v, rfl, hv, hs, fun H1 s1 => ⟨_, rfl, ?_⟩⟩
  have k1 := k H1 s1
  cases hv with
  | str z =>
   have e : canD (.str z) = (ftx (.str z) && !isDot z.cps.toList) := rfl
   rw [e] at k1
   refine ite2 (fun hf => ?_) (fun hf => ?_)
   ·rw [hf, Bool.true_and] at k1
    exact ⟨z.cps.toList, rfl, _, rfl, k1⟩
   ·rw [Bool.eq_false_iff.mpr hf, Bool.false_and] at k1
    exact k1
  | _ => exact ite2 (fun z => by cases z) (fun _ => k1)
theorem hqt (g : G K mg) : FnOk P w K mg base CX0 4 g.cqA g.bqV ["_law_cell", "_law_name"] (hqm K) := by
 refine g.dqB.ok bqX (fun vs H Q E h => ?_) (fun cdv A outer s H vs Q E hr h => ?_)
 ·obtain ⟨c, n, rfl, _⟩ := h; rfl
 ·obtain ⟨c, n, rfl, k⟩ := h
  refine ⟨_, (aqe (aqW (aqp mqI (aqf aqC (pv 0) aqc) aqc (nomark _))
    (aqd (aqr (aqL (aqa aqi (aqa (aql (dql g) (hr.mono (by decide)) rfl g.cqY g.bq6.kp g.cq8 .nil pass0 (aqa (aqf aqA (pv 0) aqc) aqb)) aqb))))) aqB)
   (aqe (aqW (aqp mqI (aqf aqC (pv 0) aqc) aqc (nomark _))
    (aqe (aqs (i := 2) bqX.nd rfl (Or.inl rfl) (aql (cqj g) (hr.mono (by decide)) rfl g.bq8 g.bqo.kp g.bq5 .nil pass0 (aqa (aqf aqA (pv 0) aqc) aqb)))
   (aqe (aqs (i := 3) bqX.nd rfl (Or.inl rfl) (aql (cqj g) (hr.mono (by decide)) rfl g.bq8 g.bqo.kp g.bq5 .nil pass0 (aqa (aqf aqA (pv 0) aqc) aqb)))
   (aqN (aqW (aqp aq9 (aqf (aqm (K := K)) (pv 2) (pv 3)) aqi (nomark _))
    (aqd (aqs (i := 2) bqX.nd rfl (Or.inl rfl) (aqz (aqg (K := K) rfl) aqi (aqf aqC (aqf aqA (pv 0) aqc) aqc) (fun _ _ => rfl)))) aqB)
   (aqd (aqr (aqL (aqa aqi (aqa (pv 2) (aqa (pv 1) (aqa (pv 3) aqb)))))))))) aqB)
   (aqd (aqr (aqL (aqa (aqz (aqg (K := K) rfl) (aqu (aqa aqi (aqa aqi (aqa aqi (aqa aqi aqb))))) (aqf lq1 (aqf aqC (pv 0) aqc) aqc) (fun _ _ => rfl)) (aqa (pv 1) aqb))))))), ?_⟩
  walk_at "rd"
  have c0 := Int.emod_nonneg c (show (8 : Int) ≠ 0 by decide)
  have c1 := Int.emod_lt_of_pos c (show (0 : Int) < 8 by decide)
  refine ⟨by decide, ite2 (fun _ => ⟨⟨by decide, by decide⟩, ?_⟩) (fun h2 => ⟨by decide, ite2 (fun _ => ⟨⟨by decide, by decide⟩, ?_⟩) (fun h4 => ?_)⟩)⟩
  ·exact ⟨_, rfl, fun l H1 h1 h2 h3 h4 s1 => ⟨by decide, fun p H2 n2 s2 e2 => k (.step l) p H2 ⟨h1, by lia, h3, h4⟩ rfl (fun z => by cases z) (s1.trans s2) e2⟩⟩
  ·refine ⟨_, rfl, fun hd H1 l1 h1 s1 => ⟨⟨by decide, by decide⟩, _, rfl, fun tl H2 l2 h2 s2 => ?_⟩⟩
   refine ⟨fun σ H3 => Same H H3 ∧ ∃ hd : List Nat, hd.length ≤ 4 ∧ (∀ c ∈ hd, isSg c = true) ∧ hd ++ tl ≠ [] ∧ σ = [some (.int c), some (tV n), some (tV hd), some (tV tl)], ?_, ?_⟩
   ·walk_at "rd"
    refine ⟨aqv (by lia), ite2 (fun h0 => ?_) (fun h0 => ⟨s1.trans s2, hd, l1, h1, fun z => h0 (by rw [z]), rfl⟩)⟩
    obtain ⟨d, hdm, hda⟩ := hqT (Str.ofString "ab1.").cps.toList (c / 16) 4 (by decide) (by decide +kernel)
    have hd' : isSg d = true := by
     rw [show (Str.ofString "ab1.").cps.toList = [97, 98, 49, 46] by decide +kernel] at hdm
     simp only [List.mem_cons, List.not_mem_nil, or_false] at hdm
     rcases hdm with rfl | rfl | rfl | rfl <;> decide
    exact ⟨⟨by decide, by decide⟩, by decide, d, by decide +kernel, hda, s1.trans s2, [d], by simp, fun e he => by rw [List.mem_singleton.mp he]; exact hd', by simp, rfl⟩
   rintro σ H3 ⟨s3, hd, l1, h1, hne, rfl⟩
   walk_at "rd"
   exact ⟨by decide, fun p H4 n4 s4 e4 => k (.part hd n tl) p H4 ⟨by lia, by lia, h1, h2, hne⟩ rfl (fun _ => rfl) (s3.trans s4) e4⟩
  ·refine ⟨by decide, fun p H1 n1 s1 e1 => ⟨by decide, ?_⟩⟩
   have h : c % 8 - 4 = 0 ∨ c % 8 - 4 = 1 ∨ c % 8 - 4 = 2 ∨ c % 8 - 4 = 3 := by lia
   rcases h with h | h | h | h <;> rw [h]
   ·exact ⟨_, _, .inl (.of e1), aqn (j := 0) rfl, by decide, fun p2 H2 n2 s2 e2 => k (.num n) p2 H2 trivial rfl (fun _ => rfl) (s1.trans s2) e2⟩
   ·exact ⟨_, _, .inl (.of e1), aqn (j := 1) rfl, by decide, fun p2 H2 n2 s2 e2 => k (.word n) p2 H2 trivial rfl (fun _ => rfl) (s1.trans s2) e2⟩
   ·exact ⟨_, _, .inl (.of e1), aqn (j := 2) rfl, by decide, fun p2 H2 n2 s2 e2 => k (.gap n) p2 H2 trivial rfl (fun _ => rfl) (s1.trans s2) e2⟩
   ·exact ⟨_, _, .inl (.of e1), aqn (j := 3) rfl, by decide, fun p2 H2 n2 s2 e2 => k (.gap n) p2 H2 trivial rfl (fun _ => rfl) (s1.trans s2) e2⟩
theorem hq3 (g : G K mg) : FnOk P w K mg base CX0 4 g.cqo g.bqQ ["_law_piece_here", "_law_cell"] (hqO K) := by
 refine g.dqF.ok cqL (fun vs H Q E h => ?_) (fun cdv A outer s H vs Q E hr h => ?_)
 ·obtain ⟨c, p, i, rfl, _⟩ := h; rfl
 ·obtain ⟨c, p, i, rfl, hp, hok, hst, k⟩ := h
  refine ⟨_, (aqe (aqW (aqp aq9 (aqz (aqg (K := K) rfl) (pv 0) aqc (fun _ _ => rfl)) aqi (nomark _))
    (aqe (aqs (i := 2) cqL.nd rfl (Or.inl rfl) (aql (cqj g) (hr.mono (by decide)) rfl g.bq8 g.bqo.kp g.bq5 .nil pass0 (aqa (aqf aqA (pv 1) aqc) aqb)))
   (aqe (aqW (PW.pt (iqV (aqp aq9 (pv 2) aqi (nomark _)) (gq6 (aqp (eq0 (K := K) rfl) (aqf (aqm (K := K)) (aqf (aqm (K := K)) (aqz (aqg (K := K) rfl) (pv 0) aqc (fun _ _ => rfl)) (pv 2)) (aqz (aqg (K := K) rfl) (pv 0) aqc (fun _ _ => rfl))) (aqL (aqa aqi (aqa aqi aqb))) (by with_unfolding_all rfl)))))
    (aqd (aqs (i := 2) cqL.nd rfl (Or.inl rfl) (aqf (aqm (K := K)) (pv 2) aqi))) aqB)
   (aqd (aqr (pv 2))))) aqB)
   (aqe (aqW (aqp aq9 (aqz (aqg (K := K) rfl) (pv 0) aqc (fun _ _ => rfl)) aqi (nomark _))
    (aqd (aqr (aqf aqC (aqf aqA (pv 1) aqc) (aqz (aqg (K := K) rfl) (aqu (aqa aqc (aqa aqc (aqa (aqf gq0 aqc aqc) (aqa (aqf gq0 aqc aqc) aqb))))) (aqf aqC (pv 1) aqc) (fun _ _ => rfl))))) aqB)
   (aqe (aqW (aqp aq9 (aqz (aqg (K := K) rfl) (pv 0) aqc (fun _ _ => rfl)) aqi (nomark _))
    (aqd (aqr (aqf cq7 (aqz (aqg (K := K) rfl) aqi (aqf aqC (aqf aqA (pv 1) aqc) aqc) (fun _ _ => rfl)) (aqf (aqm (K := K)) aqc (aqf aqC (aqf aqA (pv 1) aqc) aqc))))) aqB)
   (aqe (aqW (aqp aq9 (aqz (aqg (K := K) rfl) (pv 0) aqc (fun _ _ => rfl)) aqi (nomark _))
    (aqd (aqr (dq7 (fx := ["_law_cell"]) (fr := [1]) rfl rfl (by decide +kernel) rfl (by decide +kernel) rfl (by decide +kernel) rfl (.cons rfl rfl rfl rfl .nil) rfl (bqJ rfl g.cq9 (aqa (aqf (aqm (K := K)) aqc (aqf aqC (aqf aqA (pv 1) aqc) aqc)) aqb)) (fun _ _ _ => iqI) (fun _ _ _ => (aql (dql g) (hr.mono (by decide)) rfl g.cqY g.bq6.kp g.cq8 .nil pass0 (aqa (aqf aqA (pv 1) (aqf (aqm (K := K)) aqc (aqf cq7 aqc (pv 0)))) aqb)))))) aqB)
   (aqd (aqr (aql (dql g) (hr.mono (by decide)) rfl g.cqY g.bq6.kp g.cq8 .nil pass0 (aqa (aqf aqA (pv 1) aqc) aqb)))))))), ?_⟩
  have d1 : Str.ofString ".." = ⟨sUp.toArray⟩ := by decide +kernel
  have d2 : Str.ofString "." = ⟨sStay.toArray⟩ := by decide +kernel
  have eA : Str.ofString "a" = ⟨[97].toArray⟩ := by decide +kernel
  rw [d1, d2, eA]
  walk_at "rd"
  refine ⟨_, _, .inr (.of hp), c.at0, aqI.mpr ⟨_, rfl, ?_⟩⟩
  rw [eq1]
  refine ite2 (fun h2 => ⟨⟨by decide, by decide⟩, i / 8, rfl, fun l H1 hl hlg s1 => ?_⟩) (fun h2 => ⟨_, _, .inr (.of hp), c.at0, aqI.mpr ⟨_, rfl, ?_⟩⟩)
  ·cases c with
   | part a n t =>
    obtain ⟨o1, o2, o3, o4, o5⟩ := hok
    have hv := s1 _ _ hp
    have more : ∀ {H2 : Hp}, Same H H2 → rAddS K (tV l) (tV [97]) H2 Q := fun {H2} s2 => by
     refine cqc.mpr ⟨aqv (by rw [bqG, bqG]; simp only [List.length_cons, List.length_nil]; lia), ?_⟩
     rw [cqI]
     refine k (.txt (l ++ [97])) _ H2 ⟨_, rfl, by simp, fun z hz => ?_, by rw [List.length_append, List.length_singleton]; lia, lqq (c := 97) (by simp) (by decide)⟩ (by show (l ++ [97]).length ≤ 90; rw [List.length_append, List.length_singleton]; lia) s2 rfl (fun q z => by cases z)
     rcases List.mem_append.mp hz with y | y
     ·exact hlg z y
     ·rw [List.mem_singleton.mp y]; decide
    have hnil : decide ((⟨l.toArray⟩ : Str) = ⟨#[]⟩) = decide (l = []) := by rw [decide_eq_decide]; exact pqq
    refine aqI.mpr ⟨_, rfl, ?_⟩
    rw [hnil]
    refine ite2 (fun _ => more s1) (fun hl0 => ⟨_, _, .inr (.of hv), aqn (j := 1) rfl, cqc.mpr ⟨aqv (by rw [bqG, bqG]; lia), _, _, .inr (.of hv), aqn (j := 3) rfl, ?_⟩⟩)
    rw [cqI]
    refine cqc.mpr ⟨aqv (by rw [bqG, bqG, List.length_append]; lia), ?_⟩
    rw [cqI]
    refine ⟨by decide, fun p2 H2 n2 s2 e2 => ⟨p2, _, rfl, .inr (.of e2), rfl, rfl, _, rfl, ?_⟩⟩
    show if (if false then _ else inV (sV (a ++ l ++ t)) [sV sStay, sV sUp]) = true then _ else _
    rw [if_neg (show ¬ false = true by decide), jqb]
    refine ite2 (fun _ => more (s1.trans s2)) (fun hd => ?_)
    have hne : l ≠ [] := fun z => hl0 (decide_eq_true z)
    exact k (.txt l) _ H2 ⟨l, rfl, hne, hlg, by lia, (Bool.not_eq_true _).mp hd⟩ (by show l.length ≤ 90; lia) (s1.trans s2) rfl (fun q z => by cases z)
   | _ => cases h2
  rw [jqM]
  refine ite2 (fun h3 => ?_) (fun h3 => ⟨_, _, .inr (.of hp), c.at0, aqI.mpr ⟨_, rfl, ?_⟩⟩)
  ·refine ⟨⟨by decide, by decide⟩, ⟨by decide, by decide, by decide⟩, ⟨by decide, by decide, by decide⟩, by decide, fun p2 H2 n2 s2 hp2 => ⟨by decide, ?_⟩⟩
   obtain ⟨j, hj, ej⟩ : ∃ j : Nat, j < 4 ∧ i % 4 = (j : Int) := ⟨(i % 4).toNat, by lia, by lia⟩
   obtain ⟨m, hm, hm0, hm1⟩ : ∃ m : Int, [V.int 10, V.int 100, V.int (10 ^ Int.toNat 9), V.int (10 ^ Int.toNat 60)][j]? = some (.int m) ∧ 0 < m ∧ m ≤ 10 ^ 60 := by
    match j, hj with
    | 0, _ => exact ⟨_, rfl, by decide, by decide +kernel⟩
    | 1, _ => exact ⟨_, rfl, by decide, by decide +kernel⟩
    | 2, _ => exact ⟨_, rfl, by decide, by decide +kernel⟩
    | 3, _ => exact ⟨_, rfl, by decide +kernel, by decide +kernel⟩
   have m1 := Int.emod_nonneg (i / 8) (show m ≠ 0 by lia)
   have m2 := Int.emod_lt_of_pos (i / 8) hm0
   refine ⟨_, _, .inl (.of hp2), by rw [ej]; exact aqn hm, rd_I.mpr ⟨hm0, ?_⟩⟩
   cases c with
   | num nm => exact k (.int (i / 8 % m)) _ H2 ⟨_, rfl, m1, by lia⟩ trivial s2 rfl (fun q z => by cases z)
   | _ => cases h3
  rw [jqw]
  refine ite2 (fun h4 => ?_) (fun h4 => ⟨_, _, .inr (.of hp), c.at0, aqI.mpr ⟨_, rfl, ?_⟩⟩)
  ·obtain ⟨d, hd, hda⟩ := hqT (Str.ofString "abcxyz").cps.toList (i / 8) 6 (by decide) (by decide +kernel)
   rw [show (Str.ofString "abcxyz").cps.toList = [97, 98, 99, 120, 121, 122] by decide +kernel] at hd
   have hd' : isSma d = true := by
    simp only [List.mem_cons, List.not_mem_nil, or_false] at hd
    rcases hd with rfl | rfl | rfl | rfl | rfl | rfl <;> decide
   obtain ⟨m, hm, hm1, hm2⟩ : ∃ m : Nat, 1 + i / 48 % 60 = (m : Int) ∧ 1 ≤ m ∧ m ≤ 60 := ⟨(1 + i / 48 % 60).toNat, by lia, by lia, by lia⟩
   rw [hm]
   refine ⟨⟨by decide, by decide⟩, by decide, d, by decide +kernel, hda, ⟨by decide, by decide⟩, by decide, lqa d m hm2, ?_⟩
   rw [mq0 d m]
   cases c with
   | word nm => exact k (.txt (List.replicate m d)) _ H ⟨_, rfl, List.all_eq_true.mpr fun x hx => by rw [List.eq_of_mem_replicate hx]; exact hd', by rw [List.length_replicate]; lia, by rw [List.length_replicate]; lia⟩ (by show (List.replicate m d).length ≤ 90; rw [List.length_replicate]; lia) (Same.refl _) rfl (fun q z => by cases z)
   | _ => cases h4
  rw [hqG]
  refine ite2 (fun h5 => ?_) (fun h5 => ⟨⟨by decide, by decide⟩, i / 8, rfl, fun s H2 a1 a2 a3 a4 s2 => ?_⟩)
  ·obtain ⟨m, hm, hm1, hm2⟩ : ∃ m : Nat, 1 + i / 3 % 5 = (m : Int) ∧ 1 ≤ m ∧ m ≤ 5 := ⟨(1 + i / 3 % 5).toNat, by lia, by lia, by lia⟩
   rw [hm, Int.toNat_natCast]
   refine ⟨⟨by decide, by decide⟩, by decide, by lia, by lia, fun l nl => ?_⟩
   refine jqd (fun j ys H' => Same H H' ∧ ∃ ss : List (List Nat), ys = ss.map tV ∧ ss.length = j ∧ ∀ s ∈ ss, SgT s ∧ s.length ≤ 90 ∧ isDot s = false) (aqv (by lia)) ⟨bqd nl, [], rfl, rfl, (fun s hs => by cases hs)⟩ (fun j ys H2 T hj hJ hl2 hT => ?_) (fun ys H2 hJ hl2 => ?_)
   ·obtain ⟨s2, ss, rfl, hsl, hss⟩ := hJ
    walk_at "rd"
    refine ⟨.inl ⟨by decide, by decide⟩, ⟨by lia, by lia⟩, _, rfl, fun s H3 a1 a2 a3 a4 s3 => hT (tV s) H3 (s3 _ _ hl2) ⟨mqe (s2.trans s3) nl, ss ++ [s], by rw [List.map_append]; rfl, by rw [List.length_append, hsl]; rfl, fun z hz => ?_⟩⟩
    rcases List.mem_append.mp hz with y | y
    ·exact hss z y
    ·rw [List.mem_singleton.mp y]; exact ⟨⟨List.length_pos_iff.mp a1, a3⟩, by lia, a4⟩
   ·obtain ⟨s2, ss, rfl, hsl, hss⟩ := hJ
    cases c with
    | rest nm => exact k (.lst ss) _ H2 ⟨ss, rfl, List.length_pos_iff.mp (by lia), by lia, fun s hs => ⟨(hss s hs).1, by have := (hss s hs).2.1; lia, (hss s hs).2.2⟩⟩ ⟨by lia, fun s hs => (hss s hs).2.1⟩ s2 ⟨l, rfl, hl2⟩ (fun q z => by cases z; exact nl)
    | _ => cases h5
  ·cases c with
   | step w => cases hst
   | part a n t => exact absurd rfl h2
   | num n => exact absurd rfl h3
   | word n => exact absurd rfl h4
   | rest n => exact absurd rfl h5
   | gap n => exact k (.txt s) _ H2 ⟨s, rfl, ⟨List.length_pos_iff.mp a1, a3⟩, by lia, a4⟩ (by show s.length ≤ 90; lia) s2 rfl (fun q z => by cases z)
theorem iq9 (g : G K mg) : FnOk P w K mg base CX0 5 g.dqW g.cq4 ["gap", "value"] (jqu K) := by
 refine g.eq7.ok jqh (fun vs H Q E h => ?_) (fun cdv A outer s H vs Q E hr h => ?_)
 ·obtain ⟨c, p, d, v, rfl, _⟩ := h; rfl
 ·obtain ⟨c, p, d, v, rfl, hp, hc, hh, ht, hv, hs, k⟩ := h
  refine ⟨_, (aqe (aqW (aqp aq9 (aqz (aqg (K := K) rfl) (pv 0) aqc (fun _ _ => rfl)) aqi (nomark _))
    (aqd (aqr (dqr (aqt cqK rfl g.aqx aqq (aqa (pv 1) (aqa (eqb (v := .ty "list") rfl g.jqO jqf rfl) aqb))) (dqr (cq6 nq6 (aqt (aqH (K := K) rfl) rfl g.dqX PySem.boot_len (aqa (pv 1) aqb)) aqc (nomark _)) (dqg (aqt (iql (K := K) rfl rfl) rfl g.oqF PyProof.Rows.boot_all (aqa (dq7 (fx := []) (fr := []) rfl rfl (by decide +kernel) rfl (by decide +kernel) rfl (by decide +kernel) rfl .nil rfl (hqX (K := K) rfl (pv 1)) (fun _ _ _ => iqI) (fun _ _ _ => (aql (gqE g) (hr.mono (by decide)) rfl g.eqh g.cq5.kp g.eqT .nil pass0 (aqa (pv 0) aqb)))) aqb))))))) aqB)
   (aqe (aqW (aqp aq9 (aqz (aqg (K := K) rfl) (pv 0) aqc (fun _ _ => rfl)) aqi (nomark _))
    (aqd (aqr (dqr (aql (eqL g) (hr.mono (by decide)) rfl g.cqE g.bqp.kp g.cqG .nil pass0 (aqa (pv 1) aqb)) (dqg (jqB oqQ mqI aqc (pv 1) (aqf gq0 aqc aqc)))))) aqB)
   (aqe (aqW (aqp aq9 (aqz (aqg (K := K) rfl) (pv 0) aqc (fun _ _ => rfl)) aqi (nomark _))
    (aqd (aqr (dqr (aqt cqK rfl g.aqx aqq (aqa (pv 1) (aqa (eqb (v := .ty "str") rfl g.lqS jqW rfl) aqb))) (dqg (aql (kqu g) (hr.mono (by decide)) rfl g.iqc g.fqX.kp g.iqL .nil pass0 (aqa (pv 1) aqb)))))) aqB)
   (aqd (aqr (dqr (aql (cqH g) (hr.mono (by decide)) rfl g.bqM g.aq3.kp g.bqK .nil pass0 (aqa (pv 1) aqb)) (dqg (iqs (aql (iqu g) (hr.mono (by decide)) rfl g.hqr g.fqH.kp g.hq5 .nil pass0 (aqa (aqf (aqm (K := K)) (aqf (aqm (K := K)) (aql (gqK g) (hr.mono (by decide)) rfl g.fq5 g.eqo.kp g.gqa .nil pass0 (aqa (pv 0) aqb)) (pv 1)) (aql (gqV g) (hr.mono (by decide)) rfl g.gqd g.eqr.kp g.gqq .nil pass0 (aqa (pv 0) aqb))) aqb)))))))))), ?_⟩
  walk_at "rd"
  refine ⟨_, _, .inr hp, c.at0, aqI.mpr ⟨_, rfl, ?_⟩⟩
  rw [hqG]
  refine ite2 (fun hrs => ?_) (fun hrs => ⟨_, _, .inr hp, c.at0, aqI.mpr ⟨_, rfl, ?_⟩⟩)
  ·cases c with
   | rest n =>
    have k1 := k
    cases hv with
    | lst hl r =>
     rename_i a xs ds
     refine ⟨"list", fqM hl, ?_⟩
     rw [if_pos (by decide)]
     have hlen := r.length
     have hsm : ds.length ≤ 100000 ∧ smallAll ds = true := by simpa [smallD] using hs
     refine jqN.mpr ⟨xs, .inl (.of hl), mqW.mpr ⟨_, rfl, ?_⟩⟩
     have e : isValD (.rest n) (.list ds) = (decide (0 < ds.length) && ds.all canD) := rfl
     rw [e] at k
     refine ite2 (fun h0 => ?_) (fun h0 => ?_)
     ·have h0 : 0 < ds.length := by have := of_decide_eq_true h0; lia
      rw [decide_eq_true h0, Bool.true_and] at k
      refine ⟨_, rfl, ⟨_, .of hl⟩, fun p0 n0 => ?_⟩
      refine jq8 (zs := (ds.map canD).map V.bl) (.of hl) (aqv (by lia)) n0 (by rw [List.length_map, List.length_map, hlen]) (fun i x z hx hz H1 T s1 hT => ?_) (fun H1 s1 hp1 => ?_)
      ·obtain ⟨d, hd, hI⟩ := r.at i x hx
       rw [List.getElem?_map, List.getElem?_map, hd] at hz
       cases hz
       walk_at "rd"
       exact ⟨d, x, rfl, hI.mono s1, fqu hsm.2 (List.mem_of_getElem? hd), fun H2 s2 => hT H2 s2⟩
      ·refine jqy.mpr ⟨ds.map canD, .of hp1, ?_⟩
       have := k H1 s1
       rw [List.all_map]
       exact this
     ·have h0 : ¬ 0 < ds.length := fun z => h0 (decide_eq_true (by lia))
      rw [decide_eq_false h0, Bool.false_and] at k
      exact k H (Same.refl _)
    | tup hl r =>
     refine ⟨"tuple", fqD hl, ?_⟩
     rw [if_neg (by decide)]
     exact k H (Same.refl _)
    | dic hl => exact ⟨"dict", by simp only [kindV, hl], ite2 (fun z => absurd z (by decide)) (fun _ => k H (Same.refl _))⟩
    | non => exact ⟨"NoneType", rfl, ite2 (fun z => absurd z (by decide)) (fun _ => k H (Same.refl _))⟩
    | bl b => exact ⟨"bool", rfl, ite2 (fun z => absurd z (by decide)) (fun _ => k H (Same.refl _))⟩
    | int i => exact ⟨"int", rfl, ite2 (fun z => absurd z (by decide)) (fun _ => k H (Same.refl _))⟩
    | str x => exact ⟨"str", rfl, ite2 (fun z => absurd z (by decide)) (fun _ => k H (Same.refl _))⟩
   | _ => cases hrs
  rw [jqM]
  refine ite2 (fun hnm => ?_) (fun hnm => ⟨_, _, .inr hp, c.at0, aqI.mpr ⟨_, rfl, ?_⟩⟩)
  ·cases c with
   | num n =>
    refine ⟨d, v, rfl, hv, _, rfl, ?_⟩
    cases hv with
    | int i =>
     refine ite2 (fun _ => mqW.mpr ⟨_, rfl, ?_⟩) (fun z => absurd rfl z)
     have e : isValD (.num n) (.int i) = decide (0 ≤ i ∧ i < 10 ^ 60) := rfl
     rw [e] at k
     have k1 := k H (Same.refl _)
     refine ite2 (fun h0 => ⟨⟨by decide, by decide, by decide⟩, mqW.mpr ?_⟩) (fun h0 => ?_)
     ·have h0 := of_decide_eq_true h0
      rw [show decide (0 ≤ i ∧ i < 10 ^ 60) = decide (i < 10 ^ Int.toNat 60) by rw [decide_eq_decide]; exact ⟨fun z => z.2, fun z => ⟨h0, z⟩⟩] at k1
      exact k1
     ·rw [decide_eq_false (fun z => h0 (decide_eq_true z.1))] at k1
      exact k1
    | _ => exact ite2 (fun z => by cases z) (fun _ => k H (Same.refl _))
   | _ => cases hnm
  rw [jqw]
  refine ite2 (fun hw => ?_) (fun hw => ?_)
  ·cases c with
   | word n =>
    cases hv with
    | str x =>
     refine ⟨"str", rfl, ite2 (fun _ => ?_) (fun z => absurd (by decide) z)⟩
     have hl := dqw hs
     exact ⟨x.cps.toList, rfl, hl, fun H1 s1 => k H1 s1⟩
    | lst hl r => exact ⟨"list", fqM hl, ite2 (fun z => absurd z (by decide)) (fun _ => k H (Same.refl _))⟩
    | tup hl r => exact ⟨"tuple", fqD hl, ite2 (fun z => absurd z (by decide)) (fun _ => k H (Same.refl _))⟩
    | dic hl => exact ⟨"dict", by simp only [kindV, hl], ite2 (fun z => absurd z (by decide)) (fun _ => k H (Same.refl _))⟩
    | non => exact ⟨"NoneType", rfl, ite2 (fun z => absurd z (by decide)) (fun _ => k H (Same.refl _))⟩
    | bl b => exact ⟨"bool", rfl, ite2 (fun z => absurd z (by decide)) (fun _ => k H (Same.refl _))⟩
    | int i => exact ⟨"int", rfl, ite2 (fun z => absurd z (by decide)) (fun _ => k H (Same.refl _))⟩
   | _ => cases hw
  ·have e : isValD c d = (ftx d && !isDot (c.head ++ txD d ++ c.tail)) := by
    cases c with
    | part a b e => rfl
    | gap n => show (ftx d && !isDot (txD d)) = (ftx d && !isDot ([] ++ txD d ++ [])); rw [List.nil_append, List.append_nil]
    | step s => cases hc
    | num n => exact absurd rfl hnm
    | word n => exact absurd rfl hw
    | rest n => exact absurd rfl hrs
   rw [e] at k
   refine ⟨d, v, rfl, hv, hs, fun H1 s1 => ⟨_, rfl, ?_⟩⟩
   refine ite2 (fun hf => ?_) (fun hf => ?_)
   ·cases hv with
    | str x =>
     obtain ⟨⟨l⟩⟩ := x
     have hl : l.length ≤ 100000 := dqw hs
     rw [hf, Bool.true_and] at k
     have b3 : 300000 ≤ sizeLine := by decide
     refine ⟨c, p, rfl, s1.tup hp, cqc.mpr ⟨Nat.le_trans (show c.head.length + l.length ≤ 300000 by lia) b3, c, p, rfl, s1.tup hp, cqc.mpr ⟨?_, ?_⟩⟩⟩
     ·show ((⟨c.head.toArray⟩ : Str) ++ ⟨l.toArray⟩).length + c.tail.length ≤ _
      rw [cqI, bqG, List.length_append]
      lia
     ·show iqX [V.str ((⟨c.head.toArray⟩ : Str) ++ ⟨l.toArray⟩ ++ ⟨c.tail.toArray⟩)] H1 _ E0
      rw [cqI, cqI]
      exact ⟨_, rfl, _, rfl, k H1 s1⟩
    | _ => cases hf
   ·rw [Bool.eq_false_iff.mpr hf, Bool.false_and] at k
    exact k H1 s1
theorem fq8 (g : G K mg) : FnOk P w K mg base CX0 5 g.bqx g.bqc ["_law_cell", "_law_names_here", "_law_cells"] (gqb K) := by
 refine g.cqC.ok dqv (fun vs H Q E h => ?_) (fun cdv A outer s H vs Q E hr h => ?_)
 ·obtain ⟨c, pn, pc, ns, cs, rfl, _⟩ := h; rfl
 ·obtain ⟨c, pn, pc, ns, cs, rfl, hpn, hpc, hlen, hn, hns, k⟩ := h
  refine ⟨_, (aqN (jqT (i := 3) (K := K) (fx := []) (fr := []) dqv.nd rfl rfl rfl rfl rfl (by decide +kernel) rfl (by decide +kernel) rfl rfl (by decide +kernel) rfl .nil rfl (oqE (K := K) rfl rfl g.qqt (aqa (pv 2) (aqa (pv 1) aqb))) (fun _ _ _ => iqI) (fun _ _ _ => (aql (hqt g) (hr.mono (by decide)) rfl g.fqw g.dqB.kp g.fql .nil pass0 (aqa (pv 0) (aqa (pv 1) aqb)))))
   (aqN (aqW (PW.pt (lqK (aqp aq9 (aqf aqC (pv 0) aqc) aqc (nomark _)) (jqo (aqp (lqc hr.units) (pv 3) (aqu aqb) (nomark _)))))
    (aqd (nqk (aqL (aqa aqi (aqa (aqz (aqg (K := K) rfl) (pv 1) (aqf lq1 (aqt (aqH (K := K) rfl) rfl g.dqX PySem.boot_len (aqa (pv 3) aqb)) aqc) (fun _ _ => rfl)) aqb))) (kqL (pv 3) (qqf nqx aqc) hqY))) aqB)
   (aqd (aqr (aqL (aqa (dqE (fq6 (K := K) rfl) rfl g.iq3 jqY (aqa (pv 3) aqb)) (aqa (pqY (cq6 (nql hr.units) (pv 3) (aqu aqb) (nomark _)) (dqg (cq6 aq9 (aqf aqC (aqf aqA (pv 0) aqc) aqc) aqc (nomark _)))) aqb))))))), ?_⟩
  walk_at "rd"
  refine ⟨fun σ H1 => Same H H1 ∧ ∃ (ps : List Pc) (pl : Addr) (xs : List V), σ = [some (.int c), some (.ref pn), some (.ref pc), some (.ref pl)] ∧ PcT H1 ps xs ∧ H1 pl = some (.lst xs) ∧ H pl = none ∧ ps.length = cs.length ∧ (∀ x ∈ ps, PcOk x ∧ x.isRest = false) ∧ (∀ (i : Nat) (x : Pc), ps[i]? = some x → x.isStep = false → ns[i]? = some x.name), ?_, ?_⟩
  ·refine ⟨pc, pn, _, _, ⟨rfl, rfl⟩, hpc, .of hpn, fun p0 n0 => ?_⟩
   refine kqB (fun i ws H' => SameBut p0 H H' ∧ ∃ ps : List Pc, PcT H' ps ws ∧ ps.length = i ∧ (∀ x ∈ ps, PcOk x ∧ x.isRest = false) ∧ ∀ (j : Nat) (x : Pc), ps[j]? = some x → x.isStep = false → ns[j]? = some x.name) (fun i ws H1 H2 s h => ?_) (by rw [List.length_map]; exact aqv (by lia)) ⟨dq5.trans (SameBut.refl _ _), [], .nil, rfl, (fun x hx => by cases hx), fun j x hx => by cases hx⟩ (fun i ws H2 h => ?_) (fun i x y ws H2 T hx hy h hp2 hT => ?_) (fun ws H2 h hp2 => ?_)
   ·obtain ⟨h1, ps, h2, h3⟩ := h
    exact ⟨h1.trans s.but, ps, h2.mono s.toT, h3⟩
   ·have s := h.1.same n0
    exact ⟨s.seq hpc, .of (s _ _ hpn)⟩
   ·obtain ⟨sb, ps, h2, h3, h4, h5⟩ := h
    rw [List.getElem?_map] at hx hy
    obtain ⟨cc, hcc, rfl⟩ := Option.map_eq_some_iff.mp hx
    obtain ⟨nn, hnn, rfl⟩ := Option.map_eq_some_iff.mp hy
    walk_at "rd"
    refine ⟨cc, nn, rfl, fun pcx q H3 ok1 ok2 ok3 s3 hq => hT _ H3 (s3 _ _ hp2) ?_⟩
    have hqp : q ≠ p0 := fun z => by rw [z, s3 _ _ hp2] at hq; cases hq
    refine ⟨(sb.trans s3.but).trans dq5, ps ++ [pcx], ?_, by rw [List.length_append, List.length_singleton, h3], fun x hx => ?_, fun j x hj hst => ?_⟩
    ·have t3 : SameT H2 (upd H3 p0 (.lst (ws ++ [.ref q]))) := fun b ys e => by
      rw [aqj (fun z => by rw [z, hp2] at e; cases e)]
      exact s3 _ _ e
     exact PcT.append (.cons (by rw [aqj hqp]; exact hq) .nil) (h2.mono t3)
    ·rcases List.mem_append.mp hx with z | z
     ·exact h4 x z
     ·rw [List.mem_singleton.mp z]; exact ⟨ok1, ok2⟩
    ·by_cases hj2 : j < ps.length
     ·rw [List.getElem?_append_left hj2] at hj
      exact h5 j x hj hst
     ·rw [List.getElem?_append_right (by lia)] at hj
      have hk3 : j - ps.length = 0 := by
       cases hh : j - ps.length with
       | zero => rfl
       | succ z => rw [hh] at hj; cases hj
      rw [hk3] at hj
      cases hj
      rw [show j = i by lia, hnn, ok3 hst]
   ·obtain ⟨sb, ps, h2, h3, h4, h5⟩ := h
    rw [List.length_map, List.length_map] at h3
    exact ⟨sb.same n0, ps, p0, ws, rfl, h2, hp2, n0, by lia, h4, h5⟩
  rintro σ H1 ⟨s1, ps, pl, xs, rfl, hP, hpl, nl, hl, hok, hnm⟩
  have hxl := hP.length
  have hsg : ∀ {qs : List Pc}, (∀ x ∈ qs, PcOk x) → (∀ (i : Nat) (x : Pc), qs[i]? = some x → x.isStep = false → ns[i]? = some x.name) → (∀ n ∈ ns, ∀ x ∈ n, isSg x = true) → ∀ x ∈ qs, PcSg x := fun {qs} h1 h2 h3 x hx => by
   obtain ⟨i, hi⟩ := List.mem_iff_getElem?.mp hx
   have ok := h1 x hx
   refine ⟨fun l e => ?_, fun a b d e => ?_, fun y hy => ?_⟩
   ·rw [e] at ok; exact ok.2.2.1
   ·rw [e] at ok; exact ⟨ok.2.2.1, ok.2.2.2.1⟩
   ·cases hst : x.isStep with
    | true =>
     cases x with
     | step l => cases hy
     | _ => cases hst
    | false => exact h3 _ (List.mem_of_getElem? (h2 i x hi hst)) y hy
  walk_at "rd"
  have neN : ∀ (H2 : Hp) (p2 : Addr) (R : Bool → Hp → Prop), Same H1 H2 → H2 p2 = some (.lst []) → R (!ps.isEmpty) H2 → rNeD (V.ref pl) (V.ref p2) H2 fun x H' => ∃ k, x = V.bl k ∧ R k H' := fun H2 p2 R s2 h2 hR => by
   refine ⟨.list (ps.map pcD), .list [], .lst (s2 _ _ hpl) (hP.mono s2.toT).isT.is, .lst h2 .nil, (hqn (hsg (fun x hx => (hok x hx).1) hnm hns)).shaped (by decide), by decide +kernel, _, rfl, ?_⟩
   rw [eqW, List.isEmpty_map]
   exact hR
  refine ⟨fun σ H2 => Same H H2 ∧ ∃ (ps : List Pc) (xs : List V), σ = [some (.int c), some (.ref pn), some (.ref pc), some (.ref pl)] ∧ PcT H2 ps xs ∧ H2 pl = some (.lst xs) ∧ ps.length = cs.length ∧ PatOk ps ∧ (∀ (i : Nat) (x : Pc), ps[i]? = some x → x.isStep = false → ns[i]? = some x.name), ⟨by decide, ?_⟩, ?_⟩
  ·have stay : ∀ H2, Same H1 H2 → Same H H2 ∧ ∃ (ps' : List Pc) (xs : List V), [some (V.int c), some (V.ref pn), some (V.ref pc), some (V.ref pl)] = [some (V.int c), some (.ref pn), some (.ref pc), some (.ref pl)] ∧ PcT H2 ps' xs ∧ H2 pl = some (.lst xs) ∧ ps'.length = cs.length ∧ PatOk ps' ∧ (∀ (i : Nat) (x : Pc), ps'[i]? = some x → x.isStep = false → ns[i]? = some x.name) := fun H2 s2 =>
    ⟨s1.trans s2, ps, xs, rfl, hP.mono s2.toT, s2 _ _ hpl, hl, ⟨fun x hx => (hok x hx).1, fun i x hi hr => by rw [(hok x (List.mem_of_getElem? hi)).2] at hr; cases hr⟩, hnm⟩
   refine ite2 (fun _ => ⟨by decide, fun p2 H2 n2 s2 hp2 => neN H2 p2 _ s2 hp2 ?_⟩) (fun _ => stay H1 (Same.refl _))
   refine ite2 (fun he => ?_) (fun _ => stay H2 s2)
   have hne : ps ≠ [] := fun z => by rw [z] at he; cases he
   have hpos : 0 < ps.length := List.length_pos_iff.mpr hne
   have hnl : ps.length - 1 < ns.length := by lia
   refine ⟨xs, .inl (.of (s2 _ _ hpl)), ns.map tV, tV ns[ps.length - 1], .inl (.of (s2 _ _ (s1 _ _ hpn))), ?_, by decide, fun p3 H3 n3 s3 hp3 => ?_⟩
   ·rw [hxl, show ((ps.length : Int) - 1) = ((ps.length - 1 : Nat) : Int) by lia]
    exact aqn (by rw [List.getElem?_map, List.getElem?_eq_getElem hnl]; rfl)
   have hpl3 := (s2.trans s3) _ _ hpl
   have h3l : p3 ≠ pl := fun z => by rw [z, hpl3] at hp3; cases hp3
   refine ⟨xs, xs.length - 1, hpl3, ?_, ?_⟩
   ·have hx0 : 0 < xs.length := by lia
    unfold ixN
    rw [if_neg (by lia)]
    rw [if_pos (by lia)]
    congr 1
    lia
   refine ⟨?_, ps.take (ps.length - 1) ++ [.rest ns[ps.length - 1]], _, rfl, ?_, aqk, ?_, ⟨fun x hx => ?_, fun i x hi hr => ?_⟩, fun i x hi hst => ?_⟩
   ·exact fun b o e => by rw [aqj (aqh e nl)]; exact (s1.trans (s2.trans s3)) _ _ e
   ·have ex : xs.set (xs.length - 1) (.ref p3) = xs.take (ps.length - 1) ++ [.ref p3] := by
     rw [List.set_eq_take_append_cons_drop, if_pos (by lia), hxl, List.drop_eq_nil_of_le (by lia)]
    rw [ex]
    have t3 : SameT H1 (upd H3 pl (.lst (xs.take (ps.length - 1) ++ [.ref p3]))) := fun b ys e => by
     rw [aqj (fun z => by rw [z, hpl] at e; cases e)]
     exact (s2.trans s3) _ _ e
    exact PcT.append (.cons (by rw [aqj h3l]; exact hp3) .nil) ((hP.mono t3).take _)
   ·rw [List.length_append, List.length_take, List.length_singleton]; lia
   ·rcases List.mem_append.mp hx with z | z
    ·exact (hok x (List.mem_of_mem_take z)).1
    ·rw [List.mem_singleton.mp z]; trivial
   ·rw [List.length_append, List.length_take, List.length_singleton]
    by_cases hi2 : i < ps.length - 1
    ·rw [List.getElem?_append_left (by rw [List.length_take]; lia)] at hi
     have := (hok x (List.mem_of_mem_take (List.mem_of_getElem? hi))).2
     rw [this] at hr; cases hr
    ·have := (List.getElem?_eq_some_iff.mp hi).1
     rw [List.length_append, List.length_take, List.length_singleton] at this
     lia
   ·by_cases hi2 : i < ps.length - 1
    ·rw [List.getElem?_append_left (by rw [List.length_take]; lia), List.getElem?_take, if_pos hi2] at hi
     exact hnm i x hi hst
    ·have h9 := (List.getElem?_eq_some_iff.mp hi).1
     rw [List.length_append, List.length_take, List.length_singleton] at h9
     have hi3 : i = ps.length - 1 := by lia
     rw [List.getElem?_append_right (by rw [List.length_take]; lia), List.length_take, show i - min (ps.length - 1) ps.length = 0 by lia] at hi
     cases hi
     rw [hi3, List.getElem?_eq_getElem hnl]
     rfl
  clear hP hpl hok hnm hxl hl neN
  rintro σ H2 ⟨s2, ps, xs, rfl, hP, hpl, hl, hok, hnm⟩
  walk_at "rd"
  refine ⟨xs, .inl (.of hpl), fun l H3 s3 hl3 => ⟨by decide, fun p4 H4 n4 s4 hp4 => ?_⟩⟩
  have s24 := s3.trans s4
  refine ⟨.list (ps.map pcD), .list [], .lst (s24 _ _ hpl) (hP.mono s24.toT).isT.is, .lst hp4 .nil, (hqn (hsg hok.1 hnm hns)).shaped (by decide), by decide +kernel, _, rfl, ?_⟩
  rw [eqW, List.isEmpty_map]
  refine ite2 (fun he => ⟨by decide, fun p5 H5 n5 s5 hp5 => ?_⟩) (fun he => ⟨⟨by decide, by decide⟩, by decide, by decide, fun p5 H5 n5 s5 hp5 => ?_⟩)
  ·exact k ps true p5 l xs H5 hok hl hnm (fun _ => rfl) ((s2.trans s24).trans s5) ((s4.trans s5) _ _ hl3) (hP.mono (s24.trans s5).toT) hp5
  ·exact k ps _ p5 l xs H5 hok hl hnm (fun z => absurd (by rw [z]; rfl) he) ((s2.trans s24).trans s5) ((s4.trans s5) _ _ hl3) (hP.mono (s24.trans s5).toT) hp5
theorem gqv (g : G K mg) : FnOk P w K mg base CX0 5 g.bqY g.bqw ["_law_pattern_here", "_law_cells"] (gqu K) := by
 refine g.cqN.ok aqX (fun vs H Q E h => ?_) (fun cdv A outer s H vs Q E hr h => ?_)
 ·obtain ⟨cs, e, p, pc, is, rfl, _⟩ := h; rfl
 ·obtain ⟨cs, e, p, pc, is, rfl, hpt, hok, hcl, hpc, hi0, hi1, k⟩ := h
  refine ⟨_, (aqe (aqs (i := 2) aqX.nd rfl (Or.inl rfl) (aqu aqb))
   (aqe (eqt PassesOwn.never rfl (nqe (K := K) rfl rfl g.gqh (aqa (aql (fqj g) (hr.mono (by decide)) rfl g.eqa g.cqP.kp g.dq8 .nil pass0 (aqa (pv 0) aqb)) aqb)) (iq5 (n := 2) (K := K) rfl rfl (cqm (bqb (i := 3) aqX.nd rfl (Or.inl rfl)) (cqm (bqb (i := 4) aqX.nd rfl (Or.inl rfl)) hq4)))
   (aqe (aqs (i := 5) aqX.nd rfl (Or.inl rfl) (aqf aqA (aqz (aqg (K := K) rfl) (pv 1) (aqf aqC (pv 3) (aqt (aqH (K := K) rfl) rfl g.dqX PySem.boot_len (aqa (pv 1) aqb))) (fun _ _ => rfl)) (aqf (aqm (K := K)) (aqf aqA (pv 3) (aqt (aqH (K := K) rfl) rfl g.dqX PySem.boot_len (aqa (pv 1) aqb))) aqc)))
   (aqd (hqL (kq1 (K := K) rfl PySem.F.plainAttrs_list PySem.F.slot_list_append PySem.F.type_list_append eqH (pv 2) (aqa (aqL (aqa (aql (bq3 g) (hr.mono (by decide)) rfl g.bqt g.aq0.kp g.bqs .nil pass0 (aqa (pv 4) aqb)) (aqa (aql (hq3 g) (hr.mono (by decide)) rfl g.fqx g.dqF.kp g.fqy .nil pass0 (aqa (pv 4) (aqa (pv 5) aqb))) aqb))) aqb))))))
   (aqd (aqr (pv 2))))), ?_⟩
  walk_at "rd"
  have hpcl : (is.map V.int).length = is.length := List.length_map ..
  refine ⟨by decide, fun l H1 n1 s1 hl => ⟨cs, e, p, rfl, hpt.mono s1.toT, by lia, fun lg xs H2 n2 s2 hlg hx => ?_⟩⟩
  obtain ⟨gs, hgs⟩ : ∃ gs, gs = cs.filter fun c => !c.isStep := ⟨_, rfl⟩
  rw [← hgs] at hx
  have hxl := hx.length
  have hgl : gs.length ≤ 12 := by have := List.length_filter_le (fun c : Pc => !c.isStep) cs; rw [← hgs] at this; lia
  have hgo : ∀ c ∈ gs, PcOk c ∧ c.isStep = false := fun c hc => by
   rw [hgs] at hc
   obtain ⟨h1, h2⟩ := List.mem_filter.mp hc
   exact ⟨hok c h1, by simpa using h2⟩
  refine ⟨lg, xs, rfl, .of hlg, ?_⟩
  have hgl2 : lg ≠ l := fun z => by rw [z, hl] at n2; cases n2
  refine kqE (xs := xs) (fun i σ H' => H' lg = some (.lst xs) ∧ PcT H' gs xs ∧ ∃ (bs : List (List Nat × Vl)) (ys : List V) (v3 v4 v5 : Option V), σ = [some (.ref p), some (.ref pc), some (.ref l), v3, v4, v5] ∧ GvA (gs.take i) bs ∧ FrB H H' ys ∧ Same H H' ∧ H' l = some (.lst ys) ∧ BndV H' l bs ys ∧ bs.length = i ∧ ∀ b ∈ bs, SmV b.2) ⟨hlg, hx, [], [], none, none, none, rfl, .nil, (show FrB H H2 [] from fun v hv => by cases hv), s1.trans s2, s2 _ _ hl, .nil, rfl, (fun b hb => by cases hb)⟩ (fun i σ H' _ h => .of h.1) ?_ ?_
  rotate_left
  ·rintro σ H3 ⟨hlg3, hx3, bs, ys, v3, v4, v5, rfl, hG, hF, s3, hl3, hB, hbl, hsm⟩
   walk_at "rd"
   rw [hxl, List.take_length, hgs] at hG
   exact k bs l ys H3 hG.whole hsm n1 hF s3 hl3 hB
  rintro i v σ H3 T hv ⟨hlg3, hx3, bs, ys, v3, v4, v5, rfl, hG, hF, s3, hl3, hB, hbl, hsm⟩ hT
  obtain ⟨c, b, hc, rfl, hb⟩ := hx3.get hv
  have hi : i < gs.length := (List.getElem?_eq_some_iff.mp hc).1
  obtain ⟨co, cst⟩ := hgo c (List.mem_of_getElem? hc)
  have sT : Same H3 (upd H3 T (.tup [.int (i : Int), .ref b])) := bqd hT
  walk_at "rd"
  refine ⟨T, _, rfl, .of aqk, rfl, _, _, rfl, _, _, rfl, rfl, ?_⟩
  generalize upd H3 T (.tup [.int (i : Int), .ref b]) = H4 at sT
  have u4 := s3.trans sT
  have hpc4 := u4.seq hpc
  walk_at "rd"
  obtain ⟨j, hj, ej⟩ : ∃ j : Nat, j < is.length ∧ (i : Int) % (is.length : Int) = (j : Int) := by
   have h1 := Int.emod_nonneg (i : Int) (show (is.length : Int) ≠ 0 by lia)
   have h2 := Int.emod_lt_of_pos (i : Int) (show 0 < (is.length : Int) by lia)
   exact ⟨((i : Int) % (is.length : Int)).toNat, by lia, by lia⟩
  have hd0 : 0 ≤ (i : Int) / (is.length : Int) := Int.ediv_nonneg (by lia) (by lia)
  have hd1 : (i : Int) / (is.length : Int) ≤ (i : Int) := Int.ediv_le_self _ (by lia)
  refine ⟨_, .inl hpc4, ?_⟩
  rw [hpcl]
  refine ⟨by lia, _, .int is[j], .inl hpc4, by rw [ej]; exact aqn (by rw [List.getElem?_map, List.getElem?_eq_getElem hj]; rfl), _, .inl hpc4, ?_⟩
  rw [hpcl]
  refine ⟨⟨by lia, by lia⟩, rd_I.mpr ⟨⟨by lia, by lia⟩, ?_⟩⟩
  generalize is[j] / ((i : Int) / (is.length : Int) + 1) = cc
  have hl4 := sT _ _ hl3
  have hb4 := sT _ _ hb
  have hyl := hB.length
  refine ⟨⟨_, .of hl4⟩, c, b, rfl, .of hb4, cst, c, b, cc, rfl, hb4, co, cst, fun x v H5 hg hsx s5 hv5 hn5 => ⟨by decide, fun p6 H6 n6 s6 e6 => ?_⟩⟩
  have s36 := (sT.trans s5).trans s6
  have hl6 := s36 _ _ hl3
  have hvl : ∀ q, v = .ref q → q ≠ l := fun q z w => by
   have := hn5 q z
   rw [w, hl4] at this
   cases this
  have sL := lqr (ys := ys ++ [.ref p6]) hl6
  refine ⟨ys, hl6, Nat.lt_of_le_of_lt (show ys.length ≤ 12 by lia) (by decide), by rw [aqj hgl2]; exact s36 _ _ hlg3, (hx3.mono s36.toT).mono sL, bs ++ [(c.name, x)], ys ++ [.ref p6], _, _, _, ⟨rfl, rfl, rfl⟩, ?_, ((hF.mono s36.toT).snoc e6 fun q z => lqV u4 (hn5 q z)).mono sL, eqd n1 (s3.trans s36), aqk, ((hB.mono s36).snoc e6 (hv5.mono s6) hvl).upd hl6, by rw [List.length_append, List.length_singleton, hbl], fun z hz => ?_⟩
  ·rw [List.take_add_one, hc]
   exact hG.snoc cst hg
  ·rcases List.mem_append.mp hz with y | y
   ·exact hsm z y
   ·rw [List.mem_singleton.mp y]; exact hsx
theorem fqB (g : G K mg) : FnOk P w K mg base (CXN P w base) 6 g.bqy g.bqg ["piece", "values"] (fqz K g.aqo) := by
 refine g.cqD.okn dqo (fun vs H Q E h => ?_) (fun cdv A outer s H vs Q E hr h => ?_)
 ·obtain ⟨c, p, pz, ws, ys, rfl, _⟩ := h; rfl
 ·obtain ⟨c, p, pz, ws, ys, rfl, hp, hh, ht, hpv, hw, hwl, hws, kQ, kE⟩ := h
  refine ⟨_, (aqe (aqW (gqP (dq1 (aql (iqS g) (hr.mono (by decide)) rfl g.hqI g.fqS.kp g.hqx .nil pass0 (aqa (pv 0) aqb))))
    (aqd (aqr (aqu (aqa (aqz (aqg (K := K) rfl) (pv 0) aqc (fun _ _ => rfl)) aqb)))) aqB)
   (aqe (jqT (i := 2) (K := K) (fx := ["piece"]) (fr := [0]) dqo.nd rfl rfl rfl rfl rfl (by decide +kernel) rfl (by decide +kernel) rfl rfl (by decide +kernel) rfl (.cons rfl rfl rfl rfl .nil) rfl (hqX (K := K) rfl (pv 1)) (fun _ _ _ => (iqU (aqp aq9 (pv 0) (aql (eq9 g) (hr.mono (by decide)) rfl g.eqC g.dqu.kp g.eqK .nil pass0 (aqa (pv 2) aqb)) (nomark _)))) (fun _ _ _ => (pv 1)))
   (aqe (aqW (PW.pt (iqV (aqp nqd (aqt (aqH (K := K) rfl) rfl g.dqX PySem.boot_len (aqa (pv 2) aqb)) aqc (nomark _)) (gq6 (gqP (dq1 (aql (iq9 g) (hr.mono (by decide)) rfl g.gqY g.eq7.kp g.hqe .nil pass0 (aqa (pv 0) (aqa (aqz (aqg (K := K) rfl) (pv 2) aqc (fun _ _ => rfl)) aqb))))))))
    (aqd (iqo gqL rfl g.eqO g.gqi (bq9 g) (hr.mono (by decide)) g.bqm rfl pass0 rfl (aqa (aql (eq9 g) (hr.mono (by decide)) rfl g.eqC g.dqu.kp g.eqK .nil pass0 (aqa (pv 0) aqb)) aqb))) aqB)
   (aqd (aqr (aql (eq6 g) (hr.mono (by decide)) rfl g.dqe g.bqL.kp g.dqc .nil pass0 (aqa (pv 0) (aqa (aqz (aqg (K := K) rfl) (pv 2) aqc (fun _ _ => rfl)) aqb)))))))), ?_⟩
  walk_at "rd"
  refine ⟨c, p, rfl, hp, _, rfl, ?_⟩
  cases hst : c.isStep with
  | true =>
   refine ite2 (fun _ => ?_) (fun z => absurd rfl z)
   cases c with
   | step s => exact ⟨_, _, .inr hp, aqn (j := 1) rfl, by decide, fun p1 H1 n1 s1 hp1 => kQ [s] rfl p1 H1 s1 hp1⟩
   | _ => cases hst
  | false =>
   refine ite2 (fun z => absurd z (by decide)) (fun _ => ?_)
   have hyl := hw.length
   rw [eqS hst] at kQ kE
   refine ⟨⟨_, .of hpv⟩, fun p0 n0 => ?_⟩
   refine jql (fun i => prAt H ys i) (fun i => decide ((ws[i]?.map (·.1)) = some c.name)) (fun i => (prAt H ys i).2) (.of hpv) (aqv (by lia)) n0 (fun i x H1 hx s1 => ?_) (fun i hi H1 R s1 hR => ?_) (fun i hi ht H1 T s1 hT => ?_) (fun H1 s1 hp1 => ?_)
   ·obtain ⟨n, d, b, v, h1, rfl, h3, h4⟩ := hw.get hx
    rw [iq1 hx h3]
    exact ⟨b, rfl, .of (s1 _ _ h3)⟩
   ·have hx : ys[i]? = some ys[i] := List.getElem?_eq_getElem hi
    obtain ⟨n, d, b, v, h1, h2, h3, h4⟩ := hw.get hx
    rw [h2] at hx
    rw [iq1 hx h3]
    have := hR H1 (Same.refl _)
    rw [h1] at this
    walk_at "rd"
    refine ⟨c, p, rfl, s1.tup hp, hst, aqI.mpr ⟨_, rfl, ?_⟩⟩
    have e : decide ((⟨n.toArray⟩ : Str) = ⟨c.name.toArray⟩) = decide ((some (n, d)).map (·.1) = some c.name) := by
     rw [decide_eq_decide, fqU]
     exact ⟨fun z => by rw [z]; rfl, fun z => Option.some.inj z⟩
    rw [e]
    exact this
   ·walk_at "rd"
    exact hT H1 (Same.refl _)
   have hall := jqq hw c.name (fun i => (prAt H ys i).2) (fun i m d q v h1 h2 h3 => by rw [iq1 h2 h3])
   have hex : H1 p0 = some (.lst (((List.range ys.length).filter fun i => decide ((ws[i]?.map (·.1)) = some c.name)).map fun i => (prAt H ys i).2)) := hp1
   generalize (((List.range ys.length).filter fun i => decide ((ws[i]?.map (·.1)) = some c.name)).map fun i => (prAt H ys i).2) = ls at hall hex
   clear hp1
   have hsn : ∀ d ∈ named ws c.name, smallD d = true := fun d hd => by
    obtain ⟨q, hq, rfl⟩ := List.mem_map.mp hd
    exact hws q (List.mem_filter.mp hq).1
   have hll := hall.length
   have raise : (match named ws c.name with | [d] => if isValD c d = true then (.ok (stpsD c d) : Except (List Nat) (List (List Nat))) else .error c.name | _ => .error c.name) = .error c.name → ∀ H2, Same H H2 → gqH K [V.ref p] H2 (fun x H1 => ∀ (a : Addr), H1 a = none → bqa K g.aqo [V.ref a, x] (upd H1 a (exNew a g.aqo)) (fun v H2 => v = V.non ∧ ∃ d, H2 a = some (exSet a g.aqo d) ∧ E (Value.ref g.aqo) (some d) (forget H2 a)) E0) E0 := fun he H2 s2 =>
    ⟨c, p, rfl, s2.tup hp, hst, gqR fun d H3 s3 hd => kE c.name he d H3 (s2.trans s3) hd⟩
   refine jqN.mpr ⟨ls, .inl (.of hex), lqn.mpr ⟨_, rfl, ?_⟩⟩
   cases hn : named ws c.name with
   | nil =>
    rw [hn] at raise hll
    refine ite2 (fun _ => raise rfl H1 s1) (fun z => ?_)
    exact absurd (by rw [← hll]; decide) z
   | cons d r =>
    cases r with
    | cons d2 r2 =>
     rw [hn] at raise hll
     refine ite2 (fun _ => raise rfl H1 s1) (fun z => ?_)
     refine absurd ?_ z
     rw [← hll]
     simp only [List.length_cons]
     simp
     lia
    | nil =>
     rw [hn] at raise hll kQ kE hall hsn
     refine ite2 (fun z => ?_) (fun _ => ?_)
     ·exact absurd z (by rw [← hll]; simp)
     have hd : smallD d = true := hsn d (List.mem_singleton.mpr rfl)
     obtain ⟨u, rfl, hu⟩ : ∃ u, ls = [u] ∧ Is H d u := by
      cases hall with
      | cons h r => cases r; exact ⟨_, rfl, h⟩
     refine gq9.mpr ⟨_, u, .inl (.of hex), rfl, c, p, d, u, rfl, s1.tup hp, hst, hh, ht, hu.mono s1, hd, fun H2 s2 => ⟨_, rfl, ?_⟩⟩
     have s12 := s1.trans s2
     refine ite2 (fun hv => raise ?_ H2 s12) (fun hv => ?_)
     ·exact if_neg (by rw [hv]; decide)
     ·have hv : isValD c d = true := by simpa using hv
      refine gq9.mpr ⟨_, u, .inl (.of (s2 _ _ hex)), rfl, c, p, d, u, rfl, s12.tup hp, hst, hh, ht, hu.mono s12, hd, hv, fun q H3 s3 hq => kQ (stpsD c d) (if_pos hv) q H3 (s12.trans s3) hq⟩
theorem kqr (g : G K mg) : FnOk P w K mg base (CXN P w base) 7 g.fqN g.eqR ["pattern", "values"] (kqc K g.aqo) := by
 refine g.hqj.okn fqV (fun vs H Q E h => ?_) (fun cdv A outer s H vs Q E hr h => ?_)
 ·obtain ⟨cs, xs, p, q, pz, cl, ws, ys, rfl, _⟩ := h; rfl
 ·obtain ⟨cs, xs, p, q, pz, cl, ws, ys, rfl, hp, hq, hx, hn, hsz, hpv, hw, hwl, hws, kQ, kE⟩ := h
  refine ⟨_, (aqe (aqs (i := 2) fqV.nd rfl (Or.inl rfl) (aqu aqb))
   (aqe (eqt PassesOwn.leaving rfl (hqu (K := K) rfl (aqz (aqg (K := K) rfl) (pv 0) (bqh (v := jqI) rfl g.hqi ⟨_, rfl⟩) (fun _ _ => rfl))) (bqb (i := 3) fqV.nd rfl (Or.inl rfl))
   (aqd (hqL (kq1 (K := K) rfl PySem.F.plainAttrs_list PySem.F.slot_list_extend PySem.F.type_list_extend lqh (pv 2) (aqa (aql (fqB g) (hr.mono (by decide)) rfl g.dq2 g.cqD.kp g.dq0 .nil gqF (aqa (pv 3) (aqa (pv 1) aqb))) aqb)))))
   (aqe (hqL (aql (eq4 g) (hr.mono (by decide)) rfl g.dqk g.cqf.kp g.dqC .nil gqF (aqa (pv 0) (aqa (pv 1) aqb))))
   (aqd (aqr (aqL (aqa jqi (aqa (dqE (fq6 (K := K) rfl) rfl g.iq3 jqY (aqa (pv 2) aqb)) (aqa (aqz (aqg (K := K) rfl) (pv 0) (bqh (v := mqh) rfl g.jqK ⟨_, rfl⟩) (fun _ _ => rfl)) aqb))))))))), ?_⟩
  walk_at "rd"
  have hxl := hx.length
  refine ⟨by decide, fun p1 H1 n1 s1 hp1 => ⟨_, _, .inr (s1.tup hp), rfl, q, rfl, ⟨_, s1.tup hq⟩, ?_⟩⟩
  refine lq9 (xs := xs) (fun i σ H' => SameBut p1 H H' ∧ ∃ (v3 : Option V) (ss : List (List Nat)), σ = [some (.ref p), some (.ref pz), some (.ref p1), v3] ∧ fillF (cs.take i) ws = .ok ss ∧ H' p1 = some (.lst (ss.map tV)) ∧ ss.length ≤ i * 100000) ⟨Same.but s1, none, [], rfl, by rw [List.take_zero]; rfl, hp1, Nat.zero_le _⟩ (fun i σ H' _ h => (h.1.same n1).tup hq) ?_ ?_
  ·rintro i x σ H2 hxi ⟨sb, v3, ss, rfl, hf, hl2, hsl⟩
   obtain ⟨c, pc, hc, rfl, hv⟩ := hx.get hxi
   have s2 := sb.same n1
   have hi : i < cs.length := (List.getElem?_eq_some_iff.mp hc).1
   obtain ⟨hz1, hz2⟩ := hsz c (List.mem_of_getElem? hc)
   walk_at "rd"
   refine ⟨⟨_, .of hl2⟩, c, pc, pz, ws, ys, rfl, s2.tup hv, hz1, hz2, s2 _ _ hpv, hw.mono s2, hwl, hws, fun s' hs' q2 H3 s3 hq2 => ?_, fun n hn' d H3 s3 hd => ?_⟩
   ·have hb := lqU hs' hws
    have hmul : i * 100000 ≤ 99 * 100000 := Nat.mul_le_mul_right _ (by lia)
    refine nqo.mpr ⟨_, _, s3 _ _ hl2, hq2, ?_, ?_⟩
    ·rw [List.length_map, List.length_map]
     exact Nat.le_trans (show ss.length + s'.length ≤ 10000000 by lia) (by decide)
    ·refine ⟨(sb.trans s3.but).trans dq5, _, ss ++ s', rfl, gqU hc hf hs', by rw [aqk, List.map_append], ?_⟩
     rw [List.length_append, Nat.add_mul]
     lia
   ·refine kE n ?_ d H3 (s2.trans s3) hd
    unfold fillM
    rw [iqm hc hf hn']
  ·rintro σ H2 ⟨sb, v3, ss, rfl, hf, hl2, hsl⟩
   have s2 := sb.same n1
   rw [hxl, List.take_length] at hf
   walk_at "rd"
   refine ⟨cs, xs, p, q, pz, cl, ws, ys, rfl, s2.tup hp, s2.tup hq, hx.mono s2, hn, s2 _ _ hpv, hw.mono s2, hwl, fun ho H3 s3 => ?_, fun n ho d H3 s3 hd => ?_⟩
   ·refine ⟨_, .inl (.of (s3 _ _ hl2)), fun qw H4 s4 hqw => ⟨_, _, .inr (((s2.trans s3).trans s4).tup hp), rfl, by decide, fun pw H5 n5 s5 hpw => ?_⟩⟩
    refine kQ ss ?_ pw qw H5 (((s2.trans s3).trans s4).trans s5) (s5 _ _ hqw) hpw
    unfold fillM
    rw [hf, ho]
   ·refine kE n ?_ d H3 (s2.trans s3) hd
    unfold fillM
    rw [hf, ho]
theorem dqx (g : G K mg) : FnOk P w K mg base CX0 8 g.cqZ g.cqr ["_law_pattern_here", "_law_values_here"] (dqs K g.aqo) := by
 refine g.cqa.ok cqB (fun vs H Q E h => ?_) (fun cdv A outer s H vs Q E hr h => ?_)
 ·obtain ⟨cs, xs, p, q, pz, cl, ws, ys, rfl, _⟩ := h; rfl
 ·obtain ⟨cs, xs, p, q, pz, cl, ws, ys, rfl, hp, hq, hx, hn, hsz, hpv, hw, hwl, hws, kQ, kE⟩ := h
  refine ⟨_, (aqe (aqs (i := 2) cqB.nd rfl (Or.inl rfl) gqJ)
   (aqe (oqH (i := 3) (mqk (kqr g) (hr.mono (by decide)) rfl g.jqE g.hqj.kp g.jqS (aqa (pv 0) (aqa (pv 1) aqb)) (fun _ _ h => h)) rfl rfl rfl g.gqS g.gq4 cqB.nd rfl rfl (fun _ => (aqd (aqs (i := 2) cqB.nd rfl (Or.inl rfl) (pv 3)))))
   (aqd (aqr (pv 2))))), ?_⟩
  walk_at "rd"
  refine ⟨cs, xs, p, q, pz, cl, ws, ys, rfl, hp, hq, hx, hn, hsz, hpv, hw, hwl, hws, fun ss h pw qw H1 s1 _ _ => kQ ss h H1 s1, fun n h d H1 s1 hd => ⟨_, rfl, g.cqk, fun a ha => ?_⟩⟩
  exact kE n h a d _ (s1.trans (bqd ha)) aqk (by rw [aqj (aqh hd ha)]; exact hd)
theorem qqn (g : G K mg) : FnOk P w K mg base CX0 9 g.lq8 g.iqM ["_law_script"] (jqU K) := by
 refine g.qqz.ok bqn (fun vs H Q E h => ?_) (fun cdv A outer s H vs Q E hr h => ?_)
 ·obtain ⟨a, ns, rfl, _⟩ := h; rfl
 ·obtain ⟨a, ns, rfl, hS, hn, k⟩ := h
  refine ⟨_, (aqN (aqs (i := 1) bqn.nd rfl (Or.inl rfl) (aql (hqg g) (hr.mono (by decide)) rfl g.fqo g.dqm.kp g.fqs .nil pass0 (aqa (aql (bqj g) (hr.mono (by decide)) rfl g.aq1 g.aqM.kp g.aqZ .nil pass0 (aqa (pv 0) (aqa aqc aqb))) (aqa aqc aqb))))
   (aqN (aqs (i := 2) bqn.nd rfl (Or.inl rfl) (aql (fq8 g) (hr.mono (by decide)) rfl g.dq4 g.cqC.kp g.dqY .nil pass0 (aqa (aql (bqj g) (hr.mono (by decide)) rfl g.aq1 g.aqM.kp g.aqZ .nil pass0 (aqa (pv 0) (aqa aqc aqb))) (aqa (pv 1) (aqa (bqq (bqz (K := K) rfl) (pv 0) (bq4 aqc) (bq4 aqc)) aqb)))))
   (aqe (aqs (i := 3) bqn.nd rfl (Or.inr rfl) (aql (bqj g) (hr.mono (by decide)) rfl g.aq1 g.aqM.kp g.aqZ .nil pass0 (aqa (pv 0) (aqa aqc aqb))))
   (aqN (aqs (i := 4) bqn.nd rfl (Or.inl rfl) (aql (gqr g) (hr.mono (by decide)) rfl g.eqn g.cqQ.kp g.eqe .nil pass0 (aqa (aql (gqv g) (hr.mono (by decide)) rfl g.eqk g.cqN.kp g.eqY .nil pass0 (aqa (pv 2) (aqa (aqf (aqm (K := K)) (bqq (bqz (K := K) rfl) (pv 0) (bq4 aqc) cqV) (aqu (aqa (aqf aqA (pv 3) aqc) aqb))) aqb))) (aqa (pv 3) aqb))))
   (aqN (aqs (i := 5) bqn.nd rfl (Or.inr rfl) (aql (fqj g) (hr.mono (by decide)) rfl g.eqa g.cqP.kp g.dq8 .nil pass0 (aqa (pv 2) aqb)))
   (aqN (aqs (i := 6) bqn.nd rfl (Or.inl rfl) (dqE (gqN (K := K) rfl) rfl g.jqO jqf (aqa (pv 4) aqb)))
   (aqe (aqs (i := 7) bqn.nd rfl (Or.inl rfl) (aqu aqb))
   (aqN (aqW (PW.pt (lqK (aqp (lqc hr.units) (pv 5) (aqu aqb) (nomark _)) (jqo (aqp nq6 (aqf aqC (pv 3) aqc) aqc (nomark _)))))
    (aqd (aqs (i := 7) bqn.nd rfl (Or.inl rfl) (kqf rfl rfl g.qqv rfl g.jqD (aqa (dq7 (fx := ["_law_cell", "_law_gaps_here"]) (fr := [3, 5]) rfl rfl (by decide +kernel) rfl (by decide +kernel) rfl (by decide +kernel) rfl (.cons rfl rfl rfl rfl (.cons rfl rfl rfl rfl .nil)) rfl (bqJ rfl g.cq9 (aqa (aqf aqC (pv 3) aqc) aqb)) (fun _ _ _ => iqI) (fun _ _ _ => (aqf aqC (aqf aqA (pv 1) (aqf (aqm (K := K)) aqc (aqf cq7 aqc (pv 0)))) (aqt (aqH (K := K) rfl) rfl g.dqX PySem.boot_len (aqa (pv 2) aqb))))) aqb)))) aqB)
   (aqN (eqt PassesOwn.never rfl (nqJ (K := K) rfl rfl g.gqT (aqa (pv 7) aqb)) (bqb (i := 8) bqn.nd rfl (Or.inl rfl))
   (aqd (aqs (i := 6) bqn.nd rfl (Or.inl rfl) (aql (hql g) (hr.mono (by decide)) rfl g.fqq g.dqy.kp g.fqi .nil pass0 (aqa (pv 6) (aqa (pv 5) (aqa (pv 8) (aqa (aqf aqA (aql (bqj g) (hr.mono (by decide)) rfl g.aq1 g.aqM.kp g.aqZ .nil pass0 (aqa (pv 0) (aqa (aqf (aqm (K := K)) aqc (pv 8)) aqb))) aqc) aqb))))))))
   (aqe (aqs (i := 9) bqn.nd rfl (Or.inl rfl) (aqz (aqg (K := K) rfl) (aqu (aqa aqi (aqa (aqz (aqg (K := K) rfl) (pv 1) aqc (fun _ _ => rfl)) (aqa aqi aqb)))) (aqf aqC (aqf aqA (pv 3) aqc) aqc) (fun _ _ => rfl)))
   (aqN (aqW (PW.pt (iqV (aqp (nql hr.units) (pv 7) (aqu aqb) (nomark _)) (gq6 (aqp aq9 (aqf aqC (aqf aqA (pv 3) aqc) aqc) aqc (nomark _)))))
    (aqe (aqs (i := 10) bqn.nd rfl (Or.inl rfl) (aqf aqC (aqf aqA (pv 3) aqc) (aqf (aqm (K := K)) (aqt (aqH (K := K) rfl) rfl g.dqX PySem.boot_len (aqa (pv 6) aqb)) aqc)))
   (aqd (aqs (i := 6) bqn.nd rfl (Or.inl rfl) (aqf (aqm (K := K)) (aqf (aqm (K := K)) (bqq (bqz (K := K) rfl) (pv 6) cqV (bq4 (pv 10))) (aqu (aqa (aqL (aqa (pv 9) (aqa aqi aqb))) (aqa (aqL (aqa (aqf (aqm (K := K)) (aqz (aqg (K := K) rfl) (pv 1) aqc (fun _ _ => rfl)) aqi) (aqa gqJ aqb))) aqb)))) (bqq (bqz (K := K) rfl) (pv 6) (bq4 (pv 10)) cqV))))) aqB)
   (aqe (aqs (i := 11) bqn.nd rfl (Or.inl rfl) (pv 9))
   (aqN (aqW (aqp (lqc hr.units) (pv 7) (aqu aqb) (nomark _))
    (aqd (aqs (i := 11) bqn.nd rfl (Or.inl rfl) (aql (bq3 g) (hr.mono (by decide)) rfl g.bqt g.aq0.kp g.bqs .nil pass0 (aqa (aqz (aqg (K := K) rfl) (pv 5) (aqz (aqg (K := K) rfl) (pv 7) aqc (fun _ _ => rfl)) (fun _ _ => rfl)) aqb)))) aqB)
   (aqe (eqt PassesOwn.never rfl (bqJ rfl g.cq9 (aqa aqc aqb)) (bqb (i := 12) bqn.nd rfl (Or.inl rfl))
   (aqe (aqW (aqp mqg (aql (dqx g) (hr.mono (by decide)) rfl g.cqM g.cqa.kp g.cq2 .nil pass0 (aqa (pv 2) (aqa (pv 4) aqb))) gqJ (nomark _))
    (aqd (aqr jqi)) aqB)
   (aqe (aqs (i := 13) bqn.nd rfl (Or.inl rfl) (aql (dqx g) (hr.mono (by decide)) rfl g.cqM g.cqa.kp g.cq2 .nil pass0 (aqa (pv 2) (aqa (pv 6) aqb))))
   (aqd (aqW (PW.pt (iqV (gqP (dq1 (aql (hqh g) (hr.mono (by decide)) rfl g.fqg g.dqt.kp g.fqp .nil pass0 (aqa (pv 13) aqb)))) (gq6 (aqp nqd (jqX (K := K) rfl (pv 13) rfl) (pv 11) (nomark _)))))
    (aqd (aqr jqi)) aqB)))))
   (aqd (aqr (cq6 pqk (aql (dqx g) (hr.mono (by decide)) rfl g.cqM g.cqa.kp g.cq2 .nil pass0 (aqa (pv 2) (aqa (pv 4) aqb))) gqJ (nomark _)))))))))))))))))), ?_⟩
  walk_at "rd"
  refine ⟨fun σ H1 => Same H H1 ∧ ∃ (nm : List (List Nat)) (pn : Addr), σ = [some (.ref a), some (.ref pn), none, none, none, none, none, none, none, none, none, none, none, none] ∧ H1 pn = some (.lst (nm.map tV)) ∧ nm.length = 14 ∧ (∀ n ∈ nm, 0 < n.length ∧ n.length ≤ 8 ∧ n.all isSma = true) ∧ nm.Nodup, ?_, ?_⟩
  ·exact ⟨a, ns, 0, rfl, hS, _, 14, rfl, by decide, fun nm pn H1 h1 h2 h3 s1 h4 => ⟨s1, nm, pn, rfl, h4, h1, h2, h3⟩⟩
  rintro σ H1 ⟨s1, nm, pn, rfl, hpn, hnl, hnm, hnd⟩
  have hnsg : ∀ n ∈ nm, ∀ x ∈ n, isSg x = true := fun n hn' => lqY (hnm n hn').2.2
  walk_at "rd"
  refine ⟨fun σ H2 => Same H1 H2 ∧ ∃ (cs : List Pc) (e : Bool) (p q : Addr) (xs : List V), σ = [some (.ref a), some (.ref pn), some (.ref p), none, none, none, none, none, none, none, none, none, none, none] ∧ PatOk cs ∧ cs.length ≤ 12 ∧ (gapsM cs).Nodup ∧ (∀ n ∈ gapsM cs, ∃ j, j < 12 ∧ nm[j]? = some n) ∧ H2 q = some (.tup xs) ∧ PcT H2 cs xs ∧ H2 p = some (.tup [.ref q, .bl e]), ?_, ?_⟩
  ·refine ⟨a, ns, 1, rfl, s1.seq hS, _, s1.seq hS, fun p2 H2 n2 s2 e2 => ?_⟩
   rw [jqQ] at e2
   have h12 : (cutA ns (some 3) (some 15)).length ≤ 12 := pqx ns 3 15
   refine ⟨_, pn, p2, nm, _, rfl, s2 _ _ hpn, .of e2, by lia, by lia, hnsg, fun cs e p q xs H3 hok hcl hgn hce s3 hq hP hp => ?_⟩
   obtain ⟨g1, _⟩ := gq2 hnd (cs := cs) 0 (fun i c hc hs => by rw [Nat.zero_add]; exact hgn i c hc hs)
   refine ⟨s2.trans s3, cs, e, p, q, xs, rfl, hok, by lia, g1, fun n hn' => ?_, hq, hP, hp⟩
   obtain ⟨c, hc, rfl⟩ := List.mem_map.mp hn'
   obtain ⟨hc, hcs⟩ := List.mem_filter.mp hc
   obtain ⟨j, hj, ej⟩ := List.getElem_of_mem hc
   exact ⟨j, by lia, hgn j c (List.getElem?_eq_some_iff.mpr ⟨hj, ej⟩) (by simpa using hcs)⟩
  rintro σ H2 ⟨s2, cs, e, p, q, xs, rfl, hok, hcl, hgn, hgj, hq, hP, hp⟩
  have s02 := s1.trans s2
  have hlr : LastR cs := hok.2
  walk_at "rd"
  refine ⟨a, ns, 2, rfl, s02.seq hS, ?_⟩
  walk_at "rd"
  refine ⟨fun σ H3 => Same H2 H3 ∧ ∃ (lg : Addr) (wz : List (List Nat × PyData)) (zs : List V), σ = [some (.ref a), some (.ref pn), some (.ref p), some (.int (ns.getD 2 0)), some (.ref lg), none, none, none, none, none, none, none, none, none] ∧ H3 lg = some (.lst zs) ∧ VlsV H3 wz zs ∧ wz.length ≤ 12 ∧ (∀ w ∈ wz, smallD w.2 = true) ∧ (∀ w ∈ wz, w.1 ∈ gapsM cs) ∧ ∃ ss, fillM cs wz = .ok ss, ?_, ?_⟩
  ·refine ⟨_, s02.seq hS, fun p3 H3 n3 s3 e3 => ⟨⟨by decide, by decide⟩, by decide, fun p4 H4 n4 s4 e4 => ?_⟩⟩
   rw [jqQ] at e3
   have hcl3 := mqU ns (some 15) none
   refine .inl ⟨_, _, s4 _ _ e3, e4, aqv (by rw [List.length_map]; simp only [List.length_cons, List.length_nil]; lia), fun p5 H5 n5 s5 e5 => ?_⟩
   have s25 := (s3.trans s4).trans s5
   have e5' : H5 p5 = some (.lst ((cutA ns (some 15) none ++ [ns.getD 2 0 / 7]).map V.int)) := by rw [e5, List.map_append]; rfl
   refine ⟨cs, e, p, p5, _, rfl, ⟨q, xs, s25 _ _ hp, s25 _ _ hq, hP.mono s25.toT⟩, hok.1, hcl, .of e5', by rw [List.length_append]; simp, by rw [List.length_append, List.length_singleton]; lia, fun bs l ys H6 hG _ nl hF s6 hl hB => ?_⟩
   have gA := nqy hG hok.1 hlr
   have hfit := nqM hG hok.1 hlr e
   have hnam := hG.names
   have hbl : bs.length ≤ 12 := by
    have h1 := jqF cs
    rw [← hnam, List.length_map] at h1
    lia
   refine ⟨l, ys, _, rfl, hl, by rw [hB.length]; lia, fun lh zs H7 nh s7 hlh hpm => ?_⟩
   obtain ⟨bs', hp1, hB1⟩ := hB.perm hpm.symm
   refine ⟨(s25.trans s6).trans s7, lh, bs'.map (fun b => (b.1, vlD b.2)), zs, rfl, hlh, hB1.vls.mono s7, by rw [List.length_map, ← hp1.length_eq]; exact hbl, fun w hw => ?_, fun w hw => ?_, stpsM cs bs, ?_⟩
   ·obtain ⟨b, hb, rfl⟩ := List.mem_map.mp hw
    exact (hG.vl b (hp1.mem_iff.mpr hb)).small
   ·obtain ⟨b, hb, rfl⟩ := List.mem_map.mp hw
    rw [← hnam]
    exact List.mem_map_of_mem (hp1.mem_iff.mpr hb)
   ·refine kqT hfit hok.2 (fun s hs => (gA.sg s hs).1) ?_ (fun n x hx => ?_) (fun w hw => ?_)
    ·rw [List.map_map]
     have e1 : bs'.map ((fun z : List Nat × PyData => z.1) ∘ fun b : List Nat × Vl => (b.1, vlD b.2)) = bs'.map (·.1) := rfl
     rw [e1]
     exact ((hp1.map (·.1)).nodup_iff).mp (by rw [hnam]; exact hgn)
    ·rw [gA.bnd] at hx
     exact List.mem_map.mpr ⟨(n, x), hp1.mem_iff.mp hx, rfl⟩
    ·obtain ⟨b, hb, rfl⟩ := List.mem_map.mp hw
     rw [← hnam]
     exact List.mem_map_of_mem (hp1.mem_iff.mpr hb)
  rintro σ H3 ⟨s3, lg, wz, zs, rfl, hlg, hVz, hwl, hwsm, hwn, ss0, hfill⟩
  have hOk := jqg hfill
  obtain ⟨gs, hgs⟩ : ∃ gs, gs = cs.filter fun c => !c.isStep := ⟨_, rfl⟩
  have hgm : gapsM cs = gs.map Pc.name := by rw [hgs]; rfl
  have hgl : gs.length ≤ 12 := by rw [hgs]; exact Nat.le_trans (List.length_filter_le _ _) hcl
  have hgc : ∀ c ∈ gs, c ∈ cs ∧ c.isStep = false := fun c hc => by
   rw [hgs] at hc
   obtain ⟨h1, h2⟩ := List.mem_filter.mp hc
   exact ⟨h1, by simpa using h2⟩
  walk_at "rd"
  refine ⟨fun σ H4 => Same H3 H4 ∧ ∃ (lp : Addr) (gx : List V), σ = [some (.ref a), some (.ref pn), some (.ref p), some (.int (ns.getD 2 0)), some (.ref lg), some (.ref lp), none, none, none, none, none, none, none, none] ∧ H4 lp = some (.lst gx) ∧ PcT H4 gs gx, ?_, ?_⟩
  ·exact ⟨cs, e, p, rfl, ⟨q, xs, s3 _ _ hp, s3 _ _ hq, hP.mono s3.toT⟩, by lia, fun l ys H4 nl s4 hl hPg => ⟨s4, l, ys, rfl, hl, by rw [hgs]; exact hPg⟩⟩
  rintro σ H4 ⟨s4, lp, gx, rfl, hlp, hPg⟩
  walk_at "rd"
  refine ⟨fun σ H5 => Same H4 H5 ∧ ∃ (lv : Addr), σ = [some (.ref a), some (.ref pn), some (.ref p), some (.int (ns.getD 2 0)), some (.ref lg), some (.ref lp), some (.ref lv), none, none, none, none, none, none, none] ∧ H5 lv = some (.lst zs), ?_, ?_⟩
  ·exact ⟨zs, .inl (.of (s4 _ _ hlg)), fun l H5 n5 s5 e5 => ⟨s5, l, rfl, e5⟩⟩
  rintro σ H5 ⟨s5, lv, rfl, hlv⟩
  have s35 := s4.trans s5
  walk_at "rd"
  obtain ⟨C, hC⟩ : ∃ C, C = ns.getD 2 0 := ⟨_, rfl⟩
  rw [← hC]
  have hgsg : ∀ c ∈ gs, PcSg c := fun c hc => by
   obtain ⟨h1, h2⟩ := hgc c hc
   have ok := hok.1 c h1
   refine ⟨fun l e => ?_, fun a b d e => ?_, fun y hy => ?_⟩
   ·rw [e] at ok; exact ok.2.2.1
   ·rw [e] at ok; exact ⟨ok.2.2.1, ok.2.2.2.1⟩
   ·obtain ⟨j, _, hj⟩ := hgj c.name (by rw [hgm]; exact List.mem_map_of_mem hc)
    exact hnsg _ (List.mem_of_getElem? hj) y hy
  refine ⟨by decide, fun p6 H6 n6 s6 e6 => ?_⟩
  refine ⟨fun σ H7 => Same H5 H7 ∧ ∃ (lk : Addr) (ks : List Nat), σ = [some (.ref a), some (.ref pn), some (.ref p), some (.int C), some (.ref lg), some (.ref lp), some (.ref lv), some (.ref lk), none, none, none, none, none, none] ∧ H7 lk = some (.lst (ks.map fun k : Nat => V.int (k : Int))) ∧ ks.Pairwise (· < ·) ∧ (∀ m ∈ ks, m < gs.length) ∧ ks.length ≤ 3, ⟨by decide, fun p7 H7 n7 s7 e7 => ?_⟩, ?_⟩
  ·refine ⟨.list (gs.map pcD), .list [], .lst ((s5.trans (s6.trans s7)) _ _ hlp) (hPg.mono (s5.trans (s6.trans s7)).toT).isT.is, .lst e7 .nil, (hqn hgsg).shaped (by decide), by decide +kernel, _, rfl, ?_⟩
   rw [eqW, List.isEmpty_map]
   have stay : ∀ H8, Same H6 H8 → Same H5 H8 ∧ ∃ (lk : Addr) (ks : List Nat), [some (V.ref a), some (V.ref pn), some (V.ref p), some (V.int C), some (V.ref lg), some (V.ref lp), some (V.ref lv), some (V.ref p6), none, none, none, none, none, none] = [some (.ref a), some (.ref pn), some (.ref p), some (.int C), some (.ref lg), some (.ref lp), some (.ref lv), some (.ref lk), none, none, none, none, none, none] ∧ H8 lk = some (.lst (ks.map fun k : Nat => V.int (k : Int))) ∧ ks.Pairwise (· < ·) ∧ (∀ m ∈ ks, m < gs.length) ∧ ks.length ≤ 3 := fun H8 s8 =>
    ⟨s6.trans s8, p6, [], rfl, s8 _ _ e6, List.Pairwise.nil, (fun m hm => by cases hm), by decide⟩
   refine ite2 (fun hne => ⟨by decide, ite2 (fun hc0 => ?_) (fun _ => stay H7 s7)⟩) (fun _ => stay H7 s7)
   have hg0 : 0 < gs.length := by
    cases gs with
    | nil => cases hne
    | cons _ _ => exact Nat.succ_pos _
   have h3 : (C % 4).toNat ≤ 3 := by have := Int.emod_lt_of_pos C (show (0 : Int) < 4 by decide); lia
   refine ⟨by decide, by lia, by lia, fun p8 n8 => ?_⟩
   have hgxl := hPg.length
   have hlp7 := (s5.trans (s6.trans s7)) _ _ hlp
   refine fq2 (fun _ => true) (fun i => V.int (((C / (4 + 9 * (i : Int)) % (gs.length : Int)).toNat : Nat) : Int)) (aqv (by lia)) n8 (fun i hi H8 R s8 hR => ?_) (fun i hi _ H8 T s8 hT => ?_) (fun H8 s8 e8 => ?_)
   ·exact hR H8 (Same.refl _)
   ·walk_at "rd"
    have hi4 : (i : Int) < 4 := by lia
    refine ⟨?_, ?_, gx, .inl (.of (s8 _ _ hlp7)), by rw [hgxl]; lia, ?_⟩
    ·exact .inl ⟨by decide, by decide⟩
    ·exact ⟨by lia, by lia⟩
    have h1 := Int.emod_nonneg (C / (4 + 9 * (i : Int))) (show (gs.length : Int) ≠ 0 by lia)
    have := hT H8 (Same.refl _)
    rw [Int.toNat_of_nonneg h1] at this
    rw [hgxl, Int.zero_add]
    exact this
   ·have e8' : H8 p8 = some (.lst (((List.range (C % 4).toNat).map fun i : Nat => (C / (4 + 9 * (i : Int)) % (gs.length : Int)).toNat).map fun k : Nat => V.int (k : Int))) := by
     rw [e8, List.filter_eq_self.mpr (fun _ _ => rfl), List.map_map]
     rfl
    refine ⟨p8, _, rfl, e8', by rw [List.length_map, List.length_range]; lia, fun k hk => ?_, fun pk kz H9 n9 hpm hsr s9 e9 => ?_⟩
    ·obtain ⟨i, _, rfl⟩ := List.mem_map.mp hk
     have h2 := Int.emod_lt_of_pos (C / (4 + 9 * (i : Int))) (show 0 < (gs.length : Int) by lia)
     have h1 := Int.emod_nonneg (C / (4 + 9 * (i : Int))) (show (gs.length : Int) ≠ 0 by lia)
     lia
    ·obtain ⟨ms, m1, m2, m3, m4⟩ := mqS hpm hsr
     have hml : ms.length ≤ 3 := by
      have h1 := (dqS _ (((List.range (C % 4).toNat).map fun i : Nat => (C / (4 + 9 * (i : Int)) % (gs.length : Int)).toNat).map Int.ofNat) rfl).1
      rw [List.length_map, List.length_map, List.length_range] at h1
      rw [m4, hpm.length_eq]
      lia
     refine ⟨s6.trans (s7.trans (s8.trans s9)), pk, ms, rfl, by rw [e9, m1], m2, fun m hm => ?_, hml⟩
     obtain ⟨i, _, rfl⟩ := List.mem_map.mp (m3 m hm)
     have h2 := Int.emod_lt_of_pos (C / (4 + 9 * (i : Int))) (show 0 < (gs.length : Int) by lia)
     have h1 := Int.emod_nonneg (C / (4 + 9 * (i : Int))) (show (gs.length : Int) ≠ 0 by lia)
     lia
  rintro σ H7 ⟨s7, lk, ks, rfl, hlk, hkp, hkg, hkl⟩
  have s37 := s35.trans s7
  walk_at "rd"
  have hkl' : (ks.map fun k : Nat => V.int (k : Int)).length = ks.length := List.length_map _
  refine ⟨fun σ H8 => Same H7 H8 ∧ ∃ (lw : Addr) (ws : List (List Nat × PyData)) (ys : List V) (v8 : Option V), σ = [some (.ref a), some (.ref pn), some (.ref p), some (.int C), some (.ref lg), some (.ref lp), some (.ref lw), some (.ref lk), v8, none, none, none, none, none] ∧ H8 lw = some (.lst ys) ∧ VlsV H8 ws ys ∧ ws.length ≤ 15 ∧ (∀ w ∈ ws, smallD w.2 = true) ∧ (∀ w ∈ ws, w.1 ∈ gapsM cs) ∧ ∀ j c, gs[j]? = some c → (OkAt ws c ↔ j ∉ ks), ⟨lk, _, rfl, .of hlk, ?_⟩, ?_⟩
  ·refine kq6 (xs := ks.map fun k : Nat => V.int (k : Int)) (fun i σ H' => Same H7 H' ∧ ∃ (lw : Addr) (ws : List (List Nat × PyData)) (ys : List V) (v8 : Option V), σ = [some (.ref a), some (.ref pn), some (.ref p), some (.int C), some (.ref lg), some (.ref lp), some (.ref lw), some (.ref lk), v8, none, none, none, none, none] ∧ H' lw = some (.lst ys) ∧ VlsV H' ws ys ∧ ws.length ≤ 12 + i ∧ (∀ w ∈ ws, smallD w.2 = true) ∧ (∀ w ∈ ws, w.1 ∈ gapsM cs) ∧ ∀ j c, gs[j]? = some c → (OkAt ws c ↔ j ∉ ks.drop (ks.length - i))) ⟨Same.refl _, lv, wz, zs, none, rfl, s7 _ _ hlv, hVz.mono s37, by lia, hwsm, hwn, fun j c hj => ?_⟩ (fun i σ H' _ h => .of (h.1 _ _ hlk)) (fun i x σ H8 hi hx h => ?_) (fun σ H8 h => ?_)
   ·rw [Nat.sub_zero, List.drop_length]
    obtain ⟨h1, h2⟩ := hgc c (List.mem_of_getElem? hj)
    exact ⟨fun _ => List.not_mem_nil, fun _ => hOk c h1 h2⟩
   ·obtain ⟨s8, lw, ws, ys, v8, rfl, hlw, hVw, hwl2, hws2, hwn2, hks⟩ := h
    rw [hkl'] at hi
    rw [hkl', List.getElem?_map, List.getElem?_eq_getElem (by lia : ks.length - 1 - i < ks.length)] at hx
    cases hx
    obtain ⟨t, ht, et⟩ : ∃ t, t < ks.length ∧ t = ks.length - 1 - i := ⟨_, by lia, rfl⟩
    obtain ⟨m, hm⟩ : ∃ m, m = ks[ks.length - 1 - i]'(by lia) := ⟨_, rfl⟩
    rw [← hm]
    have hmk : ks[t]? = some m := by rw [et, hm]; exact List.getElem?_eq_getElem _
    have hmg : m < gs.length := hkg m (List.mem_of_getElem? hmk)
    have hgm2 : gs[m]? = some gs[m] := List.getElem?_eq_getElem hmg
    have ed : ks.drop (ks.length - (i + 1)) = m :: ks.drop (ks.length - i) := by
     rw [show ks.length - (i + 1) = t by lia, show ks.length - i = t + 1 by lia]
     have h1 := List.drop_eq_getElem_cons ht
     rw [List.getElem?_eq_getElem ht] at hmk
     rw [h1, Option.some.inj hmk]
    have hnew : m ∉ ks.drop (ks.length - i) := fun z => by
     have h1 : (m :: ks.drop (ks.length - i)).Pairwise (· < ·) := by rw [← ed]; exact hkp.sublist (List.drop_sublist _ _)
     exact Nat.lt_irrefl _ ((List.pairwise_cons.mp h1).1 m z)
    obtain ⟨g1, g2⟩ := hgc _ (List.mem_of_getElem? hgm2)
    walk_at "rd"
    refine ⟨a, ns, 16 + m, by rw [show (16 : Int) + (m : Int) = ((16 + m : Nat) : Int) by lia], (s02.trans (s3.trans (s37.trans s8))).seq hS, ?_⟩
    walk_at "rd"
    have s48 := s5.trans (s7.trans s8)
    refine ⟨⟨by decide, by decide⟩, ws, ys, gs, gx, lw, lp, m, gs[m], _, rfl, hlw, hVw, s48 _ _ hlp, hPg.mono s48.toT, hgm2, hok.1 _ g1, g2, (hks m _ hgm2).mpr hnew, by lia, hws2, fun l' ws' ys' H9 s9 hl' hV' hsp hlen hsm' => ?_⟩
    refine ⟨s8.trans s9, l', ws', ys', _, ⟨rfl, rfl⟩, hl', hV', by lia, hsm', fun w hw => ?_, fun j c hj => ?_⟩
    ·rcases hsp.2.2 w hw with z | z
     ·rw [z, hgm]
      exact List.mem_map_of_mem (List.getElem_mem hmg)
     ·exact hwn2 w z
    ·rw [ed]
     by_cases hjm : j = m
     ·rw [hjm, hgm2] at hj
      cases hj
      exact ⟨fun z => absurd z hsp.1, fun z => absurd (by rw [hjm]; exact List.mem_cons_self) z⟩
     ·have hne : c.name ≠ gs[m].name := fun z => hjm (mqB (by rw [← hgm]; exact hgn) hj hgm2 z)
      rw [lq3 (hsp.2.1 c.name hne), hks j c hj, List.mem_cons, not_or]
      exact ⟨fun z => ⟨hjm, z⟩, fun z => z.2⟩
   ·obtain ⟨s8, lw, ws, ys, v8, rfl, hlw, hVw, hwl2, hws2, hwn2, hks⟩ := h
    rw [hkl'] at hwl2
    rw [hkl', Nat.sub_self, List.drop_zero] at hks
    exact ⟨s8, lw, ws, ys, v8, rfl, hlw, hVw, by lia, hws2, hwn2, hks⟩
  rintro σ H8 ⟨s8, lw, ws, ys, v8, rfl, hlw, hVw, hwl2, hws2, hwn2, hks⟩
  have s38 := s37.trans s8
  walk_at "rd"
  have h12 : 12 < nm.length := by lia
  have h13 : 13 < nm.length := by lia
  have e12 : nm[12]? = some nm[12] := List.getElem?_eq_getElem h12
  have e13 : nm[13]? = some nm[13] := List.getElem?_eq_getElem h13
  have eA : Str.ofString "A" = ⟨[65].toArray⟩ := by decide +kernel
  have ea : Str.ofString "a" = ⟨[97].toArray⟩ := by decide +kernel
  rw [eA, ea]
  have s28 := s3.trans s38
  have hpn8 := (s2.trans s28) _ _ hpn
  refine ⟨_, _, .inl (.of hpn8), aqn (j := 12) (by rw [List.getElem?_map, e12]; rfl), by decide, fun p9 H9 n9 s9 e9 => ⟨⟨by decide, by decide⟩, by decide, ?_⟩⟩
  obtain ⟨u, hu, hug⟩ : ∃ u : List Nat, atI [V.str ⟨#[]⟩, tV nm[12], tV [65]] (C / 4 % 3) = some (tV u) ∧ u ∉ gapsM cs := by
   obtain ⟨j, hj, ej⟩ : ∃ j : Nat, j < 3 ∧ C / 4 % 3 = (j : Int) := by
    have h1 := Int.emod_nonneg (C / 4) (show (3 : Int) ≠ 0 by decide)
    have h2 := Int.emod_lt_of_pos (C / 4) (show (0 : Int) < 3 by decide)
    exact ⟨(C / 4 % 3).toNat, by lia, by lia⟩
   rw [ej]
   match j, hj with
   | 0, _ => exact ⟨[], aqn (j := 0) rfl, lqw hnm hgj (.inl rfl)⟩
   | 1, _ => exact ⟨nm[12], aqn (j := 1) rfl, qqG hnd hgj e12 (Nat.le_refl _)⟩
   | 2, _ => exact ⟨[65], aqn (j := 2) rfl, lqw hnm hgj (.inr (List.mem_singleton.mpr rfl))⟩
  refine ⟨_, _, .inl (.of e9), hu, ?_⟩
  have hvg : nm[13] ++ [65] ∉ gapsM cs := lqw hnm hgj (.inr (List.mem_append_right _ (List.mem_singleton.mpr rfl)))
  refine ⟨fun σ Ha => Same H8 Ha ∧ ∃ (lx : Addr) (wx : List (List Nat × PyData)) (yx : List V) (v10 : Option V), σ = [some (.ref a), some (.ref pn), some (.ref p), some (.int C), some (.ref lg), some (.ref lp), some (.ref lx), some (.ref lk), v8, some (tV u), v10, none, none, none] ∧ Ha lx = some (.lst yx) ∧ VlsV Ha wx yx ∧ wx.length ≤ 17 ∧ (∀ w ∈ wx, smallD w.2 = true) ∧ (∀ j c, gs[j]? = some c → (OkAt wx c ↔ j ∉ ks)) ∧ (ks = [] → otherM cs wx = some u), ⟨by decide, fun pa Ha na sa ha => ?_⟩, ?_⟩
  ·have s8a := s9.trans sa
   have hlka := (s8.trans s8a) _ _ hlk
   refine ⟨.list (ks.map fun k : Nat => PyData.int (k : Int)), .list [], .lst hlka (jqs ks), .lst ha .nil, jqZ ks, by decide +kernel, _, rfl, ?_⟩
   rw [eqW, List.isEmpty_map]
   refine (fun ins => ite2 (fun _ => ins) (fun hk0 => ⟨⟨by decide, by decide⟩, by decide, ite2 (fun _ => ins) (fun _ => ?_)⟩)) ?_
   rotate_left
   ·refine ⟨s8a, lw, ws, ys, none, rfl, s8a _ _ hlw, hVw.mono s8a, by lia, hws2, hks, fun z => ?_⟩
    rw [z] at hk0
    exact absurd rfl hk0
   have hyl := hVw.length
   obtain ⟨o, ho, eo⟩ : ∃ o : Nat, o ≤ ys.length ∧ C / 24 % ((ys.length : Int) + 1) = (o : Int) := by
    have h1 := Int.emod_nonneg (C / 24) (show (ys.length : Int) + 1 ≠ 0 by lia)
    have h2 := Int.emod_lt_of_pos (C / 24) (show 0 < (ys.length : Int) + 1 by lia)
    exact ⟨(C / 24 % ((ys.length : Int) + 1)).toNat, by lia, by lia⟩
   have hlwa := s8a _ _ hlw
   refine ⟨⟨by decide, by decide⟩, ys, .inl (.of hlwa), by lia, ?_⟩
   rw [eo]
   refine ⟨ys, .of hlwa, fun pb Hb nb sb eb => ⟨by decide, fun pc Hc nc sc ec => ⟨_, _, .inl (.of ((s8a.trans (sb.trans sc)) _ _ hpn8)), aqn (j := 13) (by rw [List.getElem?_map, e13]; rfl), ?_⟩⟩⟩
   rw [fqR] at eb
   have h8 := (hnm _ (List.mem_of_getElem? e13)).2.1
   refine cqc.mpr ⟨aqv (by rw [bqG, bqG]; simp only [List.length_cons, List.length_nil]; lia), ?_⟩
   rw [cqI]
   refine ⟨by decide, fun pd Hd nd sd ed => ⟨by decide, fun pe He ne se ee => ?_⟩⟩
   have sce := sc.trans (sd.trans se)
   refine .inl ⟨_, _, sce _ _ eb, ee, aqv (by rw [List.length_take]; simp only [List.length_cons, List.length_nil]; lia), fun pf Hf nf sf ef => ⟨ys, .of ((s8a.trans (sb.trans (sce.trans sf))) _ _ hlw), fun pg Hg ng sg eg => ?_⟩⟩
   rw [fqP] at eg
   refine .inl ⟨_, _, sg _ _ ef, eg, aqv (by rw [List.length_append, List.length_take, List.length_drop]; simp only [List.length_cons, List.length_nil]; lia), fun ph Hh nh sh eh => ?_⟩
   have seh := sf.trans (sg.trans sh)
   have s8h := s8a.trans (sb.trans (sce.trans seh))
   have hVh := hVw.mono s8h
   refine ⟨s8h, ph, ws.take o ++ [(u, .str ⟨[97].toArray⟩), (nm[13] ++ [65], .none)] ++ ws.drop o, _, _, rfl, eh, ?_, by rw [List.length_append, List.length_append, List.length_take, List.length_drop]; simp only [List.length_cons, List.length_nil]; lia, fun w hw => ?_, fun j c hj => ?_, fun _ => (stranger hug hvg).2 hwn2⟩
   ·exact (hVh.drop o).append (VlsV.append (.cons ((sd.trans (se.trans seh)) _ _ ec) (.str _) (.cons ((se.trans seh) _ _ ed) .non .nil)) (hVh.take o))
   ·rcases List.mem_append.mp hw with z | z
    ·rcases List.mem_append.mp z with z | z
     ·exact hws2 w (List.mem_of_mem_take z)
     ·rcases List.mem_cons.mp z with rfl | z
      ·exact (by decide +kernel : smallD (.str ⟨[97].toArray⟩) = true)
      ·rw [List.mem_singleton.mp z]; rfl
    ·exact hws2 w (List.mem_of_mem_drop z)
   ·exact (lq3 ((stranger hug hvg).1 c.name (by rw [hgm]; exact List.mem_map_of_mem (List.mem_of_getElem? hj)))).trans (hks j c hj)
  rintro σ Ha ⟨sa, lx, wx, yx, v10, rfl, hlx, hVx, hwlx, hwsx, hkx, hux⟩
  have s3a := s38.trans sa
  walk_at "rd"
  refine ⟨fun σ Hb => Same Ha Hb ∧ ∃ du : List Nat, σ = [some (.ref a), some (.ref pn), some (.ref p), some (.int C), some (.ref lg), some (.ref lp), some (.ref lx), some (.ref lk), v8, some (tV u), v10, some (tV du), none, none] ∧ fillM cs wx = .error du, ⟨by decide, fun pb Hb nb sb hb => ?_⟩, ?_⟩
  ·refine ⟨.list (ks.map fun k : Nat => PyData.int (k : Int)), .list [], .lst ((s8.trans (sa.trans sb)) _ _ hlk) (jqs ks), .lst hb .nil, jqZ ks, by decide +kernel, _, rfl, ?_⟩
   rw [eqW, List.isEmpty_map]
   refine ite2 (fun hk1 => ?_) (fun hk0 => ?_)
   ·obtain ⟨m, r, hmr⟩ : ∃ m r, ks = m :: r := by
     cases ks with
     | nil => cases hk1
     | cons m r => exact ⟨m, r, rfl⟩
    have hmg : m < gs.length := hkg m (by rw [hmr]; exact List.mem_cons_self)
    have hgm2 : gs[m]? = some gs[m] := List.getElem?_eq_getElem hmg
    obtain ⟨g1, g2⟩ := hgc _ (List.mem_of_getElem? hgm2)
    have s4b := s5.trans (s7.trans (s8.trans (sa.trans sb)))
    have hgxl := hPg.length
    obtain ⟨v, hv⟩ : ∃ v, gx[m]? = some v := ⟨_, List.getElem?_eq_getElem (by lia)⟩
    obtain ⟨c', pg, hc', rfl, hpg⟩ := hPg.get hv
    rw [hgm2] at hc'
    cases hc'
    refine ⟨_, _, .inl (.of ((s8.trans (sa.trans sb)) _ _ hlk)), aqn (j := 0) (by rw [hmr]; rfl), gq9.mpr ⟨_, _, .inl (.of (s4b _ _ hlp)), aqn hv, gs[m], pg, rfl, .of (s4b _ _ hpg), g2, sb, _, rfl, ?_⟩⟩
    have hmk : m ∈ ks := by rw [hmr]; exact List.mem_cons_self
    refine lqo (m := m) (by rw [← hgs]; exact hgm2) (fun z => (hkx m _ hgm2).mp z hmk) fun j d hj hd => ?_
    rw [← hgs] at hd
    refine (hkx j d hd).mpr fun z => ?_
    rw [hmr] at z hkp
    rcases List.mem_cons.mp z with z | z
    ·lia
    ·have := (List.pairwise_cons.mp hkp).1 j z
     lia
   ·have hk0 : ks = [] := by
     cases ks with
     | nil => rfl
     | cons m r => exact absurd rfl hk0
    refine ⟨sb, u, rfl, jqn (fun c hc hs => ?_) (hux hk0)⟩
    have hcg : c ∈ gs := by rw [hgs]; exact List.mem_filter.mpr ⟨hc, by rw [hs]; rfl⟩
    obtain ⟨j, hj, ej⟩ := List.getElem_of_mem hcg
    refine (hkx j c (List.getElem?_eq_some_iff.mpr ⟨hj, ej⟩)).mpr ?_
    rw [hk0]
    exact List.not_mem_nil
  rintro σ Hb ⟨sb, du, rfl, hdu⟩
  have s3b := s3a.trans sb
  walk_at "rd"
  have hsz : PcSz cs := fun c hc => by
   have := hok.1 c hc
   cases c with
   | part a b d => exact ⟨by have := this.1; show a.length ≤ _; lia, by have := this.2.1; show d.length ≤ _; lia⟩
   | _ => exact ⟨Nat.zero_le _, Nat.zero_le _⟩
  have s2b := s3.trans s3b
  have toldG : ∀ {Hd : Hp} {R : VK}, Same Hb Hd → (∀ H', Same Hd H' → R .non H') → dqs K g.aqo [.ref p, .ref lg] Hd R E0 := fun {Hd R} sd hR =>
   ⟨cs, xs, p, q, lg, e, wz, zs, rfl, .of ((s2b.trans sd) _ _ hp), .of ((s2b.trans sd) _ _ hq), (hP.mono (s2b.trans sd).toT).all, by lia, hsz, (s3b.trans sd) _ _ hlg, hVz.mono (s3b.trans sd), by lia, hwsm, fun ss _ H' s' => hR H' s', fun n h => by rw [hfill] at h; cases h⟩
  have toldX : ∀ {Hd : Hp} {R : VK}, Same Hb Hd → (∀ x d H', Same Hd H' → H' x = some (exC x g.aqo (some d)) → H' d = some (.xd [("name", tV du)]) → R (.ref x) H') → dqs K g.aqo [.ref p, .ref lx] Hd R E0 := fun {Hd R} sd hR =>
   ⟨cs, xs, p, q, lx, e, wx, yx, rfl, .of ((s2b.trans sd) _ _ hp), .of ((s2b.trans sd) _ _ hq), (hP.mono (s2b.trans sd).toT).all, by lia, hsz, (sb.trans sd) _ _ hlx, hVx.mono (sb.trans sd), by lia, hwsx, fun ss h => (by rw [hdu] at h; cases h), fun n h => (by rw [hdu] at h; cases h; exact hR)⟩
  refine ⟨by decide, by decide, ?_⟩
  refine cqJ (fun i σ H' => Same Hb H' ∧ ∃ (v12 v13 : Option V), σ = [some (.ref a), some (.ref pn), some (.ref p), some (.int C), some (.ref lg), some (.ref lp), some (.ref lx), some (.ref lk), v8, some (tV u), v10, some (tV du), v12, v13]) ⟨Same.refl _, none, none, rfl⟩ ?_ ?_
  rotate_left
  ·rintro σ Hd ⟨sd, v12, v13, rfl⟩
   walk_at "rd"
   refine toldG sd fun He se => ?_
   rw [decide_eq_true (show V.non = V.non from rfl)]
   exact k He
  rintro j σ Hd hj ⟨sd, v12, v13, rfl⟩
  walk_at "rd"
  refine toldG sd fun He se => ?_
  refine ite2 (fun z => absurd rfl z) (fun _ => toldX (sd.trans se) fun x d Hf sf hx hd => ⟨x, d, du, rfl, hx, hd, _, rfl, ite2 (fun z => by cases z) (fun _ => ⟨x, _, d, _, _, rfl, hx, hd, g.bq7, (by rw [List.lookup_cons, beq_self_eq_true]), ?_⟩)⟩)
  refine hqD.mpr ⟨_, rfl, ite2 (fun z => ?_) (fun _ => ⟨sd.trans (se.trans sf), _, _, rfl, rfl⟩)⟩
  simp at z
end
theorem usl0 {us : List Value} (h : us.length = 0) : us = [] := List.length_eq_zero_iff.mp h
local macro_rules | `(tactic| walk_at "b0") => `(tactic| exact fun _ _ _ _ _ _ us hl => by obtain e := usl0 hl; subst e; rfl)
theorem usl1 {us : List Value} (h : us.length = 1) : ∃ x0, us = [x0] := List.length_eq_one_iff.mp h
local macro_rules | `(tactic| walk_at "b1") => `(tactic| exact fun _ _ _ _ _ _ us hl => by obtain ⟨x0, e⟩ := usl1 hl; subst e; rfl)
theorem usl2 {us : List Value} (h : us.length = 2) : ∃ x0 x1, us = [x0, x1] := by
 cases us with
 | nil => cases h
 | cons x0 l =>
  obtain ⟨x1, rfl⟩ := usl1 (Nat.succ.inj h)
  exact ⟨_, _, rfl⟩
local macro_rules | `(tactic| walk_at "b2") => `(tactic| exact fun _ _ _ _ _ _ us hl => by obtain ⟨x0, x1, e⟩ := usl2 hl; subst e; rfl)
theorem usl3 {us : List Value} (h : us.length = 3) : ∃ x0 x1 x2, us = [x0, x1, x2] := by
 cases us with
 | nil => cases h
 | cons x0 l =>
  obtain ⟨x1, x2, rfl⟩ := usl2 (Nat.succ.inj h)
  exact ⟨_, _, _, rfl⟩
local macro_rules | `(tactic| walk_at "b3") => `(tactic| exact fun _ _ _ _ _ _ us hl => by obtain ⟨x0, x1, x2, e⟩ := usl3 hl; subst e; rfl)
theorem usl4 {us : List Value} (h : us.length = 4) : ∃ x0 x1 x2 x3, us = [x0, x1, x2, x3] := by
 cases us with
 | nil => cases h
 | cons x0 l =>
  obtain ⟨x1, x2, x3, rfl⟩ := usl3 (Nat.succ.inj h)
  exact ⟨_, _, _, _, rfl⟩
local macro_rules | `(tactic| walk_at "b4") => `(tactic| exact fun _ _ _ _ _ _ us hl => by obtain ⟨x0, x1, x2, x3, e⟩ := usl4 hl; subst e; rfl)
abbrev fo (n : Str) (s : Stmt) (d k a b : Value) (e : Option Addr) (c t : Value) : FuncData := W.fnOf n n (defArgs s) (defBody s) (defScope s) d k a b e c t
theorem pqA {l : PySem.W.OpenLaw} {w : World} {K : W.Frag} {h : Heap} {mg : Str → Option Value} {fa : Addr} (X : K.In h) (Gl : h.Ns mainGlobals mg) (hfa : mg "law" = some (.ref fa))
  {eC_NoRow : Addr} (en_NoRow : W.nsIn K mainGlobals "NoRow" = some (some (.ref eC_NoRow)))
  {eC_NoName : Addr} (en_NoName : W.nsIn K mainGlobals "NoName" = some (some (.ref eC_NoName)))
  {eC_NoPattern : Addr} (en_NoPattern : W.nsIn K mainGlobals "NoPattern" = some (some (.ref eC_NoPattern)))
  {eC_NoBase : Addr} (en_NoBase : W.nsIn K mainGlobals "NoBase" = some (some (.ref eC_NoBase)))
  {eC_NoAddress : Addr} (en_NoAddress : W.nsIn K mainGlobals "NoAddress" = some (some (.ref eC_NoAddress)))
  {eC_NoValue : Addr} (en_NoValue : W.nsIn K mainGlobals "NoValue" = some (some (.ref eC_NoValue)))
  {eC_WayError : Addr} (en_WayError : W.nsIn K mainGlobals "WayError" = some (some (.ref eC_WayError)))
  (a1 : W.nsIn K mainGlobals "made_of" = some (some (.ref f1))) (l1 : K.lookup f1 = some ⟨oc1, od1, .func (fo "made_of" equ .none kV1 dc1 pm1 an1 cd1 ct1), sl1⟩)
  (a2 : W.nsIn K mainGlobals "is_whole_number" = some (some (.ref f2))) (l2 : K.lookup f2 = some ⟨oc2, od2, .func (fo "is_whole_number" aqT .none kV2 dc2 pm2 an2 cd2 ct2), sl2⟩)
  (a3 : W.findIn K (.ref eC_NoValue) "__init__" = some (some (.ref f3))) (i3 : W.isFn K (.ref f3) = true) (l3 : K.lookup f3 = some ⟨oc3, od3, .func (W.fnOf "__init__" "NoValue.__init__" (defArgs aqE) (defBody aqE) (defScope aqE) .none kV3 dc3 pm3 an3 cd3 ct3), sl3⟩)
  (a4 : W.nsIn K mainGlobals "is_dot" = some (some (.ref f4))) (l4 : K.lookup f4 = some ⟨oc4, od4, .func (fo "is_dot" fqJ .none kV4 dc4 pm4 an4 cd4 ct4), sl4⟩)
  (a5 : W.nsIn K mainGlobals "is_gap" = some (some (.ref f5))) (l5 : K.lookup f5 = some ⟨oc5, od5, .func (fo "is_gap" fqO .none kV5 dc5 pm5 an5 cd5 ct5), sl5⟩)
  (a6 : W.nsIn K mainGlobals "name_of" = some (some (.ref f6))) (l6 : K.lookup f6 = some ⟨oc6, od6, .func (fo "name_of" eqc .none kV6 dc6 pm6 an6 cd6 ct6), sl6⟩)
  (a7 : W.nsIn K mainGlobals "head_of" = some (some (.ref f7))) (l7 : K.lookup f7 = some ⟨oc7, od7, .func (fo "head_of" eqI .none kV7 dc7 pm7 an7 cd7 ct7), sl7⟩)
  (a8 : W.nsIn K mainGlobals "tail_of" = some (some (.ref f8))) (l8 : K.lookup f8 = some ⟨oc8, od8, .func (fo "tail_of" eqQ .none kV8 dc8 pm8 an8 cd8 ct8), sl8⟩)
  (a9 : W.nsIn K mainGlobals "_law_cell_at" = some (some (.ref f9))) (l9 : K.lookup f9 = some ⟨oc9, od9, .func (fo "_law_cell_at" bqC .none kV9 dc9 pm9 an9 cd9 ct9), sl9⟩)
  (a10 : W.nsIn K mainGlobals "_law_names" = some (some (.ref f10))) (l10 : K.lookup f10 = some ⟨oc10, od10, .func (fo "_law_names" cqi .none kV10 dc10 pm10 an10 cd10 ct10), sl10⟩)
  (a11 : W.nsIn K mainGlobals "_law_signs" = some (some (.ref f11))) (l11 : K.lookup f11 = some ⟨oc11, od11, .func (fo "_law_signs" cqx .none kV11 dc11 pm11 an11 cd11 ct11), sl11⟩)
  (a12 : W.nsIn K mainGlobals "_law_gaps" = some (some (.ref f12))) (l12 : K.lookup f12 = some ⟨oc12, od12, .func (fo "_law_gaps" cqO .none kV12 dc12 pm12 an12 cd12 ct12), sl12⟩)
  (a13 : W.nsIn K mainGlobals "_law_name_of" = some (some (.ref f13))) (l13 : K.lookup f13 = some ⟨oc13, od13, .func (fo "_law_name_of" bqA .none kV13 dc13 pm13 an13 cd13 ct13), sl13⟩)
  (a14 : W.nsIn K mainGlobals "_law_turned" = some (some (.ref f14))) (l14 : K.lookup f14 = some ⟨oc14, od14, .func (fo "_law_turned" bqS .none kV14 dc14 pm14 an14 cd14 ct14), sl14⟩)
  (a15 : W.nsIn K mainGlobals "_law_odd" = some (some (.ref f15))) (l15 : K.lookup f15 = some ⟨oc15, od15, .func (fo "_law_odd" dqN .none kV15 dc15 pm15 an15 cd15 ct15), sl15⟩)
  (a16 : W.nsIn K mainGlobals "_law_alone" = some (some (.ref f16))) (l16 : K.lookup f16 = some ⟨oc16, od16, .func (fo "_law_alone" cqt .none kV16 dc16 pm16 an16 cd16 ct16), sl16⟩)
  (a17 : W.nsIn K mainGlobals "is_text" = some (some (.ref f17))) (l17 : K.lookup f17 = some ⟨oc17, od17, .func (fo "is_text" eqx .none kV17 dc17 pm17 an17 cd17 ct17), sl17⟩)
  (a18 : W.nsIn K mainGlobals "names_of" = some (some (.ref f18))) (l18 : K.lookup f18 = some ⟨oc18, od18, .func (fo "names_of" dqO .none kV18 dc18 pm18 an18 cd18 ct18), sl18⟩)
  (a19 : W.nsIn K mainGlobals "is_word" = some (some (.ref f19))) (l19 : K.lookup f19 = some ⟨oc19, od19, .func (fo "is_word" eqg .none kV19 dc19 pm19 an19 cd19 ct19), sl19⟩)
  (a20 : W.nsIn K mainGlobals "steps_of_value" = some (some (.ref f20))) (l20 : K.lookup f20 = some ⟨oc20, od20, .func (fo "steps_of_value" aq7 .none kV20 dc20 pm20 an20 cd20 ct20), sl20⟩)
  (a21 : W.nsIn K mainGlobals "_law_text" = some (some (.ref f21))) (l21 : K.lookup f21 = some ⟨oc21, od21, .func (fo "_law_text" cqW .none kV21 dc21 pm21 an21 cd21 ct21), sl21⟩)
  (a22 : W.nsIn K mainGlobals "_law_spoil" = some (some (.ref f22))) (l22 : K.lookup f22 = some ⟨oc22, od22, .func (fo "_law_spoil" cqz .none kV22 dc22 pm22 an22 cd22 ct22), sl22⟩)
  (a23 : W.nsIn K mainGlobals "is_filled_text" = some (some (.ref f23))) (l23 : K.lookup f23 = some ⟨oc23, od23, .func (fo "is_filled_text" aq8 .none kV23 dc23 pm23 an23 cd23 ct23), sl23⟩)
  (a24 : W.nsIn K mainGlobals "refuse_others" = some (some (.ref f24))) (l24 : K.lookup f24 = some ⟨oc24, od24, .func (fo "refuse_others" bqf .none kV24 dc24 pm24 an24 cd24 ct24), sl24⟩)
  (a25 : W.nsIn K mainGlobals "_law_step" = some (some (.ref f25))) (l25 : K.lookup f25 = some ⟨oc25, od25, .func (fo "_law_step" cqT .none kV25 dc25 pm25 an25 cd25 ct25), sl25⟩)
  (a26 : W.nsIn K mainGlobals "can_be_step" = some (some (.ref f26))) (l26 : K.lookup f26 = some ⟨oc26, od26, .func (fo "can_be_step" bqT .none kV26 dc26 pm26 an26 cd26 ct26), sl26⟩)
  (a27 : W.nsIn K mainGlobals "_law_piece" = some (some (.ref f27))) (l27 : K.lookup f27 = some ⟨oc27, od27, .func (fo "_law_piece" cqp .none kV27 dc27 pm27 an27 cd27 ct27), sl27⟩)
  (a28 : W.nsIn K mainGlobals "_law_value" = some (some (.ref f28))) (l28 : K.lookup f28 = some ⟨oc28, od28, .func (fo "_law_value" cqq .none kV28 dc28 pm28 an28 cd28 ct28), sl28⟩)
  (a29 : W.nsIn K mainGlobals "is_value" = some (some (.ref f29))) (l29 : K.lookup f29 = some ⟨oc29, od29, .func (fo "is_value" dqP .none kV29 dc29 pm29 an29 cd29 ct29), sl29⟩)
  (a30 : W.nsIn K mainGlobals "_law_pattern" = some (some (.ref f30))) (l30 : K.lookup f30 = some ⟨oc30, od30, .func (fo "_law_pattern" bqB .none kV30 dc30 pm30 an30 cd30 ct30), sl30⟩)
  (a31 : W.nsIn K mainGlobals "_law_values" = some (some (.ref f31))) (l31 : K.lookup f31 = some ⟨oc31, od31, .func (fo "_law_values" bqP .none kV31 dc31 pm31 an31 cd31 ct31), sl31⟩)
  (a32 : W.nsIn K mainGlobals "filled_steps" = some (some (.ref f32))) (l32 : K.lookup f32 = some ⟨oc32, od32, .func (fo "filled_steps" bqE .none kV32 dc32 pm32 an32 cd32 ct32), sl32⟩)
  (a33 : W.nsIn K mainGlobals "filled" = some (some (.ref f33))) (l33 : K.lookup f33 = some ⟨oc33, od33, .func (fo "filled" fqK .none kV33 dc33 pm33 an33 cd33 ct33), sl33⟩)
  (a34 : W.nsIn K mainGlobals "_law_told" = some (some (.ref f34))) (l34 : K.lookup f34 = some ⟨oc34, od34, .func (fo "_law_told" cq0 .none kV34 dc34 pm34 an34 cd34 ct34), sl34⟩)
  (a35 : W.nsIn K mainGlobals "law" = some (some (.ref f35))) (l35 : K.lookup f35 = some ⟨oc35, od35, .func (fo "law" nqj .none kV35 dc35 pm35 an35 cd35 ct35), sl35⟩)
  {gqj : Tok} (e_SIGNS : W.nsIn K mainGlobals "SIGNS" = some (some (.str (Str.ofString " !\"#$&'()*+,-./0123456789:;<=>?@ABCDEFGHIJKLMNOPQRSTUVWXYZ[\\]^_`abcdefghijklmnopqrstuvwxyz{|}~") gqj)))
  {aqR : Tok} (e_SMALL_LETTERS : W.nsIn K mainGlobals "SMALL_LETTERS" = some (some (.str (Str.ofString "abcdefghijklmnopqrstuvwxyz") aqR)))
  {iqO : Tok} (e_STAY : W.nsIn K mainGlobals "STAY" = some (some (.str (Str.ofString ".") iqO)))
  {t_UP : Tok} (e_UP : W.nsIn K mainGlobals "UP" = some (some (.str (Str.ofString "..") t_UP)))
  {eqE : Tok} (e_PIECES : W.nsIn K mainGlobals "PIECES" = some (some (.int 0 eqE)))
  {eqJ : Tok} (e_CLOSES : W.nsIn K mainGlobals "CLOSES" = some (some (.int 1 eqJ)))
  {aqY : Tok} (e_LONGEST_WORD : W.nsIn K mainGlobals "LONGEST_WORD" = some (some (.int 60 aqY)))
  (z_all : W.nsIn K mainGlobals "all" = some none)
  (z_isinstance : W.nsIn K mainGlobals "isinstance" = some none)
  (z_bool : W.nsIn K mainGlobals "bool" = some none)
  (z_int : W.nsIn K mainGlobals "int" = some none)
  (z_len : W.nsIn K mainGlobals "len" = some none)
  (z_range : W.nsIn K mainGlobals "range" = some none)
  (z_list : W.nsIn K mainGlobals "list" = some none)
  (z_str : W.nsIn K mainGlobals "str" = some none)
  (z_ValueError : W.nsIn K mainGlobals "ValueError" = some none)
  (z_tuple : W.nsIn K mainGlobals "tuple" = some none)
  (z_zip : W.nsIn K mainGlobals "zip" = some none)
  (z_enumerate : W.nsIn K mainGlobals "enumerate" = some none)
  (z_reversed : W.nsIn K mainGlobals "reversed" = some none)
  (z_set : W.nsIn K mainGlobals "set" = some none)
  (z_sorted : W.nsIn K mainGlobals "sorted" = some none)
  (ew1_WayError : W.typeIn K (.ref eC_WayError) = some (.type "type"))
  (ew2_WayError : W.subIn K (.ref eC_WayError) (.type "BaseException") = some true)
  (ew3_WayError : (W.clsIn K eC_WayError).isSome = true)
  (el0_NoValue : W.findIn K (.ref eC_NoValue) "__getattribute__" = some (some (.builtin "BaseException.__getattribute__")))
  (el1_NoValue : W.findIn K (.ref eC_NoValue) "__class__" = some (some (.builtin "object.__class__")))
  (el2_NoValue : W.findIn K (.ref eC_NoValue) "__getattr__" = some none)
  (el3_NoValue : W.mroIn K eC_NoValue (.type "object") = some true)
  (el4_NoValue : W.mroIn K eC_NoValue (.type "BaseException") = some true)
  (el5_NoValue : (W.clsIn K eC_NoValue).isSome = true)
  (ey_NoValue : excInJ K eC_NoValue vErr vNew (some (.ref f3)) = true)
  (ek_NoValue : W.keepIn K (.ref eC_NoValue) = true)
  (es_NoValue : W.findIn K (.ref eC_NoValue) "__setattr__" = some (some (.builtin "object.__setattr__")))
  (eo_NoValue : overErr K eC_NoValue = true)
  (eh_NoValue : W.hasDictIn K eC_NoValue = true)
  (ef_NoValue_name : W.findIn K (.ref eC_NoValue) "name" = some none)
  (eu_NoValue_WayError : W.subIn K (.ref eC_NoValue) (.ref eC_WayError) = some true)
  (ei_NoValue_NoValue : W.kitOne K (.ref eC_NoValue) (.ref eC_NoValue) = some true)
  (ei_NoValue_ValueError : W.kitOne K (.ref eC_NoValue) (.type "ValueError") = some true)
  (ei_NoValue_NoAddress : W.kitOne K (.ref eC_NoValue) (.ref eC_NoAddress) = some false)
  (ei_NoValue_NoBase : W.kitOne K (.ref eC_NoValue) (.ref eC_NoBase) = some false)
  (ei_NoValue_NoPattern : W.kitOne K (.ref eC_NoValue) (.ref eC_NoPattern) = some false)
  (ei_NoValue_NoName : W.kitOne K (.ref eC_NoValue) (.ref eC_NoName) = some false)
  (ei_NoValue_NoRow : W.kitOne K (.ref eC_NoValue) (.ref eC_NoRow) = some false)
  (kk : ((((((W.keepIn K (.ref f1) && W.keepIn K (.ref f2)) && W.keepIn K (.ref f3)) && (W.keepIn K (.ref f4) && W.keepIn K (.ref f5))) && ((W.keepIn K (.ref f6) && W.keepIn K (.ref f7)) && (W.keepIn K (.ref f8) && W.keepIn K (.ref f9)))) && ((((W.keepIn K (.ref f10) && W.keepIn K (.ref f11)) && W.keepIn K (.ref f12)) && (W.keepIn K (.ref f13) && W.keepIn K (.ref f14))) && ((W.keepIn K (.ref f15) && W.keepIn K (.ref f16)) && (W.keepIn K (.ref f17) && W.keepIn K (.ref f18))))) && (((((W.keepIn K (.ref f19) && W.keepIn K (.ref f20)) && W.keepIn K (.ref f21)) && (W.keepIn K (.ref f22) && W.keepIn K (.ref f23))) && ((W.keepIn K (.ref f24) && W.keepIn K (.ref f25)) && (W.keepIn K (.ref f26) && W.keepIn K (.ref f27)))) && (((W.keepIn K (.ref f28) && W.keepIn K (.ref f29)) && (W.keepIn K (.ref f30) && W.keepIn K (.ref f31))) && ((W.keepIn K (.ref f32) && W.keepIn K (.ref f33)) && (W.keepIn K (.ref f34) && W.keepIn K (.ref f35)))))) = true)
  (cc : ((((((W.codeIn K cd1 "made_of" && W.codeIn K cd2 "is_whole_number") && W.codeIn K cd3 "NoValue.__init__") && (W.codeIn K cd4 "is_dot" && W.codeIn K cd5 "is_gap")) && ((W.codeIn K cd6 "name_of" && W.codeIn K cd7 "head_of") && (W.codeIn K cd8 "tail_of" && W.codeIn K cd9 "_law_cell_at"))) && ((((W.codeIn K cd10 "_law_names" && W.codeIn K cd11 "_law_signs") && W.codeIn K cd12 "_law_gaps") && (W.codeIn K cd13 "_law_name_of" && W.codeIn K cd14 "_law_turned")) && ((W.codeIn K cd15 "_law_odd" && W.codeIn K cd16 "_law_alone") && (W.codeIn K cd17 "is_text" && W.codeIn K cd18 "names_of")))) && (((((W.codeIn K cd19 "is_word" && W.codeIn K cd20 "steps_of_value") && W.codeIn K cd21 "_law_text") && (W.codeIn K cd22 "_law_spoil" && W.codeIn K cd23 "is_filled_text")) && ((W.codeIn K cd24 "refuse_others" && W.codeIn K cd25 "_law_step") && (W.codeIn K cd26 "can_be_step" && W.codeIn K cd27 "_law_piece"))) && (((W.codeIn K cd28 "_law_value" && W.codeIn K cd29 "is_value") && (W.codeIn K cd30 "_law_pattern" && W.codeIn K cd31 "_law_values")) && ((W.codeIn K cd32 "filled_steps" && W.codeIn K cd33 "filled") && (W.codeIn K cd34 "_law_told" && W.codeIn K cd35 "law"))))) = true) :
  ∃ fd : FuncData, (∀ (s : Shared) (v : Value), BindsTo s fd ⟨[v], []⟩ [("_law_script", v)]) ∧ ∀ base : Heap, K.In base → base.Ns mainGlobals mg → FnOk l.prog w K mg base CX0 9 fa fd ["_law_script"] (jqU K) := by
 have e := hfa.symm.trans (W.mg_of X Gl a35)
 have e2 : f35 = fa := by cases e; rfl
 subst e2
 have M : ∀ {x : Str} {v : Value}, W.nsIn K mainGlobals x = some (some v) → mg x = some v := fun a => W.mg_of X Gl a
 simp only [Bool.and_eq_true] at kk cc
 obtain ⟨⟨⟨⟨⟨⟨ka1, ka2⟩, ka3⟩, ⟨ka4, ka5⟩⟩, ⟨⟨ka6, ka7⟩, ⟨ka8, ka9⟩⟩⟩, ⟨⟨⟨⟨ka10, ka11⟩, ka12⟩, ⟨ka13, ka14⟩⟩, ⟨⟨ka15, ka16⟩, ⟨ka17, ka18⟩⟩⟩⟩, ⟨⟨⟨⟨⟨ka19, ka20⟩, ka21⟩, ⟨ka22, ka23⟩⟩, ⟨⟨ka24, ka25⟩, ⟨ka26, ka27⟩⟩⟩, ⟨⟨⟨ka28, ka29⟩, ⟨ka30, ka31⟩⟩, ⟨⟨ka32, ka33⟩, ⟨ka34, ka35⟩⟩⟩⟩⟩ := kk
 obtain ⟨⟨⟨⟨⟨⟨ca1, ca2⟩, ca3⟩, ⟨ca4, ca5⟩⟩, ⟨⟨ca6, ca7⟩, ⟨ca8, ca9⟩⟩⟩, ⟨⟨⟨⟨ca10, ca11⟩, ca12⟩, ⟨ca13, ca14⟩⟩, ⟨⟨ca15, ca16⟩, ⟨ca17, ca18⟩⟩⟩⟩, ⟨⟨⟨⟨⟨ca19, ca20⟩, ca21⟩, ⟨ca22, ca23⟩⟩, ⟨⟨ca24, ca25⟩, ⟨ca26, ca27⟩⟩⟩, ⟨⟨⟨ca28, ca29⟩, ⟨ca30, ca31⟩⟩, ⟨⟨ca32, ca33⟩, ⟨ca34, ca35⟩⟩⟩⟩⟩ := cc
 have F1 := aqD (st := equ) l1 ca1 ka1
 have F2 := aqD (st := aqT) l2 ca2 ka2
 have F3 := aqD (st := aqE) l3 ca3 ka3
 have F4 := aqD (st := fqJ) l4 ca4 ka4
 have F5 := aqD (st := fqO) l5 ca5 ka5
 have F6 := aqD (st := eqc) l6 ca6 ka6
 have F7 := aqD (st := eqI) l7 ca7 ka7
 have F8 := aqD (st := eqQ) l8 ca8 ka8
 have F9 := aqD (st := bqC) l9 ca9 ka9
 have F10 := aqD (st := cqi) l10 ca10 ka10
 have F11 := aqD (st := cqx) l11 ca11 ka11
 have F12 := aqD (st := cqO) l12 ca12 ka12
 have F13 := aqD (st := bqA) l13 ca13 ka13
 have F14 := aqD (st := bqS) l14 ca14 ka14
 have F15 := aqD (st := dqN) l15 ca15 ka15
 have F16 := aqD (st := cqt) l16 ca16 ka16
 have F17 := aqD (st := eqx) l17 ca17 ka17
 have F18 := aqD (st := dqO) l18 ca18 ka18
 have F19 := aqD (st := eqg) l19 ca19 ka19
 have F20 := aqD (st := aq7) l20 ca20 ka20
 have F21 := aqD (st := cqW) l21 ca21 ka21
 have F22 := aqD (st := cqz) l22 ca22 ka22
 have F23 := aqD (st := aq8) l23 ca23 ka23
 have F24 := aqD (st := bqf) l24 ca24 ka24
 have F25 := aqD (st := cqT) l25 ca25 ka25
 have F26 := aqD (st := bqT) l26 ca26 ka26
 have F27 := aqD (st := cqp) l27 ca27 ka27
 have F28 := aqD (st := cqq) l28 ca28 ka28
 have F29 := aqD (st := dqP) l29 ca29 ka29
 have F30 := aqD (st := bqB) l30 ca30 ka30
 have F31 := aqD (st := bqP) l31 ca31 ka31
 have F32 := aqD (st := bqE) l32 ca32 ka32
 have F33 := aqD (st := fqK) l33 ca33 ka33
 have F34 := aqD (st := cq0) l34 ca34 ka34
 have F35 := aqD (st := nqj) l35 ca35 ka35
 let g : G K mg := {
  eqM := f1, dqU := _, eqj := F1, fq1 := M a1,
  gqo := F1.binds (by walk_at "b2"),
  aqV := f2, aqO := _, bqp := F2, cqE := M a2,
  cqG := F2.binds (by walk_at "b1"),
  aqP := f3, aqJ := _, cqy := F3,
  bqm := F3.binds (by walk_at "b2"),
  fqG := f4, eqN := _, fqH := F4, hqr := M a4,
  hq5 := F4.binds (by walk_at "b1"),
  fqT := f5, eqA := _, fqS := F5, hqI := M a5,
  hqx := F5.binds (by walk_at "b1"),
  eqy := f6, dqV := _, dqu := F6, eqC := M a6,
  eqK := F6.binds (by walk_at "b1"),
  eqq := f7, dqI := _, eqo := F7, fq5 := M a7,
  gqa := F7.binds (by walk_at "b1"),
  eqw := f8, dqT := _, eqr := F8, gqd := M a8,
  gqq := F8.binds (by walk_at "b1"),
  bqD := f9, bqe := _, aqM := F9, aq1 := M a9,
  aqZ := F9.binds (by walk_at "b2"),
  cqs := f10, bqU := _, dqm := F10, fqo := M a10,
  fqs := F10.binds (by walk_at "b2"),
  cqh := f11, bqO := _, dqp := F11, fqk := M a11,
  fqn := F11.binds (by walk_at "b0"),
  cqR := f12, cqv := _, cqP := F12, eqa := M a12,
  dq8 := F12.binds (by walk_at "b1"),
  bqF := f13, bqk := _, aq0 := F13, bqt := M a13,
  bqs := F13.binds (by walk_at "b1"),
  bq1 := f14, bqu := _, cqQ := F14, eqn := M a14,
  eqe := F14.binds (by walk_at "b2"),
  dqH := f15, cq3 := _, fqa := F15, hqc := M a15,
  hqd := F15.binds (by walk_at "b2"),
  cqw := f16, bq0 := _, dqt := F16, fqg := M a16,
  fqp := F16.binds (by walk_at "b1"),
  eql := f17, dqK := _, gqc := F17, iqA := M a17,
  iqd := F17.binds (by walk_at "b1"),
  dqM := f18, dqa := _, eq5 := F18, gqO := M a18,
  gqW := F18.binds (by walk_at "b1"),
  eqF := f19, dqQ := _, fqX := F19, iqc := M a19,
  iqL := F19.binds (by walk_at "b1"),
  aq6 := f20, aqU := _, bqL := F20, dqe := M a20,
  dqc := F20.binds (by walk_at "b2"),
  cqU := f21, cqu := _, bqo := F21, bq8 := M a21,
  bq5 := F21.binds (by walk_at "b1"),
  cql := f22, bqZ := _, dqy := F22, fqq := M a22,
  fqi := F22.binds (by walk_at "b4"),
  aq4 := f23, aqS := _, aq3 := F23, bqM := M a23,
  bqK := F23.binds (by walk_at "b1"),
  bql := f24, aq5 := _, cqf := F24, dqk := M a24,
  dqC := F24.binds (by walk_at "b2"),
  cqS := f25, cqn := _, bq6 := F25, cqY := M a25,
  cq8 := F25.binds (by walk_at "b1"),
  bqW := f26, bqr := _, cq5 := F26, eqh := M a26,
  eqT := F26.binds (by walk_at "b1"),
  cqA := f27, bqV := _, dqB := F27, fqw := M a27,
  fql := F27.binds (by walk_at "b2"),
  cqo := f28, bqQ := _, dqF := F28, fqx := M a28,
  fqy := F28.binds (by walk_at "b2"),
  dqW := f29, cq4 := _, eq7 := F29, gqY := M a29,
  hqe := F29.binds (by walk_at "b2"),
  bqx := f30, bqc := _, cqC := F30, dq4 := M a30,
  dqY := F30.binds (by walk_at "b3"),
  bqY := f31, bqw := _, cqN := F31, eqk := M a31,
  eqY := F31.binds (by walk_at "b2"),
  bqy := f32, bqg := _, cqD := F32, dq2 := M a32,
  dq0 := F32.binds (by walk_at "b2"),
  fqN := f33, eqR := _, hqj := F33, jqE := M a33,
  jqS := F33.binds (by walk_at "b2"),
  cqZ := f34, cqr := _, cqa := F34, cqM := M a34,
  cq2 := F34.binds (by walk_at "b2"),
  lq8 := f35, iqM := _, qqz := F35, qqU := M a35,
  qqN := F35.binds (by walk_at "b1"),
  gqj := gqj, kq9 := W.mg_of X Gl e_SIGNS,
  aqR := aqR, dqi := W.mg_of X Gl e_SMALL_LETTERS,
  iqO := iqO, nqr := W.mg_of X Gl e_STAY,
  t_UP := t_UP, c_UP := W.mg_of X Gl e_UP,
  eqE := eqE, hqi := W.mg_of X Gl e_PIECES,
  eqJ := eqJ, jqK := W.mg_of X Gl e_CLOSES,
  aqY := aqY, dq3 := W.mg_of X Gl e_LONGEST_WORD,
  oqF := W.mg_none_of X Gl z_all,
  aqx := W.mg_none_of X Gl z_isinstance,
  nqs := W.mg_none_of X Gl z_bool,
  pqp := W.mg_none_of X Gl z_int,
  dqX := W.mg_none_of X Gl z_len,
  cq9 := W.mg_none_of X Gl z_range,
  jqO := W.mg_none_of X Gl z_list,
  lqS := W.mg_none_of X Gl z_str,
  fqm := W.mg_none_of X Gl z_ValueError,
  iq3 := W.mg_none_of X Gl z_tuple,
  qqt := W.mg_none_of X Gl z_zip,
  gqh := W.mg_none_of X Gl z_enumerate,
  gqT := W.mg_none_of X Gl z_reversed,
  qqv := W.mg_none_of X Gl z_set,
  jqD := W.mg_none_of X Gl z_sorted,
  hqJ := eC_NoRow, lqP := W.mg_of X Gl en_NoRow,
  fqF := eC_NoName, jqC := W.mg_of X Gl en_NoName,
  cqX := eC_NoPattern, fq0 := W.mg_of X Gl en_NoPattern,
  fqE := eC_NoBase, jq1 := W.mg_of X Gl en_NoBase,
  cq1 := eC_NoAddress, gqk := W.mg_of X Gl en_NoAddress,
  aqo := eC_NoValue, eqO := W.mg_of X Gl en_NoValue,
  dqJ := eC_WayError, gqS := W.mg_of X Gl en_WayError,
  gq4 := ⟨ew1_WayError, ew2_WayError, ew3_WayError⟩,
  bqH := ⟨el0_NoValue, el1_NoValue, el2_NoValue, el3_NoValue, el4_NoValue, el5_NoValue⟩,
  gqi := ⟨ey_NoValue, i3, ek_NoValue⟩,
  dqh := ⟨es_NoValue, eo_NoValue, ef_NoValue_name, eh_NoValue⟩,
  bq7 := ⟨⟨el0_NoValue, el1_NoValue, el2_NoValue, el3_NoValue, el4_NoValue, el5_NoValue⟩, ef_NoValue_name, eh_NoValue⟩,
  cqk := eu_NoValue_WayError,
  cqF := ei_NoValue_NoValue,
  bqN := ei_NoValue_ValueError,
  cqd := ei_NoValue_NoAddress,
  dqf := ei_NoValue_NoBase,
  cqb := ei_NoValue_NoPattern,
  dqd := ei_NoValue_NoName,
  dqA := ei_NoValue_NoRow }
 exact ⟨g.iqM, fun s v => .of_eq rfl, fun base _ _ => qqn g⟩
theorem walk {l : PySem.W.OpenLaw} {q : Program} {loose : List Str} {XP : (Str → Option Value) → Heap → Prop} {YP : World → Heap → Prop} {d : DefRec} {K : Params → W.Frag} (hn : l.most = some 63) (hdf : d.params.defaults = [])
  (hY : ∀ (w : World) (h : Heap), YP w h → (K w.params).In h)
  (F : ∀ (w : World) (mg : Str → Option Value) (fa : Addr) (h : Heap), (K w.params).In h → h.Ns mainGlobals mg → mg d.name = some (.ref fa) →
   ∃ fd : FuncData, (∀ (s : Shared) (u : Value), BindsTo s fd ⟨[u], []⟩ [("_law_script", u)]) ∧ ∀ base : Heap, (K w.params).In base → base.Ns mainGlobals mg → FnOk l.prog w (K w.params) mg base CX0 9 fa fd ["_law_script"] (jqU (K w.params))) :
  PySem.W.WalkO q loose XP YP l.row.toRowW d [] (fun f vs => PySem.call f vs) :=
 L2.oqN (n := 63) (k := 9) (x := "_law_script") (CX := fun _ => CX0) (sp := fun w => jqU (K w.params)) hn (by decide) hdf ⟨rfl, by decide, by decide⟩ hY F (fun _ _ a ns hl _ hS => ⟨a, ns, rfl, hS, hl, fun _ => rfl⟩) fun _ _ _ _ _ z => z
end Wm
theorem PySem.W.Fast.tw12503321719952123233 : True := trivial
theorem PySem.W.Fast.tw10262724486307937881 : True := trivial
theorem PySem.W.Fast.tw3830716085550901003 : True := trivial
theorem PySem.W.Fast.tw1048446135824564787 : True := trivial
theorem PySem.W.Fast.tw17777170487839848534 : True := trivial
theorem PySem.W.Fast.tw7115009675023823282 : True := trivial
theorem PySem.W.Fast.tw2008705585376401500 : True := trivial
theorem PySem.W.Fast.tw480740689649101325 : True := trivial
theorem PySem.W.Fast.tw803856440786123308 : True := trivial
theorem PySem.W.Fast.tw10061167410940352356 : True := trivial
theorem PySem.W.Fast.tw3542020038493837934 : True := trivial
theorem PySem.W.Fast.tw5158923512708599235 : True := trivial
theorem PySem.W.Fast.tw306765468881561274 : True := trivial
theorem PySem.W.Fast.tw3198731747155030618 : True := trivial
theorem PySem.W.Fast.tw4082184995700996707 : True := trivial
theorem PySem.W.Fast.tw2150759941525152531 : True := trivial
theorem PySem.W.Fast.tw1807006710328562706 : True := trivial
theorem PySem.W.Fast.tw14220250901955747198 : True := trivial
theorem PySem.W.Fast.tw8190033330516010780 : True := trivial
theorem PySem.W.Fast.tw13656991610152322385 : True := trivial
theorem PySem.W.Fast.tw6259189476217061292 : True := trivial
theorem PySem.W.Fast.tw17221054112559317781 : True := trivial
theorem PySem.W.Fast.tw14555696972982006930 : True := trivial
theorem PySem.W.Fast.tw15509293748776483060 : True := trivial
theorem PySem.W.Fast.tw2562451868371840281 : True := trivial
theorem PySem.W.Fast.tw14830062334012239721 : True := trivial
theorem PySem.W.Fast.tw16792860843223389223 : True := trivial
theorem PySem.W.Fast.tw14157929163615439369 : True := trivial
theorem PySem.W.Fast.tw11085253355974984971 : True := trivial
theorem PySem.W.Fast.tw2641390624850678182 : True := trivial
theorem PySem.W.Fast.tw5578541483149767039 : True := trivial
theorem PySem.W.Fast.tw18246087334024450917 : True := trivial
theorem PySem.W.Fast.tw15677280069943318130 : True := trivial
theorem PySem.W.Fast.tw14466824059278635448 : True := trivial
theorem PySem.W.Fast.tw7944725649116145681 : True := trivial
theorem PySem.W.Fast.tw1947520887041664150 : True := trivial
theorem PySem.W.Fast.tw15172709348881455772 : True := trivial
theorem PySem.W.Fast.tw13538660272288204356 : True := trivial
theorem PySem.W.Fast.tw16553602091304594039 : True := trivial
theorem PySem.W.Fast.tw6720757620830242438 : True := trivial
theorem PySem.W.Fast.tw9288258515986102657 : True := trivial
theorem PySem.W.Fast.tw11949268352671995091 : True := trivial
theorem PySem.W.Fast.tw15869458381499759966 : True := trivial
theorem PySem.W.Fast.tw7004630553498296082 : True := trivial
theorem PySem.W.Fast.tw4761717897695026208 : True := trivial
theorem PySem.W.Fast.tw3420870120211396461 : True := trivial
theorem PySem.W.Fast.tw7215276072729652804 : True := trivial
theorem PySem.W.Fast.tw15420043407192266043 : True := trivial
theorem PySem.W.Fast.tw14131876629667598254 : True := trivial
theorem PySem.W.Fast.tw5960290785822036163 : True := trivial
theorem PySem.W.Fast.tw10436617845515036568 : True := trivial
theorem PySem.W.Fast.tw2898368739241823993 : True := trivial
theorem PySem.W.Fast.tw15286532068198657361 : True := trivial
theorem PySem.W.Fast.tw16586220544998259436 : True := trivial
theorem PySem.W.Fast.tw2659426957300738072 : True := trivial
theorem PySem.W.Fast.tw7861102659528963201 : True := trivial
theorem PySem.W.Fast.tw13385941402181162405 : True := trivial
theorem PySem.W.Fast.tw13758837026523621581 : True := trivial
theorem PySem.W.Fast.tw3250783695264988191 : True := trivial
theorem PySem.W.Fast.tw7396165616376537405 : True := trivial
theorem PySem.W.Fast.tw11793363904946567170 : True := trivial
theorem PySem.W.Fast.tw17874642188988554876 : True := trivial
theorem PySem.W.Fast.tw17580048641114207713 : True := trivial
theorem PySem.W.Fast.tw6013396822215838567 : True := trivial
theorem PySem.W.Fast.tw10425464550041144563 : True := trivial
theorem PySem.W.Fast.tw15133681210021538220 : True := trivial
theorem PySem.W.Fast.tw16990481884537323805 : True := trivial
theorem PySem.W.Fast.tw4618841173957219877 : True := trivial
theorem PySem.W.Fast.tw6900160277654201551 : True := trivial
theorem PySem.W.Fast.tw16856590181286269471 : True := trivial
theorem PySem.W.Fast.tw3296171231087631162 : True := trivial
theorem PySem.W.Fast.tw7619392079702449381 : True := trivial
theorem PySem.W.Fast.tw11278329863736925402 : True := trivial
theorem PySem.W.Fast.tw12709529403498379647 : True := trivial
theorem PySem.W.Fast.tw15128261204288368318 : True := trivial
theorem PySem.W.Fast.tw1342764984291349635 : True := trivial
theorem PySem.W.Fast.tw8060673469830519014 : True := trivial
theorem PySem.W.Fast.tw7311432002528573657 : True := trivial
theorem PySem.W.Fast.tw17700609761120151049 : True := trivial
theorem PySem.W.Fast.tw245551572910927383 : True := trivial
theorem PySem.W.Fast.tw4333176799632611109 : True := trivial
theorem PySem.W.Fast.tw16372312057478469435 : True := trivial
theorem PySem.W.Fast.tw12684205099034037304 : True := trivial
theorem PySem.W.Fast.tw7456249182054112126 : True := trivial
theorem PySem.W.Fast.tw6812909028479667190 : True := trivial
theorem PySem.W.Fast.tw2968962235880033598 : True := trivial
theorem PySem.W.Fast.tw7213519281484649500 : True := trivial
theorem PySem.W.Fast.tw15498816028529868736 : True := trivial
open PySem PySem.W PyProof.Rows
set_option maxRecDepth 100000 in
set_option maxHeartbeats 0 in
theorem PySem.Challenge.cw_waymark_k56_values_refused_holds : PySem.Challenge.rw_waymark_k56_values_refused.Holds := by
 w_on; o_law; k_head; (case hw => w_witness2)
 k_fill
 refine Wm.walk (l := PySem.Challenge.rw_waymark_k56_values_refused) rfl rfl (fun w h Y => PySem.W.kIn_of Y) ?F
 case F =>
  intro w mg fa h KX G hmg
  refine' Wm.pqA KX G hmg ?en_NoRow ?en_NoName ?en_NoPattern ?en_NoBase ?en_NoAddress ?en_NoValue ?en_WayError ?a1 ?l1 ?a2 ?l2 ?a3 ?i3 ?l3 ?a4 ?l4 ?a5 ?l5 ?a6 ?l6 ?a7 ?l7 ?a8 ?l8 ?a9 ?l9 ?a10 ?l10 ?a11 ?l11 ?a12 ?l12 ?a13 ?l13 ?a14 ?l14 ?a15 ?l15 ?a16 ?l16 ?a17 ?l17 ?a18 ?l18 ?a19 ?l19 ?a20 ?l20 ?a21 ?l21 ?a22 ?l22 ?a23 ?l23 ?a24 ?l24 ?a25 ?l25 ?a26 ?l26 ?a27 ?l27 ?a28 ?l28 ?a29 ?l29 ?a30 ?l30 ?a31 ?l31 ?a32 ?l32 ?a33 ?l33 ?a34 ?l34 ?a35 ?l35 ?e_SIGNS ?e_SMALL_LETTERS ?e_STAY ?e_UP ?e_PIECES ?e_CLOSES ?e_LONGEST_WORD ?z_all ?z_isinstance ?z_bool ?z_int ?z_len ?z_range ?z_list ?z_str ?z_ValueError ?z_tuple ?z_zip ?z_enumerate ?z_reversed ?z_set ?z_sorted ?ew1_WayError ?ew2_WayError ?ew3_WayError ?el0_NoValue ?el1_NoValue ?el2_NoValue ?el3_NoValue ?el4_NoValue ?el5_NoValue ?ey_NoValue ?ek_NoValue ?es_NoValue ?eo_NoValue ?eh_NoValue ?ef_NoValue_name ?eu_NoValue_WayError ?ei_NoValue_NoValue ?ei_NoValue_ValueError ?ei_NoValue_NoAddress ?ei_NoValue_NoBase ?ei_NoValue_NoPattern ?ei_NoValue_NoName ?ei_NoValue_NoRow ?kk ?cc
  (case en_NoRow | en_NoName | en_NoPattern | en_NoBase | en_NoAddress | en_NoValue | en_WayError => first | k_is | kit_is | with_unfolding_all kernel_rfl | with_unfolding_all rfl)
  (case a1 | l1 | a2 | l2 | a3 | i3 | l3 | a4 | l4 | a5 | l5 | a6 | l6 | a7 | l7 | a8 | l8 | a9 | l9 | a10 | l10 | a11 | l11 | a12 | l12 | a13 | l13 | a14 | l14 | a15 | l15 | a16 | l16 | a17 | l17 | a18 | l18 | a19 | l19 | a20 | l20 | a21 | l21 | a22 | l22 | a23 | l23 | a24 | l24 | a25 | l25 | a26 | l26 | a27 | l27 | a28 | l28 | a29 | l29 | a30 | l30 | a31 | l31 | a32 | l32 | a33 | l33 | a34 | l34 | a35 | l35 | e_SIGNS | e_SMALL_LETTERS | e_STAY | e_UP | e_PIECES | e_CLOSES | e_LONGEST_WORD | z_all | z_isinstance | z_bool | z_int | z_len | z_range | z_list | z_str | z_ValueError | z_tuple | z_zip | z_enumerate | z_reversed | z_set | z_sorted => k_is)
  (case ew1_WayError | ew2_WayError | ew3_WayError | el0_NoValue | el1_NoValue | el2_NoValue | el3_NoValue | el4_NoValue | el5_NoValue | ey_NoValue | ek_NoValue | es_NoValue | eo_NoValue | eh_NoValue | ef_NoValue_name | eu_NoValue_WayError | ei_NoValue_NoValue | ei_NoValue_ValueError | ei_NoValue_NoAddress | ei_NoValue_NoBase | ei_NoValue_NoPattern | ei_NoValue_NoName | ei_NoValue_NoRow => first | k_is | kit_is | with_unfolding_all kernel_rfl | with_unfolding_all rfl)
  (case kk | cc => first | k_is | with_unfolding_all kernel_rfl | with_unfolding_all rfl)
