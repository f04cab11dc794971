import PyProof.Rows.All
import Wide.All
import OpenK.AllK
import Wide.FinOn
import Lean
import PyProof.EqAt
import PyProof.EqKinds
import PyProof.TupleCall
import PySem.Challenge.RW_waymark_k52_texts_of_no_pattern
set_option Elab.async false
set_option linter.all false
set_option maxRecDepth 100000
namespace L2
open PySem PySem.Spec PyProof.Rows
abbrev Key := Sum Int Str
def keyIs : Key → Value → Bool
 | .inl k, v => Value.isInt k v
 | .inr x, v => Value.isStrOf x v
def keyH (w : World) : Key → Int
 | .inl k => hashInt k
 | .inr x => hashStr w x
theorem aqQ : ∀ {k : Key} {v : Value}, keyIs k v = true → (∃ i t, k = Sum.inl i ∧ v = Value.int i t) ∨ (∃ x t, k = Sum.inr x ∧ v = Value.str x t)
 | .inl i, v, h => by
  obtain ⟨t, e⟩ := Value.isInt_shape (k := i) (v := v) h
  exact .inl ⟨i, t, rfl, e⟩
 | .inr x, v, h => by
  obtain ⟨t, e⟩ := Value.isStrOf_shape (x := x) (v := v) h
  exact .inr ⟨x, t, rfl, e⟩
theorem qqR (a b : Int) : decide ((Sum.inl a : Key) = Sum.inl b) = (a == b) := by
 by_cases e : a = b
 ·subst e; simp
 ·have h : ¬ (Sum.inl a : Key) = Sum.inl b := fun q => e (Sum.inl.inj q)
  rw [decide_eq_false h]
  exact (beq_eq_false_iff_ne.mpr e).symm
theorem qqU (a b : Str) : decide ((Sum.inr a : Key) = Sum.inr b) = decide (a = b) := by
 by_cases e : a = b
 ·subst e; simp
 ·have h : ¬ (Sum.inr a : Key) = Sum.inr b := fun q => e (Sum.inr.inj q)
  rw [decide_eq_false h, decide_eq_false e]
theorem qqn (a : Int) (b : Str) : decide ((Sum.inl a : Key) = Sum.inr b) = false := decide_eq_false (fun q => nomatch q)
theorem rqs (a : Str) (b : Int) : decide ((Sum.inr a : Key) = Sum.inl b) = false := decide_eq_false (fun q => nomatch q)
def mixKind (prog : Program) (w : World) : PySem.KeyKind prog w Key where
 is := keyIs
 hash := keyH w
 inj := fun v a b ha hb => by
  rcases aqQ ha with ⟨i, t, rfl, rfl⟩ | ⟨x, t, rfl, rfl⟩
  ·rcases aqQ hb with ⟨j, u, rfl, e⟩ | ⟨y, u, rfl, e⟩
   ·injection e with e1 _; rw [e1]
   ·exact nomatch e
  ·rcases aqQ hb with ⟨j, u, rfl, e⟩ | ⟨y, u, rfl, e⟩
   ·exact nomatch e
   ·injection e with e1 _; rw [e1]
 byValue := fun k v h => by
  rcases aqQ h with ⟨i, t, rfl, rfl⟩ | ⟨x, t, rfl, rfl⟩ <;> rfl
 pyHash := fun hv h => by
  rcases aqQ hv with ⟨i, t, rfl, rfl⟩ | ⟨x, t, rfl, rfl⟩
  ·exact wpAny_pyHash_int h
  ·exact wpAny_pyHash_str h
 eqBool := fun hu hv h => by
  rcases aqQ hu with ⟨i, t, rfl, rfl⟩ | ⟨x, t, rfl, rfl⟩
  ·rcases aqQ hv with ⟨j, u, rfl, rfl⟩ | ⟨y, u, rfl, rfl⟩
   ·rw [qqR] at h; exact wpAny_eqBool_int h
   ·rw [qqn] at h; exact SeqAt.EqAt.int_str i t y u _ _ _ _ h
  ·rcases aqQ hv with ⟨j, u, rfl, rfl⟩ | ⟨y, u, rfl, rfl⟩
   ·rw [rqs] at h; exact SeqAt.EqAt.str_int x t j u _ _ _ _ h
   ·rw [qqU] at h; exact wpAny_eqBool_str h
 «strs» := fun k x t v h => by
  rcases aqQ h with ⟨i, u, rfl, e⟩ | ⟨y, u, rfl, e⟩
  ·exact nomatch e
  ·injection e with e1 _
   subst e1
   cases v <;> rfl
inductive V where
 | non | bl (b : Bool) | int (i : Int) | str (x : Str) | byt (b : Array UInt8) | flt (b : UInt64) | ref (a : Addr) | ty (n : String)
 deriving DecidableEq
def RelV : V → Value → Prop
 | .non, u => u = Value.none
 | .bl b, u => u = Value.bool b
 | .int i, u => ∃ t, u = Value.int i t
 | .str x, u => ∃ t, u = Value.str x t
 | .byt b, u => ∃ t, u = Value.bytes b t
 | .flt b, u => ∃ t, u = Value.float b t
 | .ref a, u => u = Value.ref a
 | .ty n, u => u = Value.type n
abbrev Vals : List V → List Value → Prop := Paired RelV
theorem Vals.length {xs : List V} {us : List Value} (r : Vals xs us) : xs.length = us.length := Paired.length r
theorem Vals.get : ∀ {xs : List V} {us : List Value} {i : Nat} {x : V}, Vals xs us → xs[i]? = some x → ∃ u, us[i]? = some u ∧ RelV x u
 | _, _, _, _, .nil, e => by simp at e
 | _, _, 0, _, .cons r _, e => by simp at e; subst e; exact ⟨_, rfl, r⟩
 | _, _, i + 1, x, .cons _ t, e => by
  obtain ⟨u, h1, h2⟩ := Vals.get (i := i) (x := x) t (by simpa using e)
  exact ⟨u, by simpa using h1, h2⟩
theorem Vals.set {x : V} {u : Value} (r : RelV x u) : ∀ {xs : List V} {us : List Value} (i : Nat), Vals xs us → Vals (xs.set i x) (us.set i u)
 | _, _, _, .nil => .nil
 | _, _, 0, .cons _ t => .cons r t
 | _, _, i + 1, .cons q t => .cons q (Vals.set r i t)
theorem Vals.append : ∀ {xs ys : List V} {us ws : List Value}, Vals xs us → Vals ys ws → Vals (xs ++ ys) (us ++ ws)
 | _, _, _, _, .nil, s => s
 | _, _, _, _, .cons r t, s => .cons r (Vals.append t s)
theorem Vals.take : ∀ {xs : List V} {us : List Value} (n : Nat), Vals xs us → Vals (xs.take n) (us.take n)
 | _, _, 0, _ => .nil
 | _, _, _ + 1, .nil => .nil
 | _, _, n + 1, .cons r t => .cons r (Vals.take n t)
theorem Vals.drop : ∀ {xs : List V} {us : List Value} (n : Nat), Vals xs us → Vals (xs.drop n) (us.drop n)
 | _, _, 0, r => r
 | _, _, _ + 1, .nil => .nil
 | _, _, n + 1, .cons _ t => Vals.drop n t
def RelO : Option V → Option Value → Prop
 | some v, some u => RelV v u
 | none, none => True
 | _, _ => False
def KV {κ : Type} : List (κ × V) → List (κ × Value) → Prop := Paired fun (p : κ × V) (q : κ × Value) => p.1 = q.1 ∧ RelV p.2 q.2
def kV : Key → V
 | .inl i => .int i
 | .inr x => .str x
inductive HO where
 | lst (xs : List V)
 | tup (xs : List V)
 | dK (kvs : List (Key × V)) | dT (kvs : List (List Key × V))
 | set (S : Int → Bool) (n : Nat)
 | ins (C dx : Addr) (fs : List (Str × V))
 | own (x : Addr)
 | xd (fs : List (Str × V))
 | met (f x : Addr)
 | rng (lo hi : Int)
 | frz (o : Obj) (u : HO)
 | tbl (ps : Array Value)
 | ext (φ : Heap → Prop)
abbrev Hp := Addr → Option HO
def upd (H : Hp) (a : Addr) (o : HO) : Hp := fun b => if b = a then some o else H b
theorem aqk {H : Hp} {a : Addr} {o : HO} : upd H a o a = some o := by unfold upd; rw [if_pos rfl]
theorem aqw {H : Hp} {a b : Addr} {o : HO} (h : b ≠ a) : upd H a o b = H b := by unfold upd; rw [if_neg h]
theorem rqU {H : Hp} {a b : Addr} {o u : HO} (h : H a = some o) (h' : H b = some u) (d : o ≠ u) : a ≠ b := by
 intro e; subst e; rw [h] at h'; exact d (Option.some.inj h')
theorem aqo {H : Hp} {a b : Addr} {o : HO} (h : H a = some o) (h' : H b = none) : a ≠ b := by
 intro e; subst e; rw [h] at h'; cases h'
section
variable (P : Program) (w : World)
def ObjOk (H : Hp) (h : Heap) (a : Addr) : HO → Prop
 | .lst xs => xs.length ≤ sizeLine ∧ ∃ (its : List Value) (n : Nat), Vals xs its ∧ h.get? a = some { cls := .type "list", data := .seq its.toArray n }
 | .tup xs => xs.length ≤ sizeLine ∧ ∃ its : List Value, Vals xs its ∧ IsTup h a its.toArray
 | .dK kvs => kvs.length ≤ sizeLine ∧ (a == sysModules) = false ∧ ∃ vs, KV kvs vs ∧ h.DictOf (mixKind P w) a vs
 | .dT kvs => kvs.length ≤ sizeLine ∧ (a == sysModules) = false ∧ ∃ xs : List (List Key × Addr × Value),
   Paired (fun (p : List Key × V) (q : List Key × Addr × Value) => p.1 = q.1 ∧ H q.2.1 = some (.tup (p.1.map kV)) ∧ RelV p.2 q.2.2) kvs xs ∧
   ∃ o es ep, h.get? a = some o ∧ o.ExactDict ∧ o.data = .dict es ep ∧ es.toList = xs.map (entryOfKey (tupleKind (mixKind P w))) ∧ (xs.map (·.1)).Nodup
 | .set S n => h.SetOf (intKind P w) a S n
 | .ins C dx fs => H dx = some (.own a) ∧ fs.length ≤ 1000 ∧ dx ≠ a ∧ h.get? a = some (PySem.W.instObj C dx) ∧
   ∃ mA, h.Ns1 dx mA ∧ (∀ f, RelO (fs.lookup f) (mA f)) ∧ PySem.Within mA (fs.map (·.1))
 | .own _ => ∃ o, h.get? a = some o
 | .xd fs => ∃ mA, h.Ns1 a mA ∧ ∀ f, RelO (fs.lookup f) (mA f)
 | .rng lo hi => ∃ t u v, h.get? a = some { cls := .type "range", data := .fields #[.int lo t, .int hi u, .int 1 v] }
 | .frz o u => h.get? a = some o ∧ ObjOk H h a u
 | .tbl ps => h.get? a = some { cls := .none, data := .fields ps }
 | .met f x => h.get? a = some (PySem.W.methodObj (.ref f) (.ref x))
 | .ext φ => φ h ∧ (∃ o, h.get? a = some o) ∧ ∀ h1 h2 : Heap, φ h1 → (∀ o, h1.get? a = some o → h2.get? a = some o) → φ h2
def HOk (H : Hp) (h : Heap) : Prop := ∀ a o, H a = some o → ObjOk P w H h a o
end
section
variable {P : Program} {w : World} {H H' : Hp} {h h' : Heap} {a : Addr} {o : HO}
theorem ObjOk.lt (x : ObjOk P w H h a o) : a < h.objs.size := by
 cases o with
 | lst xs => obtain ⟨_, _, _, _, e⟩ := x; exact Heap.lt_size e
 | tup xs => obtain ⟨_, _, _, p⟩ := x; exact p.lt
 | dK kvs => obtain ⟨_, _, _, _, o, _, _, e, _⟩ := x; exact Heap.lt_size e
 | dT kvs => obtain ⟨_, _, _, _, o, _, _, e, _⟩ := x; exact Heap.lt_size e
 | set S n => obtain ⟨o, _, _, _, e, _⟩ := x; exact Heap.lt_size e
 | ins C dx fs => obtain ⟨_, _, _, e, _⟩ := x; exact Heap.lt_size e
 | own y => obtain ⟨_, e⟩ := x; exact Heap.lt_size e
 | xd fs => obtain ⟨_, ⟨_, _, _, e, _⟩, _⟩ := x; exact Heap.lt_size e
 | rng lo hi => obtain ⟨_, _, _, e⟩ := x; exact Heap.lt_size e
 | frz ob u => obtain ⟨e, _⟩ := x; exact Heap.lt_size e
 | tbl ps => exact Heap.lt_size (show h.get? a = some _ from x)
 | met f y => exact Heap.lt_size (show h.get? a = some _ from x)
 | ext φ => obtain ⟨_, ⟨_, e⟩, _⟩ := x; exact Heap.lt_size e
theorem Paired.mapP {α β : Type} {F G : α → β → Prop} : ∀ {l₁ : List α} {l₂ : List β}, Paired F l₁ l₂ → (∀ a b, F a b → G a b) → Paired G l₁ l₂
 | _, _, .nil, _ => .nil
 | _, _, .cons r t, f => .cons (f _ _ r) (Paired.mapP t f)
theorem ObjOk.stay (x : ObjOk P w H h a o) (k : ∀ b u, (b = a ∨ H b = some (.own a)) → h.get? b = some u → h'.get? b = some u)
  (ho : ∀ b, H b = some (.own a) → H' b = some (.own a)) (ht : ∀ b xs, H b = some (.tup xs) → H' b = some (.tup xs)) : ObjOk P w H' h' a o := by
 induction o with
 | lst xs => obtain ⟨z, its, n, r, e⟩ := x; exact ⟨z, its, n, r, k _ _ (.inl rfl) e⟩
 | tup xs => obtain ⟨z, its, r, ob, e, c⟩ := x; exact ⟨z, its, r, ob, k _ _ (.inl rfl) e, c⟩
 | dK kvs => obtain ⟨z, y, vs, r, ob, es, ep, e, c⟩ := x; exact ⟨z, y, vs, r, ob, es, ep, k _ _ (.inl rfl) e, c⟩
 | dT kvs =>
  obtain ⟨z, y, xs, r, ob, es, ep, e, c⟩ := x
  exact ⟨z, y, xs, Paired.mapP r fun p q z => ⟨z.1, ht _ _ z.2.1, z.2.2⟩, ob, es, ep, k _ _ (.inl rfl) e, c⟩
 | set S n => obtain ⟨ob, es, ep, t, e, c⟩ := x; exact ⟨ob, es, ep, t, k _ _ (.inl rfl) e, c⟩
 | ins C dx fs =>
  obtain ⟨d, z, ne, e, mA, ⟨od, es, ep, e2, c⟩, r⟩ := x
  exact ⟨ho _ d, z, ne, k _ _ (.inl rfl) e, mA, ⟨od, es, ep, k _ _ (.inr d) e2, c⟩, r⟩
 | own y => obtain ⟨ob, e⟩ := x; exact ⟨ob, k _ _ (.inl rfl) e⟩
 | xd fs => obtain ⟨mA, ⟨od, es, ep, e, c⟩, r⟩ := x; exact ⟨mA, ⟨od, es, ep, k _ _ (.inl rfl) e, c⟩, r⟩
 | rng lo hi => obtain ⟨t, u, v, e⟩ := x; exact ⟨t, u, v, k _ _ (.inl rfl) e⟩
 | frz ob u ih => obtain ⟨e, q⟩ := x; exact ⟨k _ _ (.inl rfl) e, ih q⟩
 | tbl ps =>
  have e : h.get? a = some { cls := .none, data := .fields ps } := x
  show h'.get? a = some { cls := .none, data := .fields ps }
  exact k a _ (.inl rfl) e
 | met f y =>
  have e : h.get? a = some (PySem.W.methodObj (.ref f) (.ref y)) := x
  show h'.get? a = some (PySem.W.methodObj (.ref f) (.ref y))
  exact k a _ (.inl rfl) e
 | ext φ => obtain ⟨p, ⟨o, e⟩, st⟩ := x; exact ⟨st _ _ p fun o q => k _ _ (.inl rfl) q, ⟨o, k _ _ (.inl rfl) e⟩, st⟩
theorem HOk.lt (x : HOk P w H h) (e : H a = some o) : a < h.objs.size := (x a o e).lt
theorem HOk.fresh (x : HOk P w H h) (e : h.objs.size ≤ a) : H a = none := by
 cases q : H a with
 | none => rfl
 | some u => exact absurd (Nat.lt_of_lt_of_le (x.lt q) e) (Nat.lt_irrefl _)
theorem HOk.kept (x : HOk P w H h) (k : ∀ b u, h.get? b = some u → h'.get? b = some u) : HOk P w H h' := fun a o e =>
 (x a o e).stay (fun b u _ q => k b u q) (fun _ q => q) fun _ _ q => q
theorem HOk.laid (x : HOk P w H h) (k : ∀ b u, h.get? b = some u → h'.get? b = some u) (hp : h.objs.size ≤ a) (new : ObjOk P w (upd H a o) h' a o) : HOk P w (upd H a o) h' := fun b u e => by
 have hn := x.fresh hp
 by_cases hb : b = a
 ·subst hb; rw [aqk] at e; cases e; exact new
 ·rw [aqw hb] at e
  exact (x b u e).stay (fun c v _ q => k c v q) (fun c q => by rw [aqw (aqo q hn)]; exact q) fun c xs q => by rw [aqw (aqo q hn)]; exact q
end
def Rd (H : Hp) (a : Addr) (u : HO) : Prop := H a = some u ∨ ∃ o, H a = some (.frz o u)
theorem Rd.ok {P : Program} {w : World} {H : Hp} {h : Heap} {a : Addr} {u : HO} (r : Rd H a u) (x : HOk P w H h) : ObjOk P w H h a u := by
 rcases r with r | ⟨o, r⟩
 ·exact x a u r
 ·obtain ⟨_, q⟩ := x a _ r
  exact q
def Mut : Option HO → Prop
 | some (.lst _) => True
 | some (.dK _) => True
 | some (.dT _) => True
 | some (.set _ _) => True
 | some (.ins _ _ _) => True
 | some (.ext _) => True
 | _ => False
section
variable {P : Program} {w : World} {H : Hp} {h h' : Heap} {x e : Addr} {o' : HO}
theorem HOk.write (ok : HOk P w H h) (mu : Mut (H x)) (he : e = x ∨ H e = some (.own x)) (k : ∀ b u, b ≠ e → h.get? b = some u → h'.get? b = some u) (heo : ∃ u, h'.get? e = some u)
  (new : ObjOk P w (upd H x o') h' x o') : HOk P w (upd H x o') h' := fun b u q => by
 have nown : ∀ c y, H c = some (.own y) → c ≠ x := fun c y r z => by subst z; rw [r] at mu; exact mu
 have ntup : ∀ c xs, H c = some (.tup xs) → c ≠ x := fun c xs r z => by subst z; rw [r] at mu; exact mu
 by_cases hb : b = x
 ·subst hb; rw [aqk] at q; cases q; exact new
 ·rw [aqw hb] at q
  by_cases hbe : b = e
  ·have q' : H b = some (.own x) := by
    rcases he with z | z
    ·exact absurd (hbe.trans z) hb
    ·rw [hbe]; exact z
   rw [q] at q'; cases q'
   obtain ⟨v, hv⟩ := heo
   exact ⟨v, by rw [hbe]; exact hv⟩
  ·refine (ok b u q).stay (fun c v hc r => k c v ?_ r) (fun c r => by rw [aqw (nown c b r)]; exact r) fun c xs r => by rw [aqw (ntup c xs r)]; exact r
   rcases hc with rfl | hc
   ·exact hbe
   ·rintro rfl
    rcases he with z | z
    ·exact nown c b hc z
    ·rw [hc] at z; cases z; exact hb rfl
end
structure Un (fs ex : List Addr) (H H' : Hp) (h h' : Heap) : Prop where
 keep : ∀ b o, h.get? b = some o → H b = none → b ∉ fs → b ∉ ex → h'.get? b = some o
 slot : ∀ b o, h.get? b = some o → H b = none → b ∈ fs → b ∉ ex → ∃ sl, h'.get? b = some { o with slots := sl }
 free : ∀ b o, h.get? b = some o → H b = none → b ∉ ex → H' b = none
 there : ∀ b o, h.get? b = some o → b ∉ ex → ∃ o', h'.get? b = some o'
 tups : ∀ b xs, H b = some (.tup xs) → H' b = some (.tup xs)
 frzs : ∀ b o u, H b = some (.frz o u) → H' b = some (.frz o u)
 tbls : ∀ b ps, H b = some (.tbl ps) → ∃ more, H' b = some (.tbl (ps ++ more))
section
variable {fs fs' ex ex' : List Addr} {H H1 H2 : Hp} {h h1 h2 h' : Heap} {a x e : Addr} {o : HO}
theorem Un.any (u : Un fs ex H H1 h h1) {b : Addr} {ob : Obj} (q : h.get? b = some ob) (n : H b = none) (hx : b ∉ ex) : ∃ sl, h1.get? b = some { ob with slots := sl } := by
 by_cases hb : b ∈ fs
 ·exact u.slot b ob q n hb hx
 ·exact ⟨ob.slots, u.keep b ob q n hb hx⟩
theorem Un.kept (k : ∀ b u, h.get? b = some u → h'.get? b = some u) : Un fs ex H H h h' :=
 ⟨fun b ob q _ _ _ => k b ob q, fun b ob q _ _ _ => ⟨ob.slots, k b ob q⟩, fun _ _ _ n _ => n, fun b ob q _ => ⟨ob, k b ob q⟩, fun _ _ q => q, fun _ _ _ q => q, fun _ ps q => ⟨#[], by rw [q]; simp⟩⟩
theorem Un.refl : Un fs ex H H h h := Un.kept fun _ _ q => q
theorem Un.laid (k : ∀ b u, h.get? b = some u → h'.get? b = some u) (hp : h.objs.size ≤ a) (hn : H a = none) : Un fs ex H (upd H a o) h h' where
 keep := fun b u q _ _ _ => k b u q
 slot := fun b u q _ _ _ => ⟨u.slots, k b u q⟩
 free := fun b u q n _ => by rw [aqw (Nat.ne_of_lt (Nat.lt_of_lt_of_le (Heap.lt_size q) hp))]; exact n
 there := fun b u q _ => ⟨u, k b u q⟩
 tups := fun b xs q => by rw [aqw (aqo q hn)]; exact q
 frzs := fun b u xs q => by rw [aqw (aqo q hn)]; exact q
 tbls := fun b ps q => ⟨#[], by rw [aqw (aqo q hn), q]; simp⟩
theorem Un.write (mu : Mut (H x)) (he : e = x ∨ H e = some (.own x)) (k : ∀ b u, b ≠ e → h.get? b = some u → h'.get? b = some u) (heo : ∃ u, h'.get? e = some u) : Un fs ex H (upd H x o) h h' := by
 have hx : ∀ b, H b = none → b ≠ x := fun b n z => by subst z; rw [n] at mu; exact mu
 have hb : ∀ b, H b = none → b ≠ e := fun b n z => by
  subst z
  rcases he with r | r
  ·exact hx b n r
  ·rw [n] at r; cases r
 have hm : ∀ b u, H b = some u → ¬ Mut (some u) → b ≠ x := fun b u q nm z => by subst z; rw [q] at mu; exact nm mu
 refine ⟨fun b u q n _ _ => k b u (hb b n) q, fun b u q n _ _ => ⟨u.slots, k b u (hb b n) q⟩, fun b u q n _ => by rw [aqw (hx b n)]; exact n, fun b u q _ => ?_,
  fun b xs q => by rw [aqw (hm b _ q fun z => z)]; exact q, fun b u xs q => by rw [aqw (hm b _ q fun z => z)]; exact q, fun b ps q => ⟨#[], by rw [aqw (hm b _ q fun z => z), q]; simp⟩⟩
 by_cases hbe : b = e
 ·subst hbe; exact heo
 ·exact ⟨u, k b u hbe q⟩
end
def trk (h : Heap) (H : Hp) : List Addr := (List.range h.objs.size).filter fun a => (H a).isSome
def hidT (h : Heap) (H : Hp) : Heap := PySem.W.hideAll h (trk h H)
theorem mqf (h : Heap) (H : Hp) : (hidT h H).objs.size = h.objs.size := PySem.W.hideAll_size _ _
theorem nqa {h : Heap} {H : Hp} {b : Addr} {o : Obj} (e : h.get? b = some o) (n : H b = none) : (hidT h H).get? b = some o :=
 PySem.W.hideAll_get _ e fun hm => by
  have q : (H b).isSome = true := (List.mem_filter.mp hm).2
  rw [n] at q; simp at q
theorem oq0 {h : Heap} {H : Hp} {b : Addr} {o : Obj} (e : (hidT h H).get? b = some o) : h.get? b = some o ∧ H b = none := by
 have e' : h.get? b = some o := PySem.W.of_hideAll (trk h H) e
 refine ⟨e', ?_⟩
 cases q : H b with
 | none => rfl
 | some x =>
  have hm : b ∈ trk h H := List.mem_filter.mpr ⟨List.mem_range.mpr (Heap.lt_size e'), by simp [q]⟩
  have z : (hidT h H).get? b = none := PySem.W.hideAll_none (trk h H) hm
  rw [z] at e; cases e
def allNews (g h : Heap) (L : Addr) : List (Addr × Obj) := (List.range h.objs.size).filterMap fun a => if a = L ∨ (g.get? a).isSome = true then none else (h.get? a).map fun o => (a, o)
def rest (g h : Heap) (L d : Addr) : List (Addr × Obj) := (allNews g h L).filter fun p => decide (p.1 ≠ d)
structure Mod (K : PySem.W.Frag) (mg : Str → Option Value) (base : Heap) : Prop where
 kin : K.In base
 glob : base.Ns mainGlobals mg
 blt : ∃ mb, base.Ns builtinsNs mb ∧ ∀ x : Str, x ≠ "__name__" → mb x = bootBuiltins x
 nolimit : base.NoLimit
structure Cx where
 prog : Program
 w : World
 K : PySem.W.Frag
 mg : Str → Option Value
 base : Heap
 A : Around
 N : List Str
 s₀ : Shared
 H₀ : Hp
 env : Env
 outer : List Env
 stack : List Env
 ex : List Addr
 fn : Str → Bool
 calm : Bool
 pn : List (Addr × Obj)
 xe : Value → Shared → Prop
def frs (l : List Env) : List Addr := l.filterMap (·.frame)
abbrev Cx.fs (X : Cx) : List Addr := frs X.outer
def Vis (sc : Scope) (x : Str) : Prop := sc.names.lookup x = some .local ∨ sc.names.lookup x = some .cell ∨ sc.names.lookup x = some .free
def Loc (sc : Scope) (x : Str) : Prop := sc.names.lookup x = some .local ∨ sc.names.lookup x = some .cell
def Look (env : Env) (h : Heap) (m : Str → Option Value) (x : Str) (u : Value) : Prop :=
 (env.kindOf x = some .local ∧ m x = some u) ∨ ((env.kindOf x = some .cell ∨ env.kindOf x = some .free) ∧ ∃ c, env.cells.lookup x = some c ∧ h.IsCell c (some u))
structure Cx.Ok (X : Cx) : Prop where
 mod : Mod X.K X.mg X.base
 kind : X.env.scope.kind = .function
 glob : X.env.globals = mainGlobals
 blt : X.env.builtins = builtinsNs
 above : X.s₀.heap.objs.size ≤ X.env.locals
 inj : ∀ x y c, X.env.cells.lookup x = some c → X.env.cells.lookup y = some c → x = y
 has : ∀ x, (X.env.kindOf x = some .cell ∨ X.env.kindOf x = some .free) → ∃ c, X.env.cells.lookup x = some c
 cab : ∀ x c, X.fn x = true → X.env.cells.lookup x = some c → X.s₀.heap.objs.size ≤ c
 hd : X.calm = true → X.A.handled = none
 frames : X.A.frames = some X.stack
 stk : X.stack = X.outer ∨ (X.stack = X.env :: X.outer ∧ X.env.frame = some X.env.locals)
 exf : ∀ b ∈ X.ex, b ≠ X.env.locals ∧ ∀ x c, X.env.cells.lookup x = some c → c ≠ b
 bs : ∀ b o, X.base.get? b = some o → X.s₀.heap.get? b = some o ∧ X.H₀ b = none
 bsz : X.base.objs.size ≤ X.s₀.heap.objs.size
 noex : ∀ b o, X.base.get? b = some o → b ∉ X.ex
 exfs : ∀ b ∈ X.ex, b ∉ X.fs
 funs : X.s₀.heap.FunFrames X.base X.outer
 frf : ∀ b ∈ X.fs, X.H₀ b = none
structure Inv (X : Cx) (pins : List (Addr × Obj)) (σ : List (Option V)) (H : Hp) (s : Shared) : Prop where
 ok : X.Ok
 os : s.os = X.s₀.os
 bare : AllBare s.gens
 base : Un X.fs X.ex X.H₀ H X.s₀.heap s.heap
 loc : ∃ m, s.heap.Ns X.env.locals m ∧ ∀ (i : Nat) (x : Str) (v : V), X.N[i]? = some x → σ[i]? = some (some v) → Vis X.env.scope x → ∃ u, RelV v u ∧ Look X.env s.heap m x u
 cell : ∀ x c, X.env.cells.lookup x = some c → ∃ v, s.heap.IsCell c v
 free : H X.env.locals = none
 freeC : ∀ x c, X.env.cells.lookup x = some c → H c = none
 pin : ∀ p ∈ X.pn ++ pins, s.heap.get? p.1 = some p.2 ∧ H p.1 = none ∧ p.1 ≠ X.env.locals ∧ p.1 ∉ X.fs ∧ ∀ v, p.2.data ≠ .cell v
 hok : HOk X.prog X.w H s.heap
 len : σ.length = X.N.length
section
variable {X : Cx} {pins : List (Addr × Obj)} {σ : List (Option V)} {H H' : Hp} {s : Shared} {h' : Heap}
theorem Cx.Ok.nofr (ok : X.Ok) {b : Addr} {o : Obj} (e : X.base.get? b = some o) : b ∉ X.fs := fun hb => by
 have := (ok.funs.mem hb).1
 rw [e] at this; cases this
theorem Inv.bs (I : Inv X pins σ H s) : ∀ b o, X.base.get? b = some o → s.heap.get? b = some o ∧ H b = none := fun b o e =>
 ⟨I.base.keep b o (I.ok.bs b o e).1 (I.ok.bs b o e).2 (I.ok.nofr e) (I.ok.noex b o e), I.base.free b o (I.ok.bs b o e).1 (I.ok.bs b o e).2 (I.ok.noex b o e)⟩
theorem Inv.bk (I : Inv X pins σ H s) : ∀ b o, X.base.get? b = some o → s.heap.get? b = some o := fun b o e => (I.bs b o e).1
theorem Inv.mod (I : Inv X pins σ H s) : Mod X.K X.mg X.base := I.ok.mod
theorem Inv.kIn (I : Inv X pins σ H s) : X.K.In s.heap := I.ok.mod.kin.keeps I.bk
theorem Inv.lt (I : Inv X pins σ H s) : X.env.locals < s.heap.objs.size := let ⟨_, hn, _⟩ := I.loc; hn.lt
theorem Inv.sz (I : Inv X pins σ H s) : X.s₀.heap.objs.size ≤ s.heap.objs.size := Nat.le_trans I.ok.above (Nat.le_of_lt I.lt)
theorem Inv.nofs (I : Inv X pins σ H s) {a : Addr} (h : s.heap.objs.size ≤ a) : a ∉ X.fs := fun hb => by
 obtain ⟨_, o, ho, _⟩ := I.ok.funs.mem hb
 exact absurd (Nat.lt_of_lt_of_le (Heap.lt_size ho) (Nat.le_trans I.sz h)) (Nat.lt_irrefl _)
theorem Inv.cne (I : Inv X pins σ H s) : ∀ x c, X.env.cells.lookup x = some c → c ≠ X.env.locals := fun x c e z => by
 obtain ⟨v, o, ho, hd⟩ := I.cell x c e
 obtain ⟨m, ⟨o', es, ep, ho', hd', _⟩, _⟩ := I.loc
 rw [z, ho'] at ho; cases ho; rw [hd'] at hd; cases hd
theorem Inv.funs (I : Inv X pins σ H s) : s.heap.FunFrames X.base X.outer := by
 have all : ∀ (l : List Env), (∀ b ∈ frs l, b ∈ X.fs) → X.s₀.heap.FunFrames X.base l → s.heap.FunFrames X.base l := by
  intro l
  induction l with
  | nil => intro _ _; trivial
  | cons env r ih =>
   intro hs hl
   obtain ⟨hk, ⟨L, o, hf, hn, ho, hd⟩, hr⟩ := hl
   have hL : L ∈ X.fs := hs L (by unfold frs; rw [List.filterMap_cons, hf]; exact List.mem_cons_self)
   obtain ⟨sl, e⟩ := I.base.slot L o ho (I.ok.frf L hL) hL fun z => I.ok.exfs L z hL
   exact ⟨hk, ⟨L, _, hf, hn, e, hd⟩, ih (fun b hb => hs b (by unfold frs; rw [List.filterMap_cons, hf]; exact List.mem_cons_of_mem _ hb)) hr⟩
 exact all X.outer (fun _ hb => hb) I.ok.funs
theorem Inv.stack (I : Inv X pins σ H s) : s.heap.FunFrames X.base X.stack := by
 rcases I.ok.stk with e | ⟨e, hf⟩
 ·rw [e]; exact I.funs
 ·rw [e]
  obtain ⟨m, hn, _⟩ := I.loc
  refine .cons (by rw [I.ok.kind]; decide) hf hn ?_ I.funs
  exact Heap.get?_none_of_le (Nat.le_trans I.ok.bsz I.ok.above)
theorem Inv.stkSub (I : Inv X pins σ H s) : ∀ b ∈ frs X.stack, b ∈ X.env.locals :: X.fs := fun b hb => by
 rcases I.ok.stk with e | ⟨e, hf⟩
 ·rw [e] at hb; exact List.mem_cons_of_mem _ hb
 ·rw [e] at hb
  unfold frs at hb
  rw [List.filterMap_cons, hf] at hb
  exact hb
theorem Inv.stkFree (I : Inv X pins σ H s) : ∀ b ∈ frs X.stack, H b = none := fun b hb => by
 rcases List.mem_cons.mp (I.stkSub b hb) with e | hb
 ·rw [e]; exact I.free
 ·obtain ⟨_, o, ho, _⟩ := I.ok.funs.mem hb
  exact I.base.free b o ho (I.ok.frf b hb) fun z => I.ok.exfs b z hb
theorem Inv.step {g' : Array GenState} {t' : Nat} {d' : Drawn} {ch : List Addr} (I : Inv X pins σ H s)
  (hch : ∀ b ∈ ch, (b ∈ X.ex ∨ X.s₀.heap.objs.size ≤ b) ∧ b ≠ X.env.locals ∧ (∀ x c, X.env.cells.lookup x = some c → c ≠ b) ∧ ∀ p ∈ X.pn ++ pins, p.1 ≠ b)
  (keep : ∀ b o, b ≠ X.env.locals → b ∉ X.fs → b ∉ ch → s.heap.get? b = some o → H b = none → h'.get? b = some o)
  (slot : ∀ b o, b ≠ X.env.locals → b ∈ X.fs → b ∉ ch → s.heap.get? b = some o → H b = none → ∃ sl, h'.get? b = some { o with slots := sl }) (free : ∀ b o, b ∉ ch → s.heap.get? b = some o → H b = none → H' b = none)
  (there : ∀ b o, b ∉ ch → s.heap.get? b = some o → ∃ o', h'.get? b = some o')
  (tups : ∀ b xs, H b = some (.tup xs) → H' b = some (.tup xs)) (frzs : ∀ b o u, H b = some (.frz o u) → H' b = some (.frz o u)) (tbls : ∀ b ps, H b = some (.tbl ps) → ∃ more, H' b = some (.tbl (ps ++ more)))
  (ns : ∀ m, s.heap.Ns X.env.locals m → h'.Ns X.env.locals m) (hok : HOk X.prog X.w H' h') (hg : AllBare g') :
  Inv X pins σ H' { s with heap := h', gens := g', drawn := d', toks := t' } := by
 have neL : ∀ b o, X.s₀.heap.get? b = some o → b ≠ X.env.locals := fun b o e => Nat.ne_of_lt (Nat.lt_of_lt_of_le (Heap.lt_size e) I.ok.above)
 have neC : ∀ b o, X.s₀.heap.get? b = some o → b ∉ X.ex → b ∉ ch := fun b o e hx hb => by
  rcases (hch b hb).1 with z | z
  ·exact hx z
  ·exact absurd (Nat.lt_of_lt_of_le (Heap.lt_size e) z) (Nat.lt_irrefl _)
 have cellK : ∀ x c, X.env.cells.lookup x = some c → ∀ v, s.heap.IsCell c v → h'.IsCell c v := fun x c e v ⟨o, ho, hd⟩ => by
  have nch : c ∉ ch := fun z => (hch c z).2.2.1 x c e rfl
  by_cases hc : c ∈ X.fs
  ·obtain ⟨sl, q⟩ := slot c o (I.cne x c e) hc nch ho (I.freeC x c e)
   exact ⟨_, q, hd⟩
  ·exact ⟨o, keep c o (I.cne x c e) hc nch ho (I.freeC x c e), hd⟩
 refine ⟨I.ok, I.os, hg, ⟨fun b o e n hb hx => ?_, fun b o e n hb hx => ?_, fun b o e n hx => ?_, fun b o e hx => ?_, fun b xs e => tups b xs (I.base.tups b xs e), fun b o xs e => frzs b o xs (I.base.frzs b o xs e), fun b ps e => ?_⟩, ?_, fun x c e => ?_, ?_, fun x c e => ?_, fun p hp => ?_, hok, I.len⟩
 ·exact keep b o (neL b o e) hb (neC b o e hx) (I.base.keep b o e n hb hx) (I.base.free b o e n hx)
 ·obtain ⟨sl, e1⟩ := I.base.slot b o e n hb hx
  obtain ⟨sl', e2⟩ := slot b _ (neL b o e) hb (neC b o e hx) e1 (I.base.free b o e n hx)
  exact ⟨sl', e2⟩
 ·obtain ⟨o', e1⟩ := I.base.there b o e hx
  exact free b o' (neC b o e hx) e1 (I.base.free b o e n hx)
 ·obtain ⟨o', e1⟩ := I.base.there b o e hx
  exact there b o' (neC b o e hx) e1
 ·obtain ⟨m1, e1⟩ := I.base.tbls b ps e
  obtain ⟨m2, e2⟩ := tbls b _ e1
  exact ⟨m1 ++ m2, by rw [e2, Array.append_assoc]⟩
 ·obtain ⟨m, hn, hl⟩ := I.loc
  refine ⟨m, ns m hn, fun i x v e1 e2 e3 => ?_⟩
  obtain ⟨u, r, l⟩ := hl i x v e1 e2 e3
  refine ⟨u, r, ?_⟩
  rcases l with l | ⟨k, c, e, z⟩
  ·exact .inl l
  ·exact .inr ⟨k, c, e, cellK x c e _ z⟩
 ·obtain ⟨v, z⟩ := I.cell x c e
  exact ⟨v, cellK x c e v z⟩
 ·obtain ⟨m, ⟨o, _, _, ho, _⟩, _⟩ := I.loc
  exact free _ o (fun z => (hch _ z).2.1 rfl) ho I.free
 ·obtain ⟨v, o, ho, hd⟩ := I.cell x c e
  exact free c o (fun z => (hch c z).2.2.1 x c e rfl) ho (I.freeC x c e)
 ·obtain ⟨e, n, ne, nf, d⟩ := I.pin p hp
  have nch : p.1 ∉ ch := fun z => (hch p.1 z).2.2.2 p hp rfl
  exact ⟨keep p.1 p.2 ne nf nch e n, free p.1 p.2 nch e n, ne, nf, d⟩
theorem Inv.un {t' : Nat} (I : Inv X pins σ H s) (u : Un X.fs [] H H' s.heap h') (hok : HOk X.prog X.w H' h') : Inv X pins σ H' { s with heap := h', toks := t' } := by
 obtain ⟨m, ⟨o, es, ep, ho, r⟩, _⟩ := id I.loc
 obtain ⟨sl, hL⟩ := u.any ho I.free (by simp)
 exact I.step (g' := s.gens) (d' := s.drawn) (ch := []) (fun _ z => nomatch z) (fun b o _ hb _ e n => u.keep b o e n hb (by simp)) (fun b o _ hb _ e n => u.slot b o e n hb (by simp)) (fun b o _ e n => u.free b o e n (by simp)) (fun b o _ e => u.there b o e (by simp)) u.tups u.frzs u.tbls (fun m' hm => by
  obtain ⟨o', es', ep', ho', r'⟩ := hm
  rw [ho] at ho'; cases ho'
  exact ⟨_, es', ep', hL, r'⟩) hok I.bare
theorem Inv.call {g' : Array GenState} {t' : Nat} {d' : Drawn} {ch : List Addr} (I : Inv X pins σ H s) (u : Un (frs X.stack) ch H H' s.heap h') (hok : HOk X.prog X.w H' h') (hg : AllBare g')
  (hch : ∀ b ∈ ch, (b ∈ X.ex ∨ X.s₀.heap.objs.size ≤ b) ∧ b ≠ X.env.locals ∧ (∀ x c, X.env.cells.lookup x = some c → c ≠ b) ∧ ∀ p ∈ X.pn ++ pins, p.1 ≠ b) :
  Inv X pins σ H' { s with heap := h', gens := g', drawn := d', toks := t' } := by
 obtain ⟨m, ⟨o, es, ep, ho, r⟩, _⟩ := id I.loc
 obtain ⟨sl, hL⟩ := u.any ho I.free fun z => (hch _ z).2.1 rfl
 exact I.step (ch := ch) hch (fun b o hL hb hc e n => u.keep b o e n (fun z => (List.mem_cons.mp (I.stkSub b z)).elim hL hb) hc) (fun b o _ _ hc e n => u.any e n hc) (fun b o hc e n => u.free b o e n hc) (fun b o hc e => u.there b o e hc) u.tups u.frzs u.tbls (fun m' hm => by
  obtain ⟨o', es', ep', ho', r'⟩ := hm
  rw [ho] at ho'; cases ho'
  exact ⟨_, es', ep', hL, r'⟩) hok hg
theorem Inv.turned {t' : Nat} {it : Addr} (I : Inv X pins σ H s) (k : ∀ b o, b ≠ it → s.heap.get? b = some o → h'.get? b = some o) (hn : H it = none) (hL : it ≠ X.env.locals)
  (h1 : it ∈ X.ex ∨ X.s₀.heap.objs.size ≤ it) (h2 : ∀ x c, X.env.cells.lookup x = some c → c ≠ it) (h3 : ∀ p ∈ X.pn ++ pins, p.1 ≠ it) : Inv X pins σ H { s with heap := h', toks := t' } := by
 have nit : ∀ b u, H b = some u → b ≠ it := fun b u e z => by rw [z, hn] at e; cases e
 refine I.step (g' := s.gens) (d' := s.drawn) (ch := [it]) (fun b hb => ?_) (fun b o _ _ hc e _ => k b o (fun z => hc (by simp [z])) e) (fun b o _ _ hc e _ => ⟨o.slots, k b o (fun z => hc (by simp [z])) e⟩) (fun _ _ _ _ n => n)
  (fun b o hc e => ⟨o, k b o (fun z => hc (by simp [z])) e⟩) (fun _ _ e => e) (fun _ _ _ e => e) (fun b ps e => ⟨#[], by rw [e]; simp⟩) (fun m hm => ?_) (fun b u e => ?_) I.bare
 ·have e : b = it := by simpa using hb
  subst e
  exact ⟨h1, hL, h2, h3⟩
 ·obtain ⟨o, es, ep, ho, r⟩ := hm
  exact ⟨o, es, ep, k _ o (Ne.symm hL) ho, r⟩
 ·refine (I.hok b u e).stay (fun c v hc q => k c v ?_ q) (fun _ q => q) fun _ _ q => q
  rcases hc with z | z
  ·rw [z]; exact nit b u e
  ·exact nit c _ z
theorem Inv.tok (I : Inv X pins σ H s) (t : Nat) : Inv X pins σ H { s with toks := t } := I.un (h' := s.heap) (t' := t) Un.refl I.hok
theorem Inv.kept {t' : Nat} (I : Inv X pins σ H s) (k : ∀ b u, s.heap.get? b = some u → h'.get? b = some u) : Inv X pins σ H { s with heap := h', toks := t' } := I.un (Un.kept k) (I.hok.kept k)
theorem Inv.laid {a : Addr} {o : HO} {t' : Nat} (I : Inv X pins σ H s) (k : ∀ b u, s.heap.get? b = some u → h'.get? b = some u) (hp : s.heap.objs.size ≤ a) (new : ObjOk X.prog X.w (upd H a o) h' a o) :
  Inv X pins σ (upd H a o) { s with heap := h', toks := t' } := I.un (Un.laid k hp (I.hok.fresh hp)) (I.hok.laid k hp new)
theorem Inv.write {x e : Addr} {o : HO} {t' : Nat} (I : Inv X pins σ H s) (mu : Mut (H x)) (he : e = x ∨ H e = some (.own x)) (k : ∀ b u, b ≠ e → s.heap.get? b = some u → h'.get? b = some u) (heo : ∃ u, h'.get? e = some u)
  (new : ObjOk X.prog X.w (upd H x o) h' x o) : Inv X pins σ (upd H x o) { s with heap := h', toks := t' } := I.un (Un.write mu he k heo) (I.hok.write mu he k heo new)
theorem Inv.pins_of {pins' : List (Addr × Obj)} (I : Inv X pins σ H s) (h : ∀ p ∈ pins', s.heap.get? p.1 = some p.2 ∧ H p.1 = none ∧ p.1 ≠ X.env.locals ∧ p.1 ∉ X.fs ∧ ∀ v, p.2.data ≠ .cell v) : Inv X pins' σ H s :=
 ⟨I.ok, I.os, I.bare, I.base, I.loc, I.cell, I.free, I.freeC, fun p hp => (List.mem_append.mp hp).elim (fun z => I.pin p (List.mem_append_left _ z)) (h p), I.hok, I.len⟩
theorem iqV {N : List Str} (hN : N.Nodup) {i j : Nat} {x : Str} (a : N[i]? = some x) (b : N[j]? = some x) : i = j := by
 obtain ⟨h1, e1⟩ := List.getElem?_eq_some_iff.mp a
 obtain ⟨h2, e2⟩ := List.getElem?_eq_some_iff.mp b
 exact (List.getElem_inj hN).mp (e1.trans e2.symm)
theorem jqP {M : Model} {A : Around} {E : Value → Shared → Prop} {i : Nat} {x : Str} {v : V} {u : Value} {Q : Unit → Shared → Prop} (I : Inv X pins σ H s) (hN : X.N.Nodup) (hi : X.N[i]? = some x) (hx : Loc X.env.scope x) (r : RelV v u)
  (h : ∀ s', Inv X pins (σ.set i (some v)) H s' → (∃ a, Heap.SameBut a s.heap s'.heap ∧ (a = X.env.locals ∨ X.env.cells.lookup x = some a)) → Q () s') (hf : X.fn x = true ∨ X.env.scope.names.lookup x = some .local := by first | exact .inl rfl | exact .inr rfl | assumption) : wpAny M A (storeName X.env x u) Q E s := by
 obtain ⟨m, hn, hl⟩ := id I.loc
 have hcls : (X.env.scope.kind == .class || (X.env.scope.kind == .module && X.env.locals != X.env.globals)) = false := by rw [I.ok.kind]; rfl
 have hiσ : i < σ.length := by rw [I.len]; exact (List.getElem?_eq_some_iff.mp hi).1
 have cne := I.cne
 have tracked : ∀ {a : Addr} {h' : Heap}, (∃ o, s.heap.get? a = some o ∧ H a = none) → Heap.SameBut a s.heap h' → HOk X.prog X.w H h' := fun {a h'} ha hs b ob e => by
  obtain ⟨_, _, hfree⟩ := ha
  refine (I.hok b ob e).stay (fun c w' hc q => (hs.2 c ?_).trans q) (fun _ q => q) fun _ _ q => q
  rintro rfl
  rcases hc with rfl | hc
  ·rw [hfree] at e; cases e
  ·rw [hfree] at hc; cases hc
 rcases hx with hk | hk
 ·refine wpAny_storeName_local hk hn (fun h' hn' hs => ?_) hcls
  obtain ⟨oL, _, _, hoL, _⟩ := id hn
  refine h _ ⟨I.ok, I.os, I.bare, ⟨fun b o e n hb hx => ?_, fun b o e n hb hx => ?_, I.base.free, fun b o e hx => ?_, I.base.tups, I.base.frzs, I.base.tbls⟩, ⟨_, hn', fun j y v' e1 e2 e3 => ?_⟩, fun y c e => ?_, I.free, I.freeC, fun p hp => ?_, tracked ⟨oL, hoL, I.free⟩ hs, by simpa using I.len⟩ ⟨_, hs, .inl rfl⟩
  ·exact (hs.2 b (Nat.ne_of_lt (Nat.lt_of_lt_of_le (Heap.lt_size e) I.ok.above))).trans (I.base.keep b o e n hb hx)
  ·obtain ⟨sl, e1⟩ := I.base.slot b o e n hb hx
   exact ⟨sl, (hs.2 b (Nat.ne_of_lt (Nat.lt_of_lt_of_le (Heap.lt_size e) I.ok.above))).trans e1⟩
  ·obtain ⟨o', e1⟩ := I.base.there b o e hx
   exact ⟨o', (hs.2 b (Nat.ne_of_lt (Nat.lt_of_lt_of_le (Heap.lt_size e) I.ok.above))).trans e1⟩
  ·by_cases hj : j = i
   ·subst hj
    rw [hi] at e1; cases e1
    rw [List.getElem?_set_self hiσ] at e2
    cases e2
    exact ⟨u, r, .inl ⟨hk, by simp⟩⟩
   ·rw [List.getElem?_set_ne (Ne.symm hj)] at e2
    obtain ⟨u', r', q⟩ := hl j y v' e1 e2 e3
    refine ⟨u', r', ?_⟩
    rcases q with ⟨k, e⟩ | ⟨k, c, e, z⟩
    ·refine .inl ⟨k, ?_⟩
     have : y ≠ x := fun e => hj (iqV hN e1 (e ▸ hi))
     simp [this, e]
    ·exact .inr ⟨k, c, e, z.sameBut hs (cne y c e)⟩
  ·obtain ⟨w', z⟩ := I.cell y c e
   exact ⟨w', z.sameBut hs (cne y c e)⟩
  ·obtain ⟨e, n, ne, nf, d⟩ := I.pin p hp
   exact ⟨(hs.2 p.1 ne).trans e, n, ne, nf, d⟩
 ·have hfn : X.fn x = true := by
   rcases hf with z | z
   ·exact z
   ·rw [z] at hk; cases hk
  obtain ⟨c, hc⟩ := I.ok.has x (.inl hk)
  obtain ⟨w', z⟩ := I.cell x c hc
  refine wpAny_storeName_cell I.ok.kind hk hc z (fun h' hc' hs => ?_)
  obtain ⟨oc, hoc, hocd⟩ := id z
  refine h { s with heap := h' } ⟨I.ok, I.os, I.bare, ⟨fun b o e n hb hx => ?_, fun b o e n hb hx => ?_, I.base.free, fun b o e hx => ?_, I.base.tups, I.base.frzs, I.base.tbls⟩, ⟨m, hn.sameBut hs (Ne.symm (cne x c hc)), fun j y v' e1 e2 e3 => ?_⟩, fun y c' e => ?_, I.free, I.freeC, fun p hp => ?_, tracked ⟨oc, hoc, I.freeC x c hc⟩ hs, by simpa using I.len⟩ ⟨c, hs, .inr hc⟩
  ·exact (hs.2 b (Nat.ne_of_lt (Nat.lt_of_lt_of_le (Heap.lt_size e) (I.ok.cab x c hfn hc)))).trans (I.base.keep b o e n hb hx)
  ·obtain ⟨sl, e1⟩ := I.base.slot b o e n hb hx
   exact ⟨sl, (hs.2 b (Nat.ne_of_lt (Nat.lt_of_lt_of_le (Heap.lt_size e) (I.ok.cab x c hfn hc)))).trans e1⟩
  ·obtain ⟨o', e1⟩ := I.base.there b o e hx
   exact ⟨o', (hs.2 b (Nat.ne_of_lt (Nat.lt_of_lt_of_le (Heap.lt_size e) (I.ok.cab x c hfn hc)))).trans e1⟩
  ·by_cases hj : j = i
   ·subst hj
    rw [hi] at e1; cases e1
    rw [List.getElem?_set_self hiσ] at e2
    cases e2
    exact ⟨u, r, .inr ⟨.inl hk, c, hc, hc'⟩⟩
   ·rw [List.getElem?_set_ne (Ne.symm hj)] at e2
    obtain ⟨u', r', q⟩ := hl j y v' e1 e2 e3
    refine ⟨u', r', ?_⟩
    rcases q with q | ⟨k, c', e, z'⟩
    ·exact .inl q
    ·refine .inr ⟨k, c', e, z'.sameBut hs ?_⟩
     rintro rfl
     exact hj (iqV hN e1 (I.ok.inj _ _ _ e hc ▸ hi))
  ·by_cases hcc : c' = c
   ·subst hcc; exact ⟨_, hc'⟩
   ·obtain ⟨w2, z2⟩ := I.cell y c' e
    exact ⟨w2, z2.sameBut hs hcc⟩
  ·obtain ⟨e, n, ne, nf, d⟩ := I.pin p hp
   refine ⟨(hs.2 p.1 ?_).trans e, n, ne, nf, d⟩
   intro q
   rw [q, hoc] at e
   have q' : oc = p.2 := Option.some.inj e
   exact d w' (by rw [← q']; exact hocd)
theorem iqU {M : Model} {A : Around} {E : Value → Shared → Prop} {i : Nat} {x : Str} {v : V} {u : Value} {Q : Unit → Shared → Prop} (I : Inv X pins σ H s) (hN : X.N.Nodup) (hi : X.N[i]? = some x) (hx : Loc X.env.scope x) (r : RelV v u)
  (h : ∀ s', Inv X pins (σ.set i (some v)) H s' → Q () s') (hf : X.fn x = true ∨ X.env.scope.names.lookup x = some .local := by first | exact .inl rfl | exact .inr rfl | assumption) : wpAny M A (storeName X.env x u) Q E s :=
 jqP I hN hi hx r (fun s' I' _ => h s' I') hf
theorem Inv.call' {s' : Shared} {ch : List Addr} (I : Inv X pins σ H s) (ho : s'.os = s.os) (u : Un (frs X.stack) ch H H' s.heap s'.heap) (hok : HOk X.prog X.w H' s'.heap) (hg : AllBare s'.gens)
  (hch : ∀ b ∈ ch, (b ∈ X.ex ∨ X.s₀.heap.objs.size ≤ b) ∧ b ≠ X.env.locals ∧ (∀ x c, X.env.cells.lookup x = some c → c ≠ b) ∧ ∀ p ∈ X.pn ++ pins, p.1 ≠ b) : Inv X pins σ H' s' := by
 obtain ⟨h', g', d', t', o'⟩ := s'
 have e : o' = s.os := ho
 subst e
 exact I.call (g' := g') (t' := t') (d' := d') u hok hg hch
end
abbrev XK := Value → Option Addr → Hp → Prop
abbrev St := List (Option V)
abbrev VK := V → Hp → Prop
abbrev TE := St → Hp → VK → Prop
abbrev TT := St → Hp → (Bool → Hp → Prop) → Prop
abbrev TA := St → Hp → (List V → Hp → Prop) → Prop
structure Ends where
 nx : St → Hp → Prop
 rt : VK
 bk : St → Hp → Prop := fun _ _ => False
 ct : St → Hp → Prop := fun _ _ => False
abbrev TS := Ends → St → Hp → Prop
def EP (X : Cx) (pins : List (Addr × Obj)) (σ : St) (Q : VK) (u : Value) (s' : Shared) : Prop := ∃ v H', Inv X pins σ H' s' ∧ RelV v u ∧ Q v H'
def TP (X : Cx) (pins : List (Addr × Obj)) (σ : St) (Q : Bool → Hp → Prop) (b : Bool) (s' : Shared) : Prop := ∃ H', Inv X pins σ H' s' ∧ Q b H'
def AP (X : Cx) (pins : List (Addr × Obj)) (σ : St) (Q : List V → Hp → Prop) (us : List Value) (s' : Shared) : Prop := ∃ vs H', Inv X pins σ H' s' ∧ Vals vs us ∧ Q vs H'
def SP (X : Cx) (pins : List (Addr × Obj)) (D : Ends) (f : Flow) (s' : Shared) : Prop :=
 match f with
 | .next => ∃ σ' H', Inv X pins σ' H' s' ∧ D.nx σ' H'
 | .brk => ∃ σ' H', Inv X pins σ' H' s' ∧ D.bk σ' H'
 | .cont => ∃ σ' H', Inv X pins σ' H' s' ∧ D.ct σ' H'
 | .ret u => ∃ v σ' H', Inv X pins σ' H' s' ∧ RelV v u ∧ D.rt v H'
def PE (X : Cx) (e : Expr) (t : TE) : Prop :=
 ∀ (pins : List (Addr × Obj)) (s : Shared) (σ : St) (H : Hp) (Q : VK), Inv X pins σ H s → t σ H Q → wpAny (model X.prog X.w) X.A (eval e X.env) (EP X pins σ Q) X.xe s
def PT (X : Cx) (e : Expr) (t : TT) : Prop :=
 ∀ (pins : List (Addr × Obj)) (s : Shared) (σ : St) (H : Hp) (Q : Bool → Hp → Prop), Inv X pins σ H s → t σ H Q → wpAny (model X.prog X.w) X.A (isTrue e X.env (eval e X.env)) (TP X pins σ Q) X.xe s
def PW (X : Cx) (e : Expr) (t : TT) : Prop :=
 ∀ (whole : Sem Value) (pins : List (Addr × Obj)) (s : Shared) (σ : St) (H : Hp) (Q : Bool → Hp → Prop), Inv X pins σ H s → t σ H Q → wpAny (model X.prog X.w) X.A (isTrue e X.env whole) (TP X pins σ Q) X.xe s
theorem PW.pt {X : Cx} {e : Expr} {t : TT} (h : PW X e t) : PT X e t := h _
def PA (X : Cx) (es : List Expr) (t : TA) : Prop :=
 ∀ (pos : Pos) (pins : List (Addr × Obj)) (s : Shared) (σ : St) (H : Hp) (Q : List V → Hp → Prop), Inv X pins σ H s → t σ H Q → wpAny (model X.prog X.w) X.A (spliced (backTo pos (starEach es X.env))) (AP X pins σ Q) X.xe s
def PS (X : Cx) (st : Stmt) (t : TS) : Prop :=
 ∀ (pins : List (Addr × Obj)) (s : Shared) (σ : St) (H : Hp) (D : Ends), Inv X pins σ H s → t D σ H → wpAny (model X.prog X.w) X.A (exec st X.env) (SP X pins D) X.xe s
def PSs (X : Cx) (st : List Stmt) (t : TS) : Prop :=
 ∀ (pins : List (Addr × Obj)) (s : Shared) (σ : St) (H : Hp) (D : Ends), Inv X pins σ H s → t D σ H → wpAny (model X.prog X.w) X.A (execs st X.env) (SP X pins D) X.xe s
theorem thn {α : Type} {t : Sem α} {Q Q' : α → Shared → Prop} {M : Model} {A : Around} {E : Value → Shared → Prop} {s : Shared} (h : wpAny M A t Q E s) (hQ : ∀ a s, Q a s → Q' a s) : wpAny M A t Q' E s := wpAny_mono h hQ fun _ _ x => x
section
variable {X : Cx}
theorem bin {a b : Expr} {ta tb : TE} (ha : PE X a ta) (hb : PE X b tb) {pins : List (Addr × Obj)} {s : Shared} {σ : St} {H : Hp} {R : V → V → Hp → Prop} (I : Inv X pins σ H s) (h : ta σ H fun x H1 => tb σ H1 fun y H2 => R x y H2)
  {α : Type} {Q : α → Shared → Prop} {f : Value → Value → Sem α}
  (hf : ∀ v u s2 x y H2, Inv X pins σ H2 s2 → RelV x v → RelV y u → R x y H2 → wpAny (model X.prog X.w) X.A (f v u) Q X.xe s2) :
  wpAny (model X.prog X.w) X.A (eval a X.env) (fun v s₁ => wpAny (model X.prog X.w) X.A (eval b X.env) (fun u s₂ => wpAny (model X.prog X.w) X.A (f v u) Q X.xe s₂) X.xe s₁) X.xe s := by
 refine thn (ha pins s σ H _ I h) fun v s1 W' => ?_
 obtain ⟨x, H1, I1, r1, q1⟩ := W'
 refine thn (hb pins s1 σ H1 _ I1 q1) fun u s2 W' => ?_
 obtain ⟨y, H2, I2, r2, q2⟩ := W'
 exact hf v u s2 x y H2 I2 r1 r2 q2
def tVar (i : Nat) : TE := fun σ H Q => ∃ v, σ[i]? = some (some v) ∧ Q v H
def tC (v : V) : TE := fun _ H Q => Q v H
theorem rqt {i : Nat} {x : Str} {pos : Pos} (hN : X.N[i]? = some x) (hv : Vis X.env.scope x) (hd : (x == ("__debug__" : Str)) = false := by decide) (hcd : (x == ("__classdict__" : Str)) = false := by decide) : PE X (.Name x pos) (tVar i) := by
 intro pins s σ H Q I h
 obtain ⟨v, e, h⟩ := h
 obtain ⟨m, hn, hl⟩ := I.loc
 obtain ⟨u, r, l⟩ := hl i x v hN e hv
 have fin : EP X pins σ Q u s := ⟨v, H, I, r, h⟩
 rcases l with ⟨hk, hm⟩ | ⟨hk, c, hc, hcell⟩
 ·exact wpAny_Name (wpAny_loadName_local I.ok.kind hk hn hm fin) hd
 ·rcases hk with hk | hk
  ·exact wpAny_Name (wpAny_loadName_cell I.ok.kind hk hc hcell fin) hd
  ·exact wpAny_Name (wpAny_loadName_free I.ok.kind hk hc hcell fin hcd) hd
theorem aqd {i j pos} : PE X (.Constant (.int i) j pos) (tC (.int i)) := fun _ _ _ H _ I h => wpAny_Constant_int ⟨.int i, H, I.tok _, ⟨_, rfl⟩, h⟩
theorem jqk {b j pos} : PE X (.Constant (.bool b) j pos) (tC (.bl b)) := fun _ _ _ H _ I h => Constant_bool ⟨.bl b, H, I, rfl, h⟩
theorem dqu {j pos} : PE X (.Constant .none j pos) (tC .non) := fun _ _ _ H _ I h => Constant_none ⟨.non, H, I, rfl, h⟩
theorem aqc {x j pos} : PE X (.Constant (.str x) j pos) (tC (.str x)) := fun _ _ _ H _ I h => Calls.Constant_str ⟨.str x, H, I.tok _, ⟨_, rfl⟩, h⟩
def Gl (X : Cx) (x : Str) : Prop := X.env.kindOf x = some .globalImplicit
theorem gqn {E : Value → Shared → Prop} {pins : List (Addr × Obj)} {s : Shared} {σ : St} {H : Hp} {x : Str} {u : Value} {pos : Pos} {Q : Value → Shared → Prop} (I : Inv X pins σ H s) (hg : Gl X x) (hm : X.mg x = some u) (h : Q u s)
  (hd : (x == ("__debug__" : Str)) = false := by decide) : wpAny (model X.prog X.w) X.A (eval (.Name x pos) X.env) Q E s :=
 Calls.Name_function_global I.ok.kind hg (Calls.loadGlobal_global (by rw [I.ok.glob]; exact I.mod.glob.keeps I.bk) hm h) hd
theorem gqs {E : Value → Shared → Prop} {pins : List (Addr × Obj)} {s : Shared} {σ : St} {H : Hp} {x : Str} {u : Value} {pos : Pos} {Q : Value → Shared → Prop} (I : Inv X pins σ H s) (hg : Gl X x) (hm : X.mg x = none) (hv : bootBuiltins x = some u) (h : Q u s)
  (hn : x ≠ "__name__" := by decide) (hd : (x == ("__debug__" : Str)) = false := by decide) : wpAny (model X.prog X.w) X.A (eval (.Name x pos) X.env) Q E s := by
 obtain ⟨mb, h1, h2⟩ := I.mod.blt
 exact Calls.Name_function_global I.ok.kind hg (Calls.loadGlobal_builtin (by rw [I.ok.glob]; exact I.mod.glob.keeps I.bk) hm (by rw [I.ok.blt]; exact h1.keeps I.bk) ((h2 x hn).trans hv) h) hd
theorem aqx {x : Str} {v : V} {u : Value} {pos : Pos} (hg : Gl X x) (hm : X.mg x = some u) (r : RelV v u) (hd : (x == ("__debug__" : Str)) = false := by decide) : PE X (.Name x pos) (tC v) :=
 fun _ _ _ H _ I h => gqn I hg hm ⟨v, H, I, r, h⟩ hd
theorem dql {x : Str} {v : V} {u : Value} {pos : Pos} (hg : Gl X x) (hm : X.mg x = none) (hv : bootBuiltins x = some u) (r : RelV v u) (hn : x ≠ "__name__" := by decide) (hd : (x == ("__debug__" : Str)) = false := by decide) : PE X (.Name x pos) (tC v) :=
 fun _ _ _ H _ I h => gqs I hg hm hv ⟨v, H, I, r, h⟩ hn hd
variable {a b : Expr} {ta tb : TE} {pos : Pos}
def PC (X : Cx) (op : CmpOp) (a b : Expr) (t : TE) : Prop :=
 ∀ (pins : List (Addr × Obj)) (s : Shared) (σ : St) (H : Hp) (Q : VK), Inv X pins σ H s → t σ H Q →
  wpAny (model X.prog X.w) X.A (eval a X.env) (fun v s₁ => wpAny (model X.prog X.w) X.A (eval b X.env) (fun u s₂ => wpAny (model X.prog X.w) X.A (compareOp op v u) (EP X pins σ Q) X.xe s₂) X.xe s₁) X.xe s
def tB (t : TE) : TT := fun σ H Q => t σ H fun x H1 => ∃ c, x = .bl c ∧ Q c H1
theorem rqV {op : CmpOp} {t : TE} (h : PC X op a b t) (h1 : behindInMarks op b = false := by first | exact nobehind _ (by decide) (by decide) | rfl) : PT X (.Compare a [op] [b] pos) (tB t) := by
 intro pins s σ H Q I hw
 refine wpAny_isTrue_Compare1 (thn (h pins s σ H _ I hw) fun v s1 h1 => thn h1 fun u s2 h2 => thn h2 fun c s3 W' => ?_) h1
 obtain ⟨x, H1, I1, r1, q1⟩ := W'
 obtain ⟨d, rfl, q⟩ := q1
 cases r1
 exact wpAny_truthy_bool ⟨H1, I1, q⟩
theorem bqe {e : Expr} {t : TE} (h : PE X e t) (he : ∀ whole, isTrue e X.env whole = (do let v ← whole; standAt e.pos; holding [v] (truthy v)) := by intro _; rfl) : PT X e (tB t) := by
 intro pins s σ H Q I hw
 refine isTrue_plain (thn (h pins s σ H _ I hw) fun v s1 W' => ?_) (he _)
 obtain ⟨x, H1, I1, r1, q1⟩ := W'
 obtain ⟨d, rfl, q⟩ := q1
 cases r1
 exact wpAny_truthy_bool ⟨H1, I1, q⟩
variable {tA tB' : TT} {rest : List Expr}
def tAnd (t u : TT) : TT := fun σ H Q => t σ H fun c H1 => if c = true then u σ H1 Q else Q false H1
def tOr (t u : TT) : TT := fun σ H Q => t σ H fun c H1 => if c = true then Q true H1 else u σ H1 Q
def tNot (t : TT) : TT := fun σ H Q => t σ H fun c H1 => Q (!c) H1
theorem hqF (ha : PT X a tA) : PW X (.BoolOp .And [a] pos) tA := by
 intro wh pins s σ H Q I h
 refine isTrue_and (thn (ha pins s σ H Q I h) fun c s1 e => ?_)
 cases c with
 | true => exact isTrue_and_nil e
 | false => exact e
theorem dqq (ha : PT X a tA) : PW X (.BoolOp .Or [a] pos) tA := by
 intro wh pins s σ H Q I h
 refine isTrue_or (thn (ha pins s σ H Q I h) fun c s1 e => ?_)
 cases c with
 | false => exact isTrue_or_nil e
 | true => exact e
theorem jqQ (ha : PT X a tA) (hb : PW X (.BoolOp .And (b :: rest) pos) tB') : PW X (.BoolOp .And (a :: b :: rest) pos) (tAnd tA tB') := by
 intro wh pins s σ H Q I h
 refine isTrue_and (thn (ha pins s σ H _ I h) fun c s1 W' => ?_)
 obtain ⟨H1, I1, q1⟩ := W'
 cases c with
 | true => exact hb wh pins s1 σ H1 Q I1 q1
 | false => exact ⟨H1, I1, q1⟩
theorem eqe (ha : PT X a tA) (hb : PW X (.BoolOp .Or (b :: rest) pos) tB') : PW X (.BoolOp .Or (a :: b :: rest) pos) (tOr tA tB') := by
 intro wh pins s σ H Q I h
 refine isTrue_or (thn (ha pins s σ H _ I h) fun c s1 W' => ?_)
 obtain ⟨H1, I1, q1⟩ := W'
 cases c with
 | true => exact ⟨H1, I1, q1⟩
 | false => exact hb wh pins s1 σ H1 Q I1 q1
theorem cqF (ha : PT X a tA) : PT X (.UnaryOp .Not a pos) (tNot tA) := by
 intro pins s σ H Q I h
 exact isTrue_not (ha pins s σ H (fun c H1 => Q (!c) H1) I h)
def tAndV (ta tb : TE) : TE := fun σ H Q => ta σ H fun x H1 => ∃ c, x = .bl c ∧ if c = true then tb σ H1 Q else Q (.bl false) H1
def tOrV (ta tb : TE) : TE := fun σ H Q => ta σ H fun x H1 => ∃ c, x = .bl c ∧ if c = true then Q (.bl true) H1 else tb σ H1 Q
def tNotV (ta : TE) : TE := fun σ H Q => ta σ H fun x H1 => ∃ c, x = .bl c ∧ Q (.bl (!c)) H1
theorem cqX {op} {t : TE} (h : PE X a t) : PE X (.BoolOp op [a] pos) t := fun pins s σ H Q I hw => BoolOp_one (h pins s σ H Q I hw)
theorem cqo (ha : PE X a ta) (hb : PE X (.BoolOp .And (b :: rest) pos) tb) : PE X (.BoolOp .And (a :: b :: rest) pos) (tAndV ta tb) := by
 intro pins s σ H Q I h
 refine BoolOp_and (thn (ha pins s σ H _ I h) fun v s1 W' => ?_)
 obtain ⟨x, H1, I1, r1, q1⟩ := W'
 obtain ⟨c, rfl, q1⟩ := q1
 cases r1
 refine wpAny_truthy_bool ?_
 cases c with
 | true => exact hb pins s1 σ H1 Q I1 q1
 | false => exact ⟨.bl false, H1, I1, rfl, q1⟩
theorem oqv (ha : PE X a ta) (hb : PE X (.BoolOp .Or (b :: rest) pos) tb) : PE X (.BoolOp .Or (a :: b :: rest) pos) (tOrV ta tb) := by
 intro pins s σ H Q I h
 refine BoolOp_or (thn (ha pins s σ H _ I h) fun v s1 W' => ?_)
 obtain ⟨x, H1, I1, r1, q1⟩ := W'
 obtain ⟨c, rfl, q1⟩ := q1
 cases r1
 refine wpAny_truthy_bool ?_
 cases c with
 | false => exact hb pins s1 σ H1 Q I1 q1
 | true => exact ⟨.bl true, H1, I1, rfl, q1⟩
theorem mqo (ha : PE X a ta) : PE X (.UnaryOp .Not a pos) (tNotV ta) := by
 intro pins s σ H Q I h
 refine UnaryOp_ (thn (ha pins s σ H _ I h) fun v s1 W' => ?_)
 obtain ⟨x, H1, I1, r1, q1⟩ := W'
 obtain ⟨c, rfl, q1⟩ := q1
 cases r1
 exact not_of (wpAny_truthy_bool ⟨.bl (!c), H1, I1, rfl, q1⟩)
def tIf (t : TT) (ta tb : TE) : TE := fun σ H Q => t σ H fun c H1 => if c = true then ta σ H1 Q else tb σ H1 Q
theorem fqV {c : Expr} (hc : PT X c tA) (ha : PE X a ta) (hb : PE X b tb) : PE X (.IfExp c a b pos) (tIf tA ta tb) := by
 intro pins s σ H Q I h
 refine wpAny_IfExp (thn (hc pins s σ H _ I h) fun d s1 W' => ?_)
 obtain ⟨H1, I1, q1⟩ := W'
 cases d with
 | true => exact ha pins s1 σ H1 Q I1 q1
 | false => exact hb pins s1 σ H1 Q I1 q1
end
def SqL (K : PySem.W.Frag) (H : Hp) (a : Addr) (xs : List V) : Prop :=
 Rd H a (.lst xs) ∨
  ∃ (o : Obj) (its : Array Value) (n : Nat), K.lookup a = some o ∧ o.cls = .type "list" ∧ o.dict = none ∧ o.data = .seq its n ∧ its.size ≤ sizeLine ∧ Vals xs its.toList
def SqT (K : PySem.W.Frag) (H : Hp) (a : Addr) (xs : List V) : Prop :=
 Rd H a (.tup xs) ∨
  ∃ (o : Obj) (its : Array Value) (n : Nat), K.lookup a = some o ∧ o.cls = .type "tuple" ∧ o.data = .seq its n ∧ its.size ≤ sizeLine ∧ Vals xs its.toList
def absV : Value → Option V
 | .none => some .non
 | .bool b => some (.bl b)
 | .int i _ => some (.int i)
 | .str x _ => some (.str x)
 | .bytes b _ => some (.byt b)
 | .float b _ => some (.flt b)
 | .ref a => some (.ref a)
 | .type n => some (.ty n)
 | _ => none
theorem RelV.abs {x : V} {u : Value} (r : RelV x u) : absV u = some x := by
 cases x with
 | non => cases r; rfl
 | bl _ => cases r; rfl
 | int _ => obtain ⟨t, rfl⟩ := r; rfl
 | str _ => obtain ⟨t, rfl⟩ := r; rfl
 | byt _ => obtain ⟨t, rfl⟩ := r; rfl
 | flt _ => obtain ⟨t, rfl⟩ := r; rfl
 | ref _ => cases r; rfl
 | ty _ => cases r; rfl
theorem RelV.inj {x y : V} {u : Value} (r : RelV x u) (q : RelV y u) : x = y := Option.some.inj (r.abs.symm.trans q.abs)
theorem Vals.inj : ∀ {xs ys : List V} {us : List Value}, Vals xs us → Vals ys us → xs = ys
 | _, _, _, .nil, .nil => rfl
 | _, _, _, .cons r t, .cons r' t' => by rw [r.inj r', Vals.inj t t']
section
variable {X : Cx} {pins : List (Addr × Obj)} {σ : St} {H : Hp} {s : Shared} {a : Addr} {xs ys : List V}
theorem SqL.of {K : PySem.W.Frag} (h : H a = some (.lst xs)) : SqL K H a xs := .inl (.inl h)
theorem SqT.of {K : PySem.W.Frag} (h : H a = some (.tup xs)) : SqT K H a xs := .inl (.inl h)
theorem Inv.list (I : Inv X pins σ H s) (h : SqL X.K H a xs) : ∃ its : List Value, Vals xs its ∧ PlainL s.heap a its.toArray ∧ xs.length ≤ sizeLine := by
 rcases h with h | ⟨o, its, n, hk, hc, hd, hs, hz, r⟩
 ·obtain ⟨z, its, n, r, e⟩ := h.ok I.hok
  exact ⟨its, r, ⟨_, n, e, rfl, rfl, rfl⟩, z⟩
 ·refine ⟨its.toList, r, ⟨o, n, I.kIn a o hk, hc, hd, by simpa using hs⟩, ?_⟩
  have e := r.length
  simp only [Array.length_toList] at e
  omega
theorem Inv.tuple (I : Inv X pins σ H s) (h : SqT X.K H a xs) : ∃ its : List Value, Vals xs its ∧ IsTup s.heap a its.toArray ∧ xs.length ≤ sizeLine := by
 rcases h with h | ⟨o, its, n, hk, hc, hs, hz, r⟩
 ·obtain ⟨z, its, r, p⟩ := h.ok I.hok
  exact ⟨its, r, p, z⟩
 ·refine ⟨its.toList, r, ⟨o, I.kIn a o hk, hc, n, by simpa using hs⟩, ?_⟩
  have e := r.length
  simp only [Array.length_toList] at e
  omega
theorem Inv.list_inj (I : Inv X pins σ H s) (h : SqL X.K H a xs) (h' : SqL X.K H a ys) : xs = ys := by
 obtain ⟨its, r, ⟨o, n, e, _, _, d⟩, _⟩ := I.list h
 obtain ⟨its', r', ⟨o', n', e', _, _, d'⟩, _⟩ := I.list h'
 rw [e] at e'; cases e'
 rw [d] at d'
 injection d' with d1 _
 have : its = its' := by simpa using congrArg Array.toList d1
 subst this
 exact r.inj r'
theorem Inv.tuple_inj (I : Inv X pins σ H s) (h : SqT X.K H a xs) (h' : SqT X.K H a ys) : xs = ys := by
 obtain ⟨its, r, ⟨o, e, _, n, d⟩, _⟩ := I.tuple h
 obtain ⟨its', r', ⟨o', e', _, n', d'⟩, _⟩ := I.tuple h'
 rw [e] at e'; cases e'
 rw [d] at d'
 injection d' with d1 _
 have : its = its' := by simpa using congrArg Array.toList d1
 subst this
 exact r.inj r'
end
abbrev Cx.wish (X : Cx) (E : Value → Shared → Prop) : Cx := { X with xe := E }
abbrev Cx.nox (X : Cx) : Cx := X.wish fun _ _ => False
theorem Cx.Ok.wish {X : Cx} (ok : X.Ok) (E : Value → Shared → Prop) : (X.wish E).Ok :=
 ⟨ok.mod, ok.kind, ok.glob, ok.blt, ok.above, ok.inj, ok.has, ok.cab, ok.hd, ok.frames, ok.stk, ok.exf, ok.bs, ok.bsz, ok.noex, ok.exfs, ok.funs, ok.frf⟩
theorem Cx.Ok.unwish {X : Cx} {E : Value → Shared → Prop} (ok : (X.wish E).Ok) : X.Ok :=
 ⟨ok.mod, ok.kind, ok.glob, ok.blt, ok.above, ok.inj, ok.has, ok.cab, ok.hd, ok.frames, ok.stk, ok.exf, ok.bs, ok.bsz, ok.noex, ok.exfs, ok.funs, ok.frf⟩
section
variable {X : Cx} {pins : List (Addr × Obj)} {σ : St} {H : Hp} {s : Shared} {E : Value → Shared → Prop}
theorem Inv.wish (I : Inv X pins σ H s) (E : Value → Shared → Prop) : Inv (X.wish E) pins σ H s := ⟨I.ok.wish E, I.os, I.bare, I.base, I.loc, I.cell, I.free, I.freeC, I.pin, I.hok, I.len⟩
theorem Inv.unwish (I : Inv (X.wish E) pins σ H s) : Inv X pins σ H s := ⟨I.ok.unwish, I.os, I.bare, I.base, I.loc, I.cell, I.free, I.freeC, I.pin, I.hok, I.len⟩
theorem SP.unwish {D : Ends} {f : Flow} {s' : Shared} (h : SP (X.wish E) pins D f s') : SP X pins D f s' := by
 cases f with
 | next => obtain ⟨σ', H', I, q⟩ := h; exact ⟨σ', H', I.unwish, q⟩
 | brk => obtain ⟨σ', H', I, q⟩ := h; exact ⟨σ', H', I.unwish, q⟩
 | cont => obtain ⟨σ', H', I, q⟩ := h; exact ⟨σ', H', I.unwish, q⟩
 | ret u => obtain ⟨v, σ', H', I, r, q⟩ := h; exact ⟨v, σ', H', I.unwish, r, q⟩
theorem PSs.nox {st : List Stmt} {t : TS} (h : PSs X.nox st t) : PSs X st t := fun pins s σ H D I hw =>
 wpAny_mono (h pins s σ H D (I.wish _) hw) (fun _ _ q => q.unwish) fun _ _ z => False.elim z
end
section
variable {X : Cx} {st : Stmt} {rest : List Stmt} {t u : TS} {e : Expr} {te : TE} {pos : Pos}
def tNext : TS := fun D σ H => D.nx σ H
def tSeq (t u : TS) : TS := fun D σ H => t { D with nx := u D } σ H
theorem aqr : PSs X [] tNext := fun _ _ σ H _ I h => wpAny_execs_nil ⟨σ, H, I, h⟩
theorem aqe (h1 : PS X st t) (h2 : PSs X rest u) : PSs X (st :: rest) (tSeq t u) := by
 intro pins s σ H D I h
 refine wpAny_execs_cons (thn (h1 pins s σ H { D with nx := u D } I h) fun f s1 q => ?_)
 cases f with
 | next =>
  obtain ⟨σ', H', I', q⟩ := q
  exact h2 pins s1 σ' H' D I' q
 | ret v => exact q
 | brk => exact q
 | cont => exact q
theorem aqf (h1 : PS X st t) : PSs X [st] t := by
 intro pins s σ H D I h
 refine wpAny_execs_cons (thn (h1 pins s σ H D I h) fun f s1 q => ?_)
 cases f with
 | next => exact wpAny_execs_nil q
 | ret v => exact q
 | brk => exact q
 | cont => exact q
def tBreak : TS := fun D σ H => D.bk σ H
theorem Inv.quiet {pins : List (Addr × Obj)} {σ : St} {H : Hp} {s : Shared} (I : Inv X pins σ H s) : interactive X.env = false := by simp [interactive, I.ok.kind]
def tDrop (te : TE) : TS := fun D σ H => te σ H fun _ H1 => D.nx σ H1
theorem mqw (he : PE X e te) (hs : swapsWith e none pos.line X.env = pure false := by rfl) : PS X (.Expr e pos) (tDrop te) := by
 intro pins s σ H D I h
 exact wpAny_Expr_any (thn (he pins s σ H _ I h) fun v s1 ⟨x, H1, I1, r1, q1⟩ => ⟨σ, H1, I1, q1⟩) I.quiet hs
def tRet (te : TE) : TS := fun D σ H => te σ H D.rt
theorem aql (he : PE X e te) : PS X (.Return (some e) pos) (tRet te) := by
 intro pins s σ H D I h
 exact wpAny_Return_some (thn (he pins s σ H _ I h) fun v s1 ⟨x, H1, I1, r1, q1⟩ => ⟨x, σ, H1, I1, r1, q1⟩)
def tIfS (c : TT) (t u : TS) : TS := fun D σ H => c σ H fun b H1 => if b = true then t D σ H1 else u D σ H1
theorem aqF {c : Expr} {a b : List Stmt} {tc : TT} (hc : PT X c tc) (ha : PSs X a t) (hb : PSs X b u) : PS X (.If c a b pos) (tIfS tc t u) := by
 intro pins s σ H D I h
 refine wpAny_If (thn (hc pins s σ H _ I h) fun d s1 W' => ?_)
 obtain ⟨H1, I1, q1⟩ := W'
 cases d with
 | true => exact ha pins s1 σ H1 D I1 q1
 | false => exact hb pins s1 σ H1 D I1 q1
def tNever : TS := fun _ _ _ => False
theorem kq2 : PS X st tNever := fun _ _ _ _ _ _ h => h.elim
end
abbrev TG := V → St → Hp → (St → Hp → Prop) → Prop
abbrev TGs := List V → St → Hp → (St → Hp → Prop) → Prop
def PG (X : Cx) (target : Expr) (t : TG) : Prop :=
 ∀ (pins : List (Addr × Obj)) (s : Shared) (σ : St) (H : Hp) (v : V) (u : Value) (Q : St → Hp → Prop), Inv X pins σ H s → RelV v u → t v σ H Q →
  wpAny (model X.prog X.w) X.A (assign target X.env u) (fun _ s' => ∃ σ' H', Inv X pins σ' H' s' ∧ Q σ' H') X.xe s
def PGs (X : Cx) (ts : List Expr) (t : TGs) : Prop :=
 ∀ (pins : List (Addr × Obj)) (s : Shared) (σ : St) (H : Hp) (vs : List V) (us : List Value) (Q : St → Hp → Prop), Inv X pins σ H s → Vals vs us → t vs σ H Q →
  wpAny (model X.prog X.w) X.A (assignInOrder ((assignEach ts X.env).map (·.2)) us) (fun _ s' => ∃ σ' H', Inv X pins σ' H' s' ∧ Q σ' H') X.xe s
abbrev TSet := V → V → V → Hp → (Hp → Prop) → Prop
def PSet (X : Cx) (t : TSet) : Prop :=
 ∀ (pins : List (Addr × Obj)) (s : Shared) (σ : St) (H : Hp) (o i v : V) (ov iv u : Value) (Q : Hp → Prop), Inv X pins σ H s → RelV o ov → RelV i iv → RelV v u → t o i v H Q →
  wpAny (model X.prog X.w) X.A (setItem ov iv u) (fun _ s' => ∃ H', Inv X pins σ H' s' ∧ Q H') X.xe s
section
variable {X : Cx} {pos : Pos}
def gName (i : Nat) : TG := fun v σ H Q => Q (σ.set i (some v)) H
theorem dqM {i : Nat} {x : Str} (hN : X.N.Nodup) (hi : X.N[i]? = some x) (hx : Loc X.env.scope x) (hf : X.fn x = true ∨ X.env.scope.names.lookup x = some .local := by first | exact .inl rfl | exact .inr rfl | assumption) : PG X (.Name x pos) (gName i) := by
 intro pins s σ H v u Q I r h
 exact wpAny_assign_Name (iqU I hN hi hx r (fun s' I' => ⟨_, H, I', h⟩) hf)
def gNil : TGs := fun vs σ H Q => vs = [] ∧ Q σ H
def gCons (t : TG) (u : TGs) : TGs := fun vs σ H Q => ∃ v r, vs = v :: r ∧ t v σ H fun σ' H' => u r σ' H' Q
theorem mqs : PGs X [] gNil := by
 intro pins s σ H vs us Q I r h
 obtain ⟨e, h⟩ := h
 subst e
 cases r
 exact assignInOrder_nil ⟨σ, H, I, h⟩
theorem gqO {e : Expr} {es : List Expr} {t : TG} {u : TGs} (h1 : PG X e t) (h2 : PGs X es u)
  (hs : (assignEach (e :: es) X.env).map (·.2) = assign e X.env :: (assignEach es X.env).map (·.2) := by rfl) : PGs X (e :: es) (gCons t u) := by
 intro pins s σ H vs us Q I r h
 obtain ⟨v, vr, e1, h⟩ := h
 subst e1
 cases r with
 | cons r rr =>
  rw [hs]
  refine assignInOrder_cons (thn (h1 pins s σ H _ _ _ I r h) fun _ s1 W' => ?_)
  obtain ⟨σ1, H1, I1, q1⟩ := W'
  exact h2 pins s1 σ1 H1 _ _ Q I1 rr q1
def gTup (K : PySem.W.Frag) (n : Nat) (t : TGs) : TG := fun v σ H Q => ∃ a xs, v = .ref a ∧ SqT K H a xs ∧ xs.length = n ∧ t xs σ H Q
theorem oql {es : List Expr} {k : Nat} {t : TGs} {n : Nat} (hc : X.calm = true) (h : PGs X es t)
  (hn : (assignEach es X.env).length = n := by rfl) (hst : (assignEach es X.env).findIdx? (·.1) = none := by rfl) : PG X (.Tuple es k pos) (gTup X.K n t) := by
 intro pins s σ H v u Q I r hw
 obtain ⟨a, xs, e1, hq, hl, hw⟩ := hw
 subst e1
 cases r
 obtain ⟨its, rv, ht, hz⟩ := I.tuple hq
 refine assign_Tuple_tuple (I.ok.hd hc) ht (by simp [hn, ← hl, rv.length]) hst fun h' hx => ?_
 have I1 : Inv X pins σ H { s with heap := h' } := I.kept (t' := s.toks) fun b o e => hx b o (Nat.ne_of_lt (Heap.lt_size e)) e
 exact h pins _ σ H xs _ Q I1 (by simpa using rv) hw
def gSub (to ti : TE) (t : TSet) : TG := fun v σ H Q => to σ H fun o H1 => ti σ H1 fun i H2 => t o i v H2 fun H3 => Q σ H3
theorem qqV {o i : Expr} {to ti : TE} {t : TSet} (ho : PE X o to) (hi : PE X i ti) (hs : PSet X t)
  (ha : ∀ v, assign (.Subscript o i pos) X.env v = (do
   let ov ← holding [v] (eval o X.env)
   let iv ← holding [v, ov] (eval i X.env)
   standAt pos
   holding [v, ov, iv] (setItem ov iv v)
   release [v, ov, iv] []) := by intro _; rfl) : PG X (.Subscript o i pos) (gSub to ti t) := by
 intro pins s σ H v u Q I r h
 rw [ha]
 refine wpAny_bind (wpAny_holding (thn (ho pins s σ H _ I h) fun ov s1 W' => ?_))
 obtain ⟨x, H1, I1, r1, q1⟩ := W'
 refine wpAny_bind (wpAny_holding (thn (hi pins s1 σ H1 _ I1 q1) fun iv s2 W' => ?_))
 obtain ⟨y, H2, I2, r2, q2⟩ := W'
 refine wpAny_bind (wpAny_standAt (wpAny_bind (wpAny_holding (thn (hs pins s2 σ H2 x y v ov iv u _ I2 r1 r2 r q2) fun _ s3 W' => ?_))))
 obtain ⟨H3, I3, q3⟩ := W'
 exact wpAny_release ⟨σ, H3, I3, q3⟩
def tAsg (te : TE) (g : TG) : TS := fun D σ H => te σ H fun x H1 => g x σ H1 D.nx
theorem qql {tg e : Expr} {te : TE} {g : TG} (he : PE X e te) (hg : PG X tg g) (hs : swapsWithSole [tg] e pos.line X.env = pure false := by rfl) (hw : swappedStores [tg] e X.env = pure none := by rfl)
  (h1 : (assignEach [tg] X.env).map (·.2) = [assign tg X.env] := by rfl) : PS X (.Assign [tg] e pos) (tAsg te g) := by
 intro pins s σ H D I h
 refine wpAny_Assign_stores (thn (he pins s σ H _ I h) fun v s1 W' => ?_) hs hw
 obtain ⟨x, H1, I1, r1, q1⟩ := W'
 rw [h1]
 exact thn (hg pins s1 σ H1 x v _ I1 r1 q1) fun _ s2 q => q
theorem aqs {i : Nat} {x : Str} {e : Expr} {te : TE} {pos' : Pos} (hN : X.N.Nodup) (hi : X.N[i]? = some x) (hx : Loc X.env.scope x) (he : PE X e te) (hs : swapsWith e (some (.Name x pos')) pos.line X.env = pure false := by rfl) (hf : X.fn x = true ∨ X.env.scope.names.lookup x = some .local := by first | exact .inl rfl | exact .inr rfl | assumption) :
  PS X (.Assign [.Name x pos'] e pos) (tAsg te (gName i)) := by
 intro pins s σ H D I h
 refine wpAny_Assign_Name (thn (he pins s σ H _ I h) fun v s1 W' => ?_) hs
 obtain ⟨y, H1, I1, r1, q1⟩ := W'
 exact iqU I1 hN hi hx r1 (fun s2 I2 => ⟨_, H1, I2, q1⟩) hf
def tPar (i j : Nat) (ta : TA) : TS := fun D σ H => ta σ H fun vs H1 => ∃ v w, vs = [v, w] ∧ D.nx ((σ.set i (some v)).set j (some w)) H1
end
section
variable {X : Cx} {pos : Pos}
def tWhile (c : TT) (tb : TS) : TS := fun D σ H => ∃ W : Nat → St → Hp → Prop, (∃ m, W m σ H) ∧ ∀ m σ H, W m σ H →
 c σ H fun b H1 => if b = true then ∃ N : St → Hp → Prop, (∀ σ' H', N σ' H' → ∃ m', m' < m ∧ W m' σ' H') ∧ tb { D with nx := N, ct := N, bk := D.nx } σ H1 else D.nx σ H1
theorem nq2 {c : Expr} {body : List Stmt} {tc : TT} {tb : TS} (hp : PassesOwn (model X.prog X.w) X.A X.env X.xe) (hc : PT X c tc) (hb : PSs X body tb) : PS X (.While c body [] pos) (tWhile tc tb) := by
 intro pins s σ H D I h
 obtain ⟨W, ⟨m0, w0⟩, turn⟩ := h
 refine wpAny_While (codeAny_whileLoop (fun n s' => ∃ σ' H', Inv X pins σ' H' s' ∧ W n σ' H') ?_ m0 ⟨σ, H, I, w0⟩)
 rintro n s1 ⟨σ1, H1, I1, w1⟩
 refine wpAny_passesOwn hp (thn (hc pins s1 σ1 H1 _ I1 (turn n σ1 H1 w1)) fun b s2 W' => ?_)
 obtain ⟨H2, I2, q2⟩ := W'
 cases b with
 | true =>
  obtain ⟨N, hN, q2⟩ := q2
  rw [if_pos rfl]
  refine wpAny_passesOwn hp (thn (hb pins s2 σ1 H2 _ I2 q2) fun f s3 q3 => ?_)
  cases f with
  | next =>
   obtain ⟨σ3, H3, I3, n3⟩ := q3
   obtain ⟨m', hm, w3⟩ := hN σ3 H3 n3
   exact ⟨m', hm, σ3, H3, I3, w3⟩
  | cont =>
   obtain ⟨σ3, H3, I3, n3⟩ := q3
   obtain ⟨m', hm, w3⟩ := hN σ3 H3 n3
   exact ⟨m', hm, σ3, H3, I3, w3⟩
  | brk => exact q3
  | ret v => exact q3
 | false =>
  rw [if_neg Bool.false_ne_true]
  exact wpAny_execs_nil ⟨σ1, H2, I2, q2⟩
end
structure It where
 go : Nat → Hp → Prop
 yld : Nat → Hp → V → Hp → Prop
 stop : Nat → Hp → Prop
def FpOk (X : Cx) (pins : List (Addr × Obj)) (H : Hp) (b : Addr) : Prop :=
 H b = none ∧ b ≠ X.env.locals ∧ b ∉ X.fs ∧ (b ∈ X.ex ∨ X.s₀.heap.objs.size ≤ b) ∧ (∀ x c, X.env.cells.lookup x = some c → c ≠ b) ∧ ∀ p ∈ X.pn ++ pins, p.1 ≠ b
theorem Inv.fpOk {X : Cx} {pins : List (Addr × Obj)} {σ : St} {H H' : Hp} {s : Shared} {b : Addr} (I : Inv X pins σ H s) (hb : s.heap.objs.size ≤ b) (hn : H' b = none) : FpOk X pins H' b := by
 refine ⟨hn, Nat.ne_of_gt (Nat.lt_of_lt_of_le I.lt hb), I.nofs hb, .inr (Nat.le_trans I.sz hb), fun x c e z => ?_, fun p hp z => ?_⟩
 ·obtain ⟨v, q⟩ := I.cell x c e
  exact absurd (Nat.lt_of_lt_of_le q.lt (by rw [z]; exact hb)) (Nat.lt_irrefl _)
 ·exact absurd (Nat.lt_of_lt_of_le (Heap.lt_size (I.pin p hp).1) (by rw [z]; exact hb)) (Nat.lt_irrefl _)
structure Turn (P : Program) (w : World) (K : PySem.W.Frag) (tg : Expr) (J : It) (fp : List Addr) (it : Addr) (tn : Nat → Heap → Prop) : Prop where
 mem : it ∈ fp
 obj : ∀ i h, tn i h → ∀ b ∈ fp, ∃ o, h.get? b = some o ∧ ∀ v, o.data ≠ .cell v
 keep : ∀ i h h', tn i h → (∀ b ∈ fp, ∀ o, h.get? b = some o → h'.get? b = some o) → tn i h'
 item : ∀ (X : Cx), X.prog = P → X.w = w → X.K = K → X.calm = true → ∀ (i : Nat) (pins : List (Addr × Obj)) (s : Shared) (σ : St) (H : Hp) (E : Value → Shared → Prop), Inv X pins σ H s → (∀ b ∈ fp, FpOk X pins H b) → tn i s.heap → J.go i H →
  wpAny (model P w) X.A (pyNext (.ref it)) (fun r s1 => ∃ u, r = some u ∧
   wpAny (model P w) X.A (letOwnedTupleGo tg (.ref it) u) (fun _ s2 => ∃ x H', Inv X pins σ H' s2 ∧ RelV x u ∧ J.yld i H x H' ∧ tn (i + 1) s2.heap ∧ ∀ b ∈ fp, H' b = none) E s1) E s
 done : ∀ (X : Cx), X.prog = P → X.w = w → X.K = K → X.calm = true → ∀ (i : Nat) (pins : List (Addr × Obj)) (s : Shared) (σ : St) (H : Hp) (E : Value → Shared → Prop), Inv X pins σ H s → (∀ b ∈ fp, FpOk X pins H b) → tn i s.heap → J.stop i H →
  wpAny (model P w) X.A (pyNext (.ref it)) (fun r s1 => r = none ∧ Inv X pins σ H s1) E s
 self : ∀ (A : Around) (i : Nat) (s : Shared) (Q : Value → Shared → Prop) (E : Value → Shared → Prop), tn i s.heap → Q (.ref it) s → wpAny (model P w) A (pyIter (.ref it)) Q E s
abbrev TI := St → Hp → (It → Hp → Prop) → Prop
def PIE (X : Cx) (pins : List (Addr × Obj)) (σ : St) (tg : Expr) (R : It → Hp → Prop) (itv : Value) (s2 : Shared) : Prop :=
 ∃ (it : Addr) (fp : List Addr) (tn : Nat → Heap → Prop) (J : It) (H' : Hp), itv = .ref it ∧ Inv X pins σ H' s2 ∧ Turn X.prog X.w X.K tg J fp it tn ∧ tn 0 s2.heap ∧ (∀ b ∈ fp, FpOk X pins H' b) ∧ R J H'
def PI (X : Cx) (tg iter : Expr) (wi : TI) : Prop :=
 ∀ (pins : List (Addr × Obj)) (s : Shared) (σ : St) (H : Hp) (R : It → Hp → Prop), Inv X pins σ H s → wi σ H R →
  wpAny (model X.prog X.w) X.A (eval iter X.env) (fun v s1 => wpAny (model X.prog X.w) X.A (pyIter v) (PIE X pins σ tg R) X.xe s1) X.xe s
theorem lq2 {M : Model} {A : Around} {E : Value → Shared → Prop} {s : Shared} {tg : Expr} {it : Addr} {u : Value} {o : Obj} {n : String} {vs : Array Value} {Q : Unit → Shared → Prop} (ho : s.heap.get? it = some o) (hc : o.cls = .type n) (hd : o.data = .fields vs)
  (hn : ["enumerate", "zip", "dict_itemiterator", "dict_reverseitemiterator", "odict_iterator", "itertools.zip_longest", "itertools.pairwise"].contains n = false) (hQ : Q () s) : wpAny M A (letOwnedTupleGo tg (.ref it) u) Q E s := by
 unfold letOwnedTupleGo
 cases tg <;> first
  | exact wpAny_pure hQ
  | (cases u <;> first
    | exact wpAny_pure hQ
    | (refine wpAny_bind (wpAny_load ho ?_)
       rw [hc, hd]
       show wpAny M A (if (["enumerate", "zip", "dict_itemiterator", "dict_reverseitemiterator", "odict_iterator", "itertools.zip_longest", "itertools.pairwise"].contains n && vs[0]? == some (rawInt _)) = true then _ else _) Q E s
       rw [if_neg (by intro h; rw [hn, Bool.false_and] at h; cases h)]
       exact wpAny_pure hQ))
def Itl (K : PySem.W.Frag) (a : Addr) : It :=
 ⟨fun i H => ∃ xs x, SqL K H a xs ∧ xs[i]? = some x, fun i H x H' => H' = H ∧ ∀ xs, SqL K H a xs → xs[i]? = some x, fun i H => ∃ xs, SqL K H a xs ∧ xs.length ≤ i⟩
def Itt (K : PySem.W.Frag) (a : Addr) : It :=
 ⟨fun i H => ∃ xs x, SqT K H a xs ∧ xs[i]? = some x, fun i H x H' => H' = H ∧ ∀ xs, SqT K H a xs → xs[i]? = some x, fun i H => ∃ xs, SqT K H a xs ∧ xs.length ≤ i⟩
def Itr (lo : Int) (n : Nat) : It := ⟨fun i _ => i < n, fun i H x H' => H' = H ∧ x = .int (lo + i), fun i _ => n ≤ i⟩
theorem lq7 {P : Program} {w : World} {K : PySem.W.Frag} {tg : Expr} (a it : Addr) : Turn P w K tg (Itl K a) [it] it (fun i h => h.IsListIter it a i) where
 mem := by simp
 obj := fun i h st b hb => by
  have e : b = it := by simpa using hb
  subst e
  obtain ⟨o, e, c, d⟩ := st
  exact ⟨o, e, fun v z => by rw [d] at z; cases z⟩
 keep := fun i h h' st k => st.at fun o e => k it (by simp) o e
 item := by
  intro X hP hw hK hc i pins s σ H E I hf st hg
  subst hP hw hK
  obtain ⟨xs, x, hq, hx⟩ := hg
  obtain ⟨its, rv, p, hz⟩ := I.list hq
  obtain ⟨u, hu, ru⟩ := rv.get hx
  obtain ⟨f0, f1, f2, f3, f4, f5⟩ := hf it (by simp)
  refine wpAny_pyNext_list_item st p.isList (x := u) (by simpa using hu) fun h' st' sb => ?_
  have I1 : Inv X pins σ H { s with heap := h' } := I.turned (t' := s.toks) (fun b o hb e => (sb.2 b hb).trans e) f0 f1 f3 f4 f5
  obtain ⟨o, e, c, d⟩ := id st'
  exact ⟨u, rfl, lq2 (s := { s with heap := h' }) e c d (by decide) ⟨x, H, I1, ru, ⟨rfl, fun ys hy => by rw [I.list_inj hy hq]; exact hx⟩, st', fun b hb => (hf b hb).1⟩⟩
 done := by
  intro X hP hw hK hc i pins s σ H E I hf st hg
  subst hP hw hK
  obtain ⟨xs, hq, hx⟩ := hg
  obtain ⟨its, rv, p, hz⟩ := I.list hq
  obtain ⟨f0, f1, f2, f3, f4, f5⟩ := hf it (by simp)
  have hl := rv.length
  exact wpAny_pyNext_list_end (I.ok.hd hc) st p.isList (by simp; omega) fun h' eb => ⟨rfl, I.turned (t' := s.toks) (fun b o hb e => eb b o hb e) f0 f1 f3 f4 f5⟩
 self := fun _ _ _ _ _ st h => wpAny_pyIter_listiter st h
theorem lqa {P : Program} {w : World} {K : PySem.W.Frag} {tg : Expr} (a it : Addr) : Turn P w K tg (Itt K a) [it] it (fun i h => h.IsTupleIter it a i) where
 mem := by simp
 obj := fun i h st b hb => by
  have e : b = it := by simpa using hb
  subst e
  obtain ⟨o, e, c, d⟩ := st
  exact ⟨o, e, fun v z => by rw [d] at z; cases z⟩
 keep := fun i h h' st k => st.at fun o e => k it (by simp) o e
 item := by
  intro X hP hw hK hc i pins s σ H E I hf st hg
  subst hP hw hK
  obtain ⟨xs, x, hq, hx⟩ := hg
  obtain ⟨its, rv, p, hz⟩ := I.tuple hq
  obtain ⟨u, hu, ru⟩ := rv.get hx
  obtain ⟨f0, f1, f2, f3, f4, f5⟩ := hf it (by simp)
  refine wpAny_pyNext_tuple_item st (show s.heap.IsTuple a its.toArray from p) (x := u) (by simpa using hu) fun h' st' sb => ?_
  have I1 : Inv X pins σ H { s with heap := h' } := I.turned (t' := s.toks) (fun b o hb e => (sb.2 b hb).trans e) f0 f1 f3 f4 f5
  obtain ⟨o, e, c, d⟩ := id st'
  exact ⟨u, rfl, lq2 (s := { s with heap := h' }) e c d (by decide) ⟨x, H, I1, ru, ⟨rfl, fun ys hy => by rw [I.tuple_inj hy hq]; exact hx⟩, st', fun b hb => (hf b hb).1⟩⟩
 done := by
  intro X hP hw hK hc i pins s σ H E I hf st hg
  subst hP hw hK
  obtain ⟨xs, hq, hx⟩ := hg
  obtain ⟨its, rv, p, hz⟩ := I.tuple hq
  obtain ⟨f0, f1, f2, f3, f4, f5⟩ := hf it (by simp)
  have hl := rv.length
  exact wpAny_pyNext_tuple_end (I.ok.hd hc) st (show s.heap.IsTuple a its.toArray from p) (by simp; omega) fun h' eb => ⟨rfl, I.turned (t' := s.toks) (fun b o hb e => eb b o hb e) f0 f1 f3 f4 f5⟩
 self := fun _ _ _ _ _ st h => wpAny_pyIter_tupleiter st h
theorem lqv {P : Program} {w : World} {K : PySem.W.Frag} {tg : Expr} (it : Addr) (lo : Int) (n : Nat) : Turn P w K tg (Itr lo n) [it] it (fun i h => IsRangeIter h it (lo + (i : Nat) * 1) ((n : Int) - (i : Nat)) 1) where
 mem := by simp
 obj := fun i h st b hb => by
  have e : b = it := by simpa using hb
  subst e
  exact ⟨_, st, fun v z => by
   have z' : Data.fields _ = Data.cell v := z
   cases z'⟩
 keep := fun i h h' st k => k it (by simp) _ st
 item := by
  intro X hP hw hK hc i pins s σ H E I hf st hg
  subst hP hw hK
  obtain ⟨f0, f1, f2, f3, f4, f5⟩ := hf it (by simp)
  have W := Walks.range (prog := X.prog) (w := X.w) (I.ok.hd hc) it lo 1 n
  refine W.item i s _ _ hg st fun v h' tk hv st' kk => ?_
  obtain ⟨t, rfl⟩ := hv
  have I1 : Inv X pins σ H { s with heap := h', toks := tk } := I.turned (fun b o hb e => kk b o (by simpa using hb) e) f0 f1 f3 f4 f5
  refine ⟨_, rfl, lq2 (s := { s with heap := h', toks := tk }) (n := "range_iterator") st' rfl rfl (by decide) ⟨.int (lo + i), H, I1, ⟨t, ?_⟩, ⟨rfl, rfl⟩, st', fun b hb => (hf b hb).1⟩⟩
  rw [Int.mul_one]
 done := by
  intro X hP hw hK hc i pins s σ H E I hf st hg
  subst hP hw hK
  obtain ⟨f0, f1, f2, f3, f4, f5⟩ := hf it (by simp)
  exact wpAny_pyNext_range_end (I.ok.hd hc) st (by have : n ≤ i := hg; omega) fun h' eb => ⟨rfl, I.turned (t' := s.toks) (fun b o hb e => eb b o hb e) f0 f1 f3 f4 f5⟩
 self := fun _ _ _ _ _ st h => wpAny_pyIter_rangeiter st h
section
variable {X : Cx} {tg : Expr}
def iList (K : PySem.W.Frag) (tl : TE) : TI := fun σ H R => tl σ H fun x H1 => ∃ a, x = .ref a ∧ (∃ xs, SqL K H1 a xs) ∧ R (Itl K a) H1
def iTup (K : PySem.W.Frag) (tl : TE) : TI := fun σ H R => tl σ H fun x H1 => ∃ a, x = .ref a ∧ (∃ xs, SqT K H1 a xs) ∧ R (Itt K a) H1
theorem oqU {l : Expr} {tl : TE} (hl : PE X l tl) : PI X tg l (iList X.K tl) := by
 intro pins s σ H R I h
 refine thn (hl pins s σ H _ I h) fun v s1 W' => ?_
 obtain ⟨x, H1, I1, r1, q1⟩ := W'
 obtain ⟨a, e, ⟨xs, hq⟩, q⟩ := q1
 subst e
 cases r1
 obtain ⟨its, rv, p, hz⟩ := I1.list hq
 refine wpAny_pyIter_list p.isList ?_
 refine ⟨s1.heap.objs.size, [s1.heap.objs.size], _, _, H1, rfl, I1.kept (t' := s1.toks) fun b o e => Heap.get?_push_of_some _ e, lq7 a _, ⟨_, Heap.get?_push_size _ rfl, rfl, rfl⟩, fun b hb => ?_, q⟩
 have e : b = s1.heap.objs.size := by simpa using hb
 subst e
 exact I1.fpOk (Nat.le_refl _) (I1.hok.fresh (Nat.le_refl _))
theorem qqp {l : Expr} {tl : TE} (hl : PE X l tl) : PI X tg l (iTup X.K tl) := by
 intro pins s σ H R I h
 refine thn (hl pins s σ H _ I h) fun v s1 W' => ?_
 obtain ⟨x, H1, I1, r1, q1⟩ := W'
 obtain ⟨a, e, ⟨xs, hq⟩, q⟩ := q1
 subst e
 cases r1
 obtain ⟨its, rv, p, hz⟩ := I1.tuple hq
 refine wpAny_pyIter_tuple (show s1.heap.IsTuple a its.toArray from p) ?_
 refine ⟨s1.heap.objs.size, [s1.heap.objs.size], _, _, H1, rfl, I1.kept (t' := s1.toks) fun b o e => Heap.get?_push_of_some _ e, lqa a _, ⟨_, Heap.get?_push_size _ rfl, rfl, rfl⟩, fun b hb => ?_, q⟩
 have e : b = s1.heap.objs.size := by simpa using hb
 subst e
 exact I1.fpOk (Nat.le_refl _) (I1.hok.fresh (Nat.le_refl _))
theorem nqE {pins : List (Addr × Obj)} {σ : St} {H : Hp} {s : Shared} {R : It → Hp → Prop} {E : Value → Shared → Prop} {lo hi : Int} {t u v : Tok} {tk : Nat} (I : Inv X pins σ H s) (h1 : -(2 ^ 62) ≤ lo) (h2 : lo < 2 ^ 62) (h3 : -(2 ^ 62) ≤ hi) (h4 : hi < 2 ^ 62)
  (q : R (Itr lo (hi - lo).toNat) H) : wpAny (model X.prog X.w) X.A (pyIter (.ref s.heap.objs.size)) (PIE X pins σ tg R) E { s with heap := s.heap.push { cls := .type "range", data := .fields #[.int lo t, .int hi u, .int 1 v] }, toks := tk } := by
 refine wpAny_pyIter_range (IsRange.new ..) (small_one h1 h2 h3 h4) ?_
 have I1 : Inv X pins σ H { s with heap := s.heap.push { cls := .type "range", data := .fields #[.int lo t, .int hi u, .int 1 v] }, toks := tk } := I.kept fun b o e => Heap.get?_push_of_some _ e
 refine ⟨(s.heap.push { cls := .type "range", data := .fields #[.int lo t, .int hi u, .int 1 v] }).objs.size, [(s.heap.push { cls := .type "range", data := .fields #[.int lo t, .int hi u, .int 1 v] }).objs.size], _, _, H, rfl,
  I1.kept (t' := tk) fun b o e => Heap.get?_push_of_some _ e, lqv _ lo (hi - lo).toNat, ?_, fun b hb => ?_, q⟩
 ·have e1 : lo + ((0 : Nat) : Int) * 1 = lo := by simp
  have e2 : (((hi - lo).toNat : Nat) : Int) - ((0 : Nat) : Int) = Builtin.Range.rangeSize lo hi 1 := by rw [rangeSize_one]; split <;> omega
  show IsRangeIter _ _ (lo + ((0 : Nat) : Int) * 1) ((((hi - lo).toNat : Nat) : Int) - ((0 : Nat) : Int)) 1
  rw [e1, e2]
  exact Heap.get?_push_size _ rfl
 ·have e : b = (s.heap.push { cls := .type "range", data := .fields #[.int lo t, .int hi u, .int 1 v] }).objs.size := by simpa using hb
  subst e
  exact I1.fpOk (Nat.le_refl _) (I1.hok.fresh (Nat.le_refl _))
def iRng1 (ta : TA) : TI := fun σ H R => ta σ H fun vs H1 => ∃ j : Int, vs = [.int j] ∧ -(2 ^ 62) ≤ j ∧ j < 2 ^ 62 ∧ R (Itr 0 j.toNat) H1
theorem fqN {a : Expr} {ta : TA} {p pos : Pos} (hg : Gl X "range") (hm : X.mg "range" = none) (ha : PA X [a] ta) (hs : starEach [a] X.env = [(false, eval a X.env)] := by rfl) : PI X tg (.Call (.Name "range" p) [a] [] pos) (iRng1 ta) := by
 intro pins s σ H R I h
 refine Call_ (gqs I hg hm boot_range (PyProof.Rows.callWith_type1 (thn (ha pos pins s σ H _ I h) fun us s1 W' => ?_) hs rfl))
 obtain ⟨vs, H1, I1, r1, q1⟩ := W'
 obtain ⟨j, e, q1, q2, q⟩ := q1
 subst e
 cases r1 with
 | cons r rr =>
  cases rr
  obtain ⟨t, rfl⟩ := r
  exact call_range_1 (nqE I1 (by omega) (by omega) q1 q2 (by simpa using q))
def tFor (wi : TI) (g : TG) (tb : TS) : TS := fun D σ H => wi σ H fun J H1 => ∃ W : Nat → Nat → St → Hp → Prop, (∃ m, W 0 m σ H1) ∧ ∀ i m σ H, W i m σ H →
 (J.stop i H ∧ D.nx σ H) ∨ (J.go i H ∧ ∃ N : St → Hp → Prop, (∀ σ' H', N σ' H' → ∃ m', m' < m ∧ W (i + 1) m' σ' H') ∧ ∀ x H', J.yld i H x H' → g x σ H' fun σ2 H2 => tb { D with nx := N, ct := N, bk := D.nx } σ2 H2)
def pinsAt (fp : List Addr) (h : Heap) : List (Addr × Obj) := fp.filterMap fun b => (h.get? b).map fun o => (b, o)
theorem cqA {fp : List Addr} {h : Heap} {b : Addr} {o : Obj} (hb : b ∈ fp) (e : h.get? b = some o) : (b, o) ∈ pinsAt fp h := List.mem_filterMap.mpr ⟨b, hb, by rw [e]; rfl⟩
theorem mqK {fp : List Addr} {h : Heap} {p : Addr × Obj} (hp : p ∈ pinsAt fp h) : p.1 ∈ fp ∧ h.get? p.1 = some p.2 := by
 obtain ⟨b, hb, e⟩ := List.mem_filterMap.mp hp
 cases q : h.get? b with
 | none => rw [q] at e; cases e
 | some o =>
  rw [q] at e
  have e' : (b, o) = p := Option.some.inj e
  subst e'
  exact ⟨hb, q⟩
theorem Inv.pinned {pins : List (Addr × Obj)} {σ : St} {H : Hp} {s : Shared} {fp : List Addr} (I : Inv X pins σ H s) (hf : ∀ b ∈ fp, FpOk X pins H b) (ho : ∀ b ∈ fp, ∃ o, s.heap.get? b = some o ∧ ∀ v, o.data ≠ .cell v) : Inv X (pins ++ pinsAt fp s.heap) σ H s :=
 I.pins_of fun p hp => (List.mem_append.mp hp).elim (fun z => I.pin p (List.mem_append_right _ z)) fun z => by
  obtain ⟨hb, e⟩ := mqK z
  obtain ⟨f0, f1, f2, _⟩ := hf p.1 hb
  obtain ⟨o, e', d⟩ := ho p.1 hb
  rw [e] at e'; cases e'
  exact ⟨e, f0, f1, f2, d⟩
theorem Inv.unpinned {pins pl : List (Addr × Obj)} {σ : St} {H : Hp} {s : Shared} (I : Inv X (pins ++ pl) σ H s) : Inv X pins σ H s := I.pins_of fun p hp => I.pin p (List.mem_append_right _ (List.mem_append_left _ hp))
theorem jqL {iter : Expr} {body : List Stmt} {wi : TI} {g : TG} {tb : TS} {pos : Pos} (hp : PassesOwn (model X.prog X.w) X.A X.env X.xe) (hc : X.calm = true) (hi : PI X tg iter wi) (hg : PG X tg g) (hb : PSs X body tb)
  (hs : ∀ x, foldedSetIterable iter X.env x = pure x := by intro _; rfl) : PS X (.For tg iter body [] pos) (tFor wi g tb) := by
 intro pins s σ H D I h
 refine wpAny_For (thn (hi pins s σ H _ I h) fun v s1 h1 => thn h1 fun itv s2 h2 => ?_) hs
 obtain ⟨it, fp, tn, J, H2, e, I2, T, st2, f2, W, ⟨m0, w0⟩, turn⟩ := h2
 subst e
 have stat : ∀ {H' : Hp}, (∀ b ∈ fp, H' b = none) → ∀ b ∈ fp, FpOk X pins H' b := fun hn b hb => ⟨hn b hb, (f2 b hb).2⟩
 refine codeAny_forLoop_any (fun n s' => ∃ i σ' H', Inv X pins σ' H' s' ∧ tn i s'.heap ∧ (∀ b ∈ fp, H' b = none) ∧ W i n σ' H') ?_ m0 ⟨0, σ, H2, I2, st2, fun b hb => (f2 b hb).1, w0⟩
 rintro n s3 ⟨i, σ3, H3, I3, st3, fr3, w3⟩
 rcases turn i n σ3 H3 w3 with ⟨stop, qn⟩ | ⟨go, N, hN, step⟩
 ·refine wpAny_passesOwn hp (thn (T.done X rfl rfl rfl hc i pins s3 σ3 H3 X.xe I3 (stat fr3) st3 stop) fun r s4 W' => ?_)
  obtain ⟨hr, I4⟩ := W'
  subst hr
  exact wpAny_execs_nil ⟨σ3, H3, I4, qn⟩
 ·refine wpAny_passesOwn hp (thn (T.item X rfl rfl rfl hc i pins s3 σ3 H3 X.xe I3 (stat fr3) st3 go) fun r s4 W' => ?_)
  obtain ⟨u, hr, h4⟩ := W'
  subst hr
  refine wpAny_passesOwn hp (thn h4 fun _ s5 W' => ?_)
  obtain ⟨x, H5, I5, r5, y5, st5, fr5⟩ := W'
  have I5' := I5.pinned (stat fr5) (T.obj _ _ st5)
  refine wpAny_passesOwn hp (thn (hg _ s5 σ3 H5 x u _ I5' r5 (step x H5 y5)) fun _ s6 W' => ?_)
  obtain ⟨σ6, H6, I6, q6⟩ := W'
  refine wpAny_passesOwn hp (thn (hb _ s6 σ6 H6 _ I6 q6) fun f s7 q7 => ?_)
  have again : ∀ {σ7 : St} {H7 : Hp}, Inv X (pins ++ pinsAt fp s5.heap) σ7 H7 s7 → N σ7 H7 → ∃ m, m < n ∧ ∃ i σ' H', Inv X pins σ' H' s7 ∧ tn i s7.heap ∧ (∀ b ∈ fp, H' b = none) ∧ W i m σ' H' := fun {σ7 H7} I7 n7 => by
   obtain ⟨m', hm, w7⟩ := hN σ7 H7 n7
   refine ⟨m', hm, i + 1, σ7, H7, I7.unpinned, T.keep _ _ _ st5 fun b hb o e => (I7.pin (b, o) (List.mem_append_right _ (List.mem_append_right _ (cqA hb e)))).1, fun b hb => ?_, w7⟩
   obtain ⟨o, e, d⟩ := T.obj _ _ st5 b hb
   exact (I7.pin (b, o) (List.mem_append_right _ (List.mem_append_right _ (cqA hb e)))).2.1
  cases f with
  | next => obtain ⟨σ7, H7, I7, n7⟩ := q7; exact again I7 n7
  | cont => obtain ⟨σ7, H7, I7, n7⟩ := q7; exact again I7 n7
  | brk => obtain ⟨σ7, H7, I7, q7⟩ := q7; exact ⟨σ7, H7, I7.unpinned, q7⟩
  | ret v => obtain ⟨x7, σ7, H7, I7, r7, q7⟩ := q7; exact ⟨x7, σ7, H7, I7.unpinned, r7, q7⟩
end
theorem mqV {lo : Int} {n : Nat} {g : TG} {tb : TS} {D : Ends} {σ : St} {H : Hp} (Pv : Nat → St → Hp → Prop) (h0 : Pv 0 σ H)
  (hs : ∀ i σ H, i < n → Pv i σ H → g (.int (lo + i)) σ H fun σ2 H2 => tb { D with nx := Pv (i + 1), ct := Pv (i + 1), bk := D.nx } σ2 H2) (hd : ∀ σ H, Pv n σ H → D.nx σ H) :
  ∃ W : Nat → Nat → St → Hp → Prop, (∃ m, W 0 m σ H) ∧ ∀ i m σ H, W i m σ H →
   ((Itr lo n).stop i H ∧ D.nx σ H) ∨ ((Itr lo n).go i H ∧ ∃ N : St → Hp → Prop, (∀ σ' H', N σ' H' → ∃ m', m' < m ∧ W (i + 1) m' σ' H') ∧ ∀ x H', (Itr lo n).yld i H x H' → g x σ H' fun σ2 H2 => tb { D with nx := N, ct := N, bk := D.nx } σ2 H2) := by
 refine ⟨fun i m σ H => m = n - i ∧ i ≤ n ∧ Pv i σ H, ⟨n, by simp, Nat.zero_le _, h0⟩, ?_⟩
 rintro i m σ H ⟨rfl, hi, p⟩
 by_cases hlt : i < n
 ·refine .inr ⟨hlt, Pv (i + 1), fun σ' H' p' => ⟨n - (i + 1), by omega, rfl, hlt, p'⟩, fun x H' y => ?_⟩
  obtain ⟨e, y⟩ := y
  subst e y
  exact hs i σ _ hlt p
 ·have e : i = n := by omega
  subst e
  exact .inl ⟨Nat.le_refl _, hd σ H p⟩
abbrev R2 := V → V → Hp → VK → Prop
def OpR (X : Cx) (f : Value → Value → Sem Value) (r : R2) : Prop :=
 ∀ (pins : List (Addr × Obj)) (s : Shared) (σ : St) (H : Hp) (x y : V) (v u : Value) (Q : VK), Inv X pins σ H s → RelV x v → RelV y u → r x y H Q →
  wpAny (model X.prog X.w) X.A (f v u) (EP X pins σ Q) X.xe s
def UnR (X : Cx) (f : Value → Sem Value) (r : V → Hp → VK → Prop) : Prop :=
 ∀ (pins : List (Addr × Obj)) (s : Shared) (σ : St) (H : Hp) (x : V) (v : Value) (Q : VK), Inv X pins σ H s → RelV x v → r x H Q →
  wpAny (model X.prog X.w) X.A (f v) (EP X pins σ Q) X.xe s
def CallR (X : Cx) (f : Value) (r : List V → Hp → VK → Prop) : Prop :=
 ∀ (pins : List (Addr × Obj)) (s : Shared) (σ : St) (H : Hp) (xs : List V) (us : List Value) (Q : VK), Inv X pins σ H s → Vals xs us → r xs H Q →
  wpAny (model X.prog X.w) X.A (call f us) (EP X pins σ Q) X.xe s
def tOp (r : R2) (ta tb : TE) : TE := fun σ H Q => ta σ H fun x H1 => tb σ H1 fun y H2 => r x y H2 Q
def tUn (r : V → Hp → VK → Prop) (ta : TE) : TE := fun σ H Q => ta σ H fun x H1 => r x H1 Q
def rI (C : Int → Int → Prop) (g : Int → Int → V) : R2 := fun x y H Q => ∃ i j, x = .int i ∧ y = .int j ∧ C i j ∧ Q (g i j) H
def rI0 (g : Int → Int → V) : R2 := fun x y H Q => ∃ i j, x = .int i ∧ y = .int j ∧ Q (g i j) H
def rU (g : Int → V) : V → Hp → VK → Prop := fun x H Q => ∃ i, x = .int i ∧ Q (g i) H
section
variable {X : Cx} {a b c : Expr} {ta tb tc : TE} {pos : Pos}
theorem binT (ha : PE X a ta) (hb : PE X b tb) {pins : List (Addr × Obj)} {s : Shared} {σ : St} {H : Hp} {R : V → V → Hp → Prop} (I : Inv X pins σ H s)
  (h : ta σ H fun x H1 => tb σ H1 fun y H2 => R x y H2) {Q : Value → Shared → Prop} {f : Value → Value → Sem Value}
  (hf : ∀ v u s2 x y H2, Inv X pins σ H2 s2 → RelV x v → RelV y u → R x y H2 → wpAny (model X.prog X.w) X.A (f v u) Q X.xe s2) :
  wpAny (model X.prog X.w) X.A (eval a X.env) (fun v s₁ => wpAny (model X.prog X.w) X.A (eval b X.env) (fun u s₂ => wpAny (model X.prog X.w) X.A (f v u) Q X.xe s₂) X.xe s₁) X.xe s := by
 refine thn (ha pins s σ H _ I h) fun v s1 W' => ?_
 obtain ⟨x, H1, I1, r1, q1⟩ := W'
 refine thn (hb pins s1 σ H1 _ I1 q1) fun u s2 W' => ?_
 obtain ⟨y, H2, I2, r2, q2⟩ := W'
 exact hf v u s2 x y H2 I2 r1 r2 q2
theorem aqj {op : Operator} {r : R2} (ho : OpR X (binaryOp op) r) (ha : PE X a ta) (hb : PE X b tb) : PE X (.BinOp a op b pos) (tOp r ta tb) := by
 intro pins s σ H Q I h
 exact wpAny_BinOp (binT ha hb I h fun v u s2 x y H2 I2 rx ry q => ho pins s2 σ H2 x y v u Q I2 rx ry q)
theorem kq7 {op : UnaryOp} {r : V → Hp → VK → Prop} (ho : UnR X (unaryOp op) r) (ha : PE X a ta) : PE X (.UnaryOp op a pos) (tUn r ta) := by
 intro pins s σ H Q I h
 exact UnaryOp_ (thn (ha pins s σ H _ I h) fun v s1 ⟨x, H1, I1, r1, q1⟩ => ho pins s1 σ H1 x v Q I1 r1 q1)
theorem opI {f : Value → Value → Sem Value} {C : Int → Int → Prop} {g : Int → Int → Int}
  (rule : ∀ (i j : Int) (t u : Tok) (s : Shared) (Q : Value → Shared → Prop) (E : Value → Shared → Prop), C i j → Q (.int (g i j) s.toks) { s with toks := s.toks + 1 } → wpAny (model X.prog X.w) X.A (f (.int i t) (.int j u)) Q E s) :
  OpR X f (rI C fun i j => .int (g i j)) := by
 intro pins s σ H x y v u Q I rx ry h
 obtain ⟨i, j, rfl, rfl, hc, q⟩ := h
 obtain ⟨t, rfl⟩ := rx
 obtain ⟨t', rfl⟩ := ry
 exact rule i j t t' s _ _ hc ⟨.int (g i j), H, I.tok _, ⟨_, rfl⟩, q⟩
theorem opI0 {f : Value → Value → Sem Value} {g : Int → Int → Int}
  (rule : ∀ (i j : Int) (t u : Tok) (s : Shared) (Q : Value → Shared → Prop) (E : Value → Shared → Prop), Q (.int (g i j) s.toks) { s with toks := s.toks + 1 } → wpAny (model X.prog X.w) X.A (f (.int i t) (.int j u)) Q E s) :
  OpR X f (rI0 fun i j => .int (g i j)) := by
 intro pins s σ H x y v u Q I rx ry h
 obtain ⟨i, j, rfl, rfl, q⟩ := h
 obtain ⟨t, rfl⟩ := rx
 obtain ⟨t', rfl⟩ := ry
 exact rule i j t t' s _ _ ⟨.int (g i j), H, I.tok _, ⟨_, rfl⟩, q⟩
theorem opB0 {f : Value → Value → Sem Value} {g : Int → Int → Bool}
  (rule : ∀ (i j : Int) (t u : Tok) (s : Shared) (Q : Value → Shared → Prop) (E : Value → Shared → Prop), Q (.bool (g i j)) s → wpAny (model X.prog X.w) X.A (f (.int i t) (.int j u)) Q E s) :
  OpR X f (rI0 fun i j => .bl (g i j)) := by
 intro pins s σ H x y v u Q I rx ry h
 obtain ⟨i, j, rfl, rfl, q⟩ := h
 obtain ⟨t, rfl⟩ := rx
 obtain ⟨t', rfl⟩ := ry
 exact rule i j t t' s _ _ ⟨.bl (g i j), H, I, rfl, q⟩
def CDiv (i j : Int) : Prop := 0 < j ∧ j < 1073741824
def CMul (i j : Int) : Prop := (-(2 ^ 64) < i ∧ i < 2 ^ 64) ∨ (-(2 ^ 64) < j ∧ j < 2 ^ 64)
theorem CMul.ok {i j : Int} (h : CMul i j) : IntMulOk i j := by
 rcases h with ⟨h1, h2⟩ | ⟨h1, h2⟩
 ·exact .of_left (intBits_le_64 h1 h2)
 ·exact .of_right (intBits_le_64 h1 h2)
theorem qqN : OpR X (binaryOp .Add) (rI0 fun i j => .int (i + j)) := opI0 fun _ _ _ _ _ _ _ q => add_int q
theorem jqi : OpR X (binaryOp .Sub) (rI0 fun i j => .int (i - j)) := opI0 fun _ _ _ _ _ _ _ q => sub_int q
theorem pq8 : OpR X (binaryOp .Mult) (rI CMul fun i j => .int (i * j)) := opI fun _ _ _ _ _ _ _ hc q => mul_int q hc.ok
theorem bqd : OpR X (binaryOp .FloorDiv) (rI CDiv fun i j => .int (i / j)) := opI fun i j _ _ _ _ _ hc q => by
 have h1 : (0 : Int) < j := hc.1
 have h2 : j < 1073741824 := hc.2
 exact floordiv_int (by omega) (by rw [Int.fdiv_eq_ediv_of_nonneg i (by omega)]; exact q) (.inl (PyProof.noPylong_small (by omega)))
theorem aqL : OpR X (binaryOp .Mod) (rI (fun _ j => 0 < j) fun i j => .int (i % j)) := opI fun i j _ _ _ _ _ hc q => by
 have h1 : (0 : Int) < j := hc
 exact mod_int' (by omega) (by rw [Int.fmod_eq_emod_of_nonneg i (by omega)]; exact q)
theorem unI {f : Value → Sem Value} {g : Int → Int}
  (rule : ∀ (i : Int) (t : Tok) (s : Shared) (Q : Value → Shared → Prop) (E : Value → Shared → Prop), Q (.int (g i) s.toks) { s with toks := s.toks + 1 } → wpAny (model X.prog X.w) X.A (f (.int i t)) Q E s) :
  UnR X f (rU fun i => .int (g i)) := by
 intro pins s σ H x v Q I rx h
 obtain ⟨i, rfl, q⟩ := h
 obtain ⟨t, rfl⟩ := rx
 exact rule i t s _ _ ⟨.int (g i), H, I.tok _, ⟨_, rfl⟩, q⟩
theorem iqe : UnR X (unaryOp .USub) (rU fun i => .int (-i)) := unI fun _ _ _ _ _ q => neg_int q
end
def scal : V → V → Bool
 | .non, .non => true | .non, .int _ => true | .int _, .non => true | .non, .bl _ => true | .bl _, .non => true | .non, .str _ => true | .str _, .non => true
 | .int _, .int _ => true | .bl _, .bl _ => true | .str _, .str _ => true | .byt _, .byt _ => true
 | .int _, .str _ => true | .str _, .int _ => true | .bl _, .str _ => true | .str _, .bl _ => true
 | _, _ => false
def rEq : R2 := fun x y H Q => scal x y = true ∧ Q (.bl (decide (x = y))) H
def rNe : R2 := fun x y H Q => scal x y = true ∧ Q (.bl (!decide (x = y))) H
theorem lqU {i j : Int} : decide (V.int i = V.int j) = (i == j) := by
 rw [Bool.eq_iff_iff]
 simp
theorem oqm {i j : Bool} : decide (V.bl i = V.bl j) = (i == j) := by
 rw [Bool.eq_iff_iff]
 simp
theorem mqX {i j : Str} : decide (V.str i = V.str j) = (i == j) := by
 rw [Bool.eq_iff_iff]
 simp
theorem mqR {i j : Array UInt8} : decide (V.byt i = V.byt j) = (i.toList == j.toList) := by
 rw [Bool.eq_iff_iff]
 cases i
 cases j
 simp
section
variable {X : Cx} {a b c : Expr} {ta tb tc : TE} {pos : Pos}
theorem aqH {pins : List (Addr × Obj)} {σ : St} {H : Hp} {s : Shared} {Q : VK} {k k' : Bool} (I : Inv X pins σ H s) (q : Q (.bl k) H) (e : k = k') : EP X pins σ Q (.bool k') s := by
 subst e
 exact ⟨.bl k, H, I, rfl, q⟩
theorem aq3 : OpR X (compareOp .Eq) rEq := by
 intro pins s σ H x y v u Q I rx ry h
 obtain ⟨hs, q⟩ := h
 cases x with
 | non =>
  cases rx
  cases y with
  | non => cases ry; exact PySem.EqNone.eq_none_none (aqH I q (by simp))
  | bl j => cases ry; exact PySem.EqNone.eq_none_bool (aqH I q (by simp))
  | int j => obtain ⟨t', rfl⟩ := ry; exact PySem.EqNone.eq_none_int (aqH I q (by simp))
  | str j => obtain ⟨t', rfl⟩ := ry; exact PySem.EqNone.eq_none_str (aqH I q (by simp))
  | _ => exact absurd (show false = true from hs) Bool.false_ne_true
 | bl i =>
  cases rx
  cases y with
  | non => cases ry; exact PySem.EqNone.eq_bool_none (aqH I q (by simp))
  | bl j => cases ry; exact eq_bool (aqH I q oqm)
  | str j => obtain ⟨t', rfl⟩ := ry; exact PySem.EqMixed.eq_bool_str (aqH I q (by simp))
  | _ => exact absurd (show false = true from hs) Bool.false_ne_true
 | int i =>
  obtain ⟨t, rfl⟩ := rx
  cases y with
  | non => cases ry; exact PySem.EqNone.eq_int_none (aqH I q (by simp))
  | int j => obtain ⟨t', rfl⟩ := ry; exact eq_int (aqH I q lqU)
  | str j => obtain ⟨t', rfl⟩ := ry; exact PySem.EqMixed.eq_int_str (aqH I q (by simp))
  | _ => exact absurd (show false = true from hs) Bool.false_ne_true
 | str i =>
  obtain ⟨t, rfl⟩ := rx
  cases y with
  | non => cases ry; exact PySem.EqNone.eq_str_none (aqH I q (by simp))
  | bl j => cases ry; exact PySem.EqMixed.eq_str_bool (aqH I q (by simp))
  | int j => obtain ⟨t', rfl⟩ := ry; exact PySem.EqMixed.eq_str_int (aqH I q (by simp))
  | str j => obtain ⟨t', rfl⟩ := ry; exact eq_str (aqH I q mqX)
  | _ => exact absurd (show false = true from hs) Bool.false_ne_true
 | byt i =>
  obtain ⟨t, rfl⟩ := rx
  cases y with
  | byt j => obtain ⟨t', rfl⟩ := ry; exact PySem.W.eq_bytes (aqH I q mqR)
  | _ => exact absurd (show false = true from hs) Bool.false_ne_true
 | _ => cases y <;> exact absurd (show false = true from hs) Bool.false_ne_true
theorem lqn : OpR X (compareOp .NotEq) rNe := by
 intro pins s σ H x y v u Q I rx ry h
 obtain ⟨hs, q⟩ := h
 cases x with
 | non =>
  cases rx
  cases y with
  | non => cases ry; exact PySem.EqNone.ne_none_none (aqH I q (by simp))
  | bl j => cases ry; exact PySem.EqNone.ne_none_bool (aqH I q (by simp))
  | int j => obtain ⟨t', rfl⟩ := ry; exact PySem.EqNone.ne_none_int (aqH I q (by simp))
  | str j => obtain ⟨t', rfl⟩ := ry; exact PySem.EqNone.ne_none_str (aqH I q (by simp))
  | _ => exact absurd (show false = true from hs) Bool.false_ne_true
 | bl i =>
  cases rx
  cases y with
  | non => cases ry; exact PySem.EqNone.ne_bool_none (aqH I q (by simp))
  | bl j => cases ry; exact ne_bool (aqH I q (congrArg not oqm))
  | str j => obtain ⟨t', rfl⟩ := ry; exact PySem.EqMixed.ne_bool_str (aqH I q (by simp))
  | _ => exact absurd (show false = true from hs) Bool.false_ne_true
 | int i =>
  obtain ⟨t, rfl⟩ := rx
  cases y with
  | non => cases ry; exact PySem.EqNone.ne_int_none (aqH I q (by simp))
  | int j => obtain ⟨t', rfl⟩ := ry; exact ne_int (aqH I q (congrArg not lqU))
  | str j => obtain ⟨t', rfl⟩ := ry; exact PySem.EqMixed.ne_int_str (aqH I q (by simp))
  | _ => exact absurd (show false = true from hs) Bool.false_ne_true
 | str i =>
  obtain ⟨t, rfl⟩ := rx
  cases y with
  | non => cases ry; exact PySem.EqNone.ne_str_none (aqH I q (by simp))
  | bl j => cases ry; exact PySem.EqMixed.ne_str_bool (aqH I q (by simp))
  | int j => obtain ⟨t', rfl⟩ := ry; exact PySem.EqMixed.ne_str_int (aqH I q (by simp))
  | str j => obtain ⟨t', rfl⟩ := ry; exact ne_str (aqH I q (congrArg not mqX))
  | _ => exact absurd (show false = true from hs) Bool.false_ne_true
 | byt i =>
  obtain ⟨t, rfl⟩ := rx
  cases y with
  | byt j => obtain ⟨t', rfl⟩ := ry; exact PySem.W.ne_bytes (aqH I q (congrArg not mqR))
  | _ => exact absurd (show false = true from hs) Bool.false_ne_true
 | _ => cases y <;> exact absurd (show false = true from hs) Bool.false_ne_true
theorem jqX : OpR X (compareOp .Lt) (rI0 fun i j => .bl (decide (i < j))) := opB0 fun _ _ _ _ _ _ _ q => lt_int q
theorem qqB : OpR X (compareOp .LtE) (rI0 fun i j => .bl (decide (i ≤ j))) := opB0 fun _ _ _ _ _ _ _ q => le_int q
theorem mqJ : OpR X (compareOp .Gt) (rI0 fun i j => .bl (decide (j < i))) := opB0 fun _ _ _ _ _ _ _ q => gt_int q
theorem mqg : OpR X (compareOp .In) (fun x y H Q => ∃ i j, x = .str i ∧ y = .str j ∧ Q (.bl (!(Builtin.Str.occurrences j i 0 j.length 1).isEmpty)) H) := by
 intro pins s σ H x y v u Q I rx ry h
 obtain ⟨i, j, rfl, rfl, q⟩ := h
 obtain ⟨t, rfl⟩ := rx
 obtain ⟨t', rfl⟩ := ry
 exact in_str (aqH I q rfl)
theorem qqD : OpR X (compareOp .Is) (fun x y H Q => y = .non ∧ Q (.bl (decide (x = .non))) H) := by
 intro pins s σ H x y v u Q I rx ry h
 obtain ⟨rfl, q⟩ := h
 cases ry
 refine is_none_gen (aqH I q ?_)
 cases x <;> first
  | (cases rx; rfl)
  | (obtain ⟨t, rfl⟩ := rx; rfl)
theorem nomark (b : Expr) {op : CmpOp} (h : op ≠ .In := by decide) (h2 : op ≠ .NotIn := by decide) : behindInMarks op b = false := by
 have e1 : (op == CmpOp.In) = false := by cases op <;> first | rfl | exact absurd rfl h
 have e2 : (op == CmpOp.NotIn) = false := by cases op <;> first | rfl | exact absurd rfl h2
 cases b <;> simp [behindInMarks, e1, e2]
theorem bqb {op : CmpOp} {r : R2} (ho : OpR X (compareOp op) r) (ha : PE X a ta) (hb : PE X b tb) (hm : behindInMarks op b = false) : PE X (.Compare a [op] [b] pos) (tOp r ta tb) := by
 intro pins s σ H Q I h
 exact wpAny_Compare1 (binT ha hb I h fun v u s2 x y H2 I2 rx ry q => ho pins s2 σ H2 x y v u Q I2 rx ry q) hm
def tTest (t : TE) : TT := fun σ H Q => t σ H fun x H' => ∃ k, x = .bl k ∧ Q k H'
theorem aqm {op : CmpOp} {r : R2} (ho : OpR X (compareOp op) r) (ha : PE X a ta) (hb : PE X b tb) (hm : behindInMarks op b = false) : PT X (.Compare a [op] [b] pos) (tTest (tOp r ta tb)) := by
 intro pins s σ H Q I h
 refine wpAny_isTrue_Compare1 (thn (ha pins s σ H _ I h) fun v s1 ⟨x, H1, I1, r1, q1⟩ => thn (hb pins s1 σ H1 _ I1 q1) fun u s2 ⟨y, H2, I2, r2, q2⟩ =>
  thn (ho pins s2 σ H2 x y v u _ I2 r1 r2 q2) fun c s3 ⟨z, H3, I3, r3, k, e, q3⟩ => ?_) hm
 subst e
 cases r3
 exact wpAny_truthy_bool ⟨H3, I3, q3⟩
def tChain (r r' : R2) (ta tb tc : TE) : TE := fun σ H Q => ta σ H fun x H1 => tb σ H1 fun y H2 => r x y H2 fun z H3 => ∃ k, z = .bl k ∧
 (if k = true then tc σ H3 fun w' H4 => r' y w' H4 Q else Q (.bl false) H3)
theorem nqj {op op' : CmpOp} {r r' : R2} (ho : OpR X (compareOp op) r) (ho' : OpR X (compareOp op') r') (ha : PE X a ta) (hb : PE X b tb) (hc : PE X c tc)
  (hm : lastMarks [op, op'] [b, c] = false := by with_unfolding_all rfl) : PE X (.Compare a [op, op'] [b, c] pos) (tChain r r' ta tb tc) := by
 intro pins s σ H Q I h
 refine Compare_chain (thn (ha pins s σ H _ I h) fun v s1 ⟨x, H1, I1, r1, q1⟩ => chain_link (thn (hb pins s1 σ H1 _ I1 q1) fun u s2 ⟨y, H2, I2, r2, q2⟩ =>
  thn (ho pins s2 σ H2 x y v u _ I2 r1 r2 q2) fun d s3 ⟨z, H3, I3, r3, k, e, q3⟩ => ?_)) hm
 subst e
 cases r3
 refine wpAny_truthy_bool ?_
 cases k with
 | false => exact ite_ff ⟨.bl false, H3, I3, rfl, q3⟩
 | true => exact ite_tt (chain_last (thn (hc pins s3 σ H3 _ I3 q3) fun w' s4 ⟨z', H4, I4, r4, q4⟩ => ho' pins s4 σ H4 y z' u w' Q I4 r2 r4 q4))
theorem line63 : (sizeLine : Nat) < 2 ^ 63 := by rw [sizeLine_eq]; decide
theorem lqe : OpR X (binaryOp .Add) (fun x y H Q => ∃ i j, x = .str i ∧ y = .str j ∧ i.length + j.length ≤ sizeLine ∧ Q (.str (i ++ j)) H) := by
 intro pins s σ H x y v u Q I rx ry h
 obtain ⟨i, j, rfl, rfl, hz, q⟩ := h
 obtain ⟨t, rfl⟩ := rx
 obtain ⟨t', rfl⟩ := ry
 exact add_str (fun t' tk => ⟨.str (i ++ j), H, I.tok _, ⟨_, rfl⟩, q⟩) hz
theorem vals1 {x : V} {us : List Value} (r : Vals [x] us) : ∃ u, us = [u] ∧ RelV x u := by
 cases r with
 | cons r1 r2 => cases r2; exact ⟨_, rfl, r1⟩
theorem vals2 {x y : V} {us : List Value} (r : Vals [x, y] us) : ∃ u w', us = [u, w'] ∧ RelV x u ∧ RelV y w' := by
 cases r with
 | cons r1 r2 =>
  cases r2 with
  | cons r3 r4 => cases r4; exact ⟨_, _, rfl, r1, r3⟩
theorem mqe (hc : X.calm = true) : CallR X (.builtin "max") (fun xs H Q => ∃ i j, xs = [.int i, .int j] ∧ Q (.int (if j > i then j else i)) H) := by
 intro pins s σ H xs us Q I r h
 obtain ⟨i, j, rfl, q⟩ := h
 obtain ⟨u, w', rfl, ⟨t, rfl⟩, ⟨t', rfl⟩⟩ := vals2 r
 refine max_two_ints (I.ok.hd hc) fun h' tk k => ⟨_, H, I.kept k, ?_, q⟩
 by_cases hj : j > i
 ·rw [if_pos hj, if_pos hj]; exact ⟨_, rfl⟩
 ·rw [if_neg hj, if_neg hj]; exact ⟨_, rfl⟩
theorem mq4 : CallR X (.builtin "ord") (fun xs H Q => ∃ x, xs = [.str x] ∧ x.length = 1 ∧ Q (.int (x.cps.getD 0 0 : Nat)) H) := by
 intro pins s σ H xs us Q I r h
 obtain ⟨x, rfl, hz, q⟩ := h
 obtain ⟨u, rfl, t, rfl⟩ := vals1 r
 exact ord_of_one hz ⟨.int _, H, I.tok _, ⟨_, rfl⟩, q⟩
end
structure ObjM (h : Heap) (x dx C : Addr) (mA : Str → Option Value) : Prop where
 obj : h.get? x = some (PySem.W.instObj C dx)
 ns : h.Ns1 dx mA
 ne : dx ≠ x
theorem lqZ {h : Heap} {dx : Addr} {mA : Str → Option Value} (n : h.Ns1 dx mA) : ∃ od, h.get? dx = some od ∧ ∀ name, PySem.W.lookIn name od = some (mA name) := by
 obtain ⟨o, es, ep, ho, hd, hk, _, hm⟩ := n
 refine ⟨o, ho, fun name => ?_⟩
 have e := hm name
 unfold nsFind findBy at e
 rw [← Array.find?_toList] at e
 unfold PySem.W.lookIn
 rw [hd]
 dsimp only
 split
 ·rename_i y q
  rw [q] at e
  exact congrArg some e
 ·rename_i q
  rw [q] at e
  have a : es.toList.any (·.refKey) = false := by
   rw [List.any_eq_false]
   intro y hy
   obtain ⟨z, t, hkey⟩ := hk y (Array.mem_toList_iff.mp hy)
   simp [DictEntry.refKey, hkey]
  have a' : ¬ es.toList.any (·.refKey) = true := by rw [a]; exact Bool.false_ne_true
  rw [if_neg a']
  exact congrArg some e
theorem ObjM.look {h : Heap} {x dx C : Addr} {mA : Str → Option Value} (I : ObjM h x dx C mA) : ∃ od, PySem.W.InstAt h x (PySem.W.instObj C dx) C (some od) ∧ ∀ name, PySem.W.lookIn name od = some (mA name) :=
 let ⟨od, ho, hl⟩ := lqZ I.ns
 ⟨od, ⟨I.obj, rfl, rfl, ho⟩, hl⟩
section
variable {prog : Program} {w : World} {A : Around} {E : Value → Shared → Prop} {s : Shared} {K : PySem.W.Frag} {x dx C f : Addr} {mA : Str → Option Value} {name : Str} {v : Value}
end
def putF (f : Str) (v : V) : List (Str × V) → List (Str × V)
 | [] => [(f, v)]
 | (g, x) :: r => if g = f then (g, v) :: r else (g, x) :: putF f v r
section
variable {P : Program} {w : World} {H H' : Hp} {h h' : Heap} {a C dx : Addr} {fs fs' : List (Str × V)}
theorem oqJ (hok : HOk P w H h) (e : H a = some (.ins C dx fs)) : ∃ mA, ObjM h a dx C mA ∧ (∀ f, RelO (fs.lookup f) (mA f)) ∧ PySem.Within mA (fs.map (·.1)) ∧ fs.length ≤ 1000 ∧ H dx = some (.own a) := by
 obtain ⟨d, z, ne, ob, mA, n, r, q⟩ := (show ObjOk P w H h a (.ins C dx fs) from hok a _ e)
 exact ⟨mA, ⟨ob, n, ne⟩, r, q, z, d⟩
end
structure Cls (K : PySem.W.Frag) (C : Addr) : Prop where
 pg : PySem.W.plainGet K C Str.empty = true
 hd : PySem.W.hasDictIn K C = true
 po : PySem.W.plainOver K C = true
 sa : PySem.W.findIn K (.ref C) "__setattr__" = some (some (.builtin "object.__setattr__"))
theorem Cls.get {K : PySem.W.Frag} {C : Addr} (c : Cls K C) (f : Str) : PySem.W.plainGet K C f = true := c.pg
def NoAttr (K : PySem.W.Frag) (C : Addr) (f : Str) : Prop := PySem.W.findIn K (.ref C) f = some none
structure Con (K : PySem.W.Frag) (C : Addr) (f : Str) (v : V) (u : Value) : Prop where
 at_ : PySem.W.findIn K (.ref C) f = some (some u)
 rel : RelV v u
 get : PySem.W.specialIn K u "__get__" = some none
 cp : PySem.W.copiedNames.contains f = false
structure Meth (K : PySem.W.Frag) (C : Addr) (m : Str) (f : Addr) : Prop where
 at_ : PySem.W.findIn K (.ref C) m = some (some (.ref f))
 fn : PySem.W.isFn K (.ref f) = true
 kp : PySem.W.keepIn K (.ref f) = true
section
variable {X : Cx} {pins : List (Addr × Obj)} {σ : St} {H : Hp} {s : Shared} {a C dx : Addr} {fs : List (Str × V)} {f : Str} {v : V} {A : Around} {E : Value → Shared → Prop}
end
def tFld (K : PySem.W.Frag) (ta : TE) (f : Str) : TE := fun σ H Q => ta σ H fun x H1 => ∃ a C dx fs v, x = .ref a ∧ H1 a = some (.ins C dx fs) ∧ Cls K C ∧ NoAttr K C f ∧ fs.lookup f = some v ∧ Q v H1
def sFld (K : PySem.W.Frag) (ta tv : TE) (f : Str) : TS := fun D σ H => tv σ H fun y H1 => ta σ H1 fun x H2 => ∃ a C dx fs, x = .ref a ∧ H2 a = some (.ins C dx fs) ∧ Cls K C ∧ NoAttr K C f ∧ fs.length < 1000 ∧
 D.nx σ (upd H2 a (.ins C dx (putF f y fs)))
section
variable {X : Cx} {o e value : Expr} {f : Str} {pos pos' tpos : Pos} {ta tv : TE}
end
section
variable {X : Cx} {pins : List (Addr × Obj)} {σ : St} {H : Hp} {s : Shared} {A : Around} {E : Value → Shared → Prop} {Q : Value → Shared → Prop} {c : Value} {b : Bool}
inductive TyOf (K : PySem.W.Frag) (H : Hp) : V → Value → Prop where
 | non : TyOf K H .non (.type "NoneType")
 | bl (x : Bool) : TyOf K H (.bl x) (.type "bool")
 | int (i : Int) : TyOf K H (.int i) (.type "int")
 | str (x : Str) : TyOf K H (.str x) (.type "str")
 | flt (x : UInt64) : TyOf K H (.flt x) (.type "float")
 | lst {a : Addr} {xs : List V} (e : H a = some (.lst xs)) : TyOf K H (.ref a) (.type "list")
 | frz {a : Addr} {o : Obj} {xs : List V} (e : H a = some (.frz o (.lst xs))) : TyOf K H (.ref a) (.type "list")
 | tup {a : Addr} {xs : List V} (e : H a = some (.tup xs)) : TyOf K H (.ref a) (.type "tuple")
 | dK {a : Addr} {kvs : List (Key × V)} (e : H a = some (.dK kvs)) : TyOf K H (.ref a) (.type "dict")
 | dT {a : Addr} {kvs : List (List Key × V)} (e : H a = some (.dT kvs)) : TyOf K H (.ref a) (.type "dict")
 | ins {a C dx : Addr} {fs : List (Str × V)} (e : H a = some (.ins C dx fs)) (cl : Cls K C) (ha : PySem.W.findIn K (.ref C) "__class__" = some (some (.builtin "object.__class__")))
   (hn : PySem.W.specialIn K (.builtin "object.__class__") "__get__" = some (some (.builtin "getset_descriptor.__get__"))) (htk : PySem.W.takesIn K (.builtin "object.__class__") = some true)
   (hm : PySem.W.mroIn K C (.type "object") = some true) : TyOf K H (.ref a) (.ref C)
theorem lq4 {x : V} {u t : Value} (I : Inv X pins σ H s) (rx : RelV x u) (ty : TyOf X.K H x t) (e : PySem.W.kitOne X.K t c = some b) (h : ∀ tk, Q (.bool b) { s with toks := tk }) :
  wpAny (model X.prog X.w) A (call (.builtin "isinstance") [u, c]) Q E s := by
 cases ty with
 | non => cases (show u = Value.none from rx); exact PySem.W.kia_one PySem.W.kitx_none I.kIn True.intro e (fun z => nomatch z) h
 | bl y => cases (show u = Value.bool y from rx); exact PySem.W.kia_one PySem.W.kitx_bool I.kIn True.intro e (fun z => nomatch z) h
 | int i => obtain ⟨t, q⟩ := (show ∃ t, u = Value.int i t from rx); cases q; exact PySem.W.kia_one PySem.W.kitx_int I.kIn True.intro e (fun z => nomatch z) h
 | str y => obtain ⟨t, q⟩ := (show ∃ t, u = Value.str y t from rx); cases q; exact PySem.W.kia_one PySem.W.kitx_str I.kIn True.intro e (fun z => nomatch z) h
 | flt y => obtain ⟨t, q⟩ := (show ∃ t, u = Value.float y t from rx); cases q; exact PySem.W.kia_one PySem.W.kitx_float I.kIn True.intro e (fun z => nomatch z) h
 | @lst a xs ea =>
  cases (show u = Value.ref a from rx)
  obtain ⟨_, _, n, _, h1⟩ := (show ObjOk X.prog X.w H s.heap a (.lst xs) from I.hok a _ ea)
  exact PySem.W.kia_one PySem.W.kitx_list I.kIn ⟨_, h1, rfl⟩ e (fun z => nomatch z) h
 | @frz a ob xs ea =>
  cases (show u = Value.ref a from rx)
  obtain ⟨_, _, _, n, _, h1⟩ := (show ObjOk X.prog X.w H s.heap a (.frz ob (.lst xs)) from I.hok a _ ea)
  exact PySem.W.kia_one PySem.W.kitx_list I.kIn ⟨_, h1, rfl⟩ e (fun z => nomatch z) h
 | @tup a xs ea =>
  cases (show u = Value.ref a from rx)
  obtain ⟨_, _, _, p⟩ := (show ObjOk X.prog X.w H s.heap a (.tup xs) from I.hok a _ ea)
  obtain ⟨o, h1, h2, _⟩ := p
  exact PySem.W.kia_one PySem.W.kitx_tuple I.kIn ⟨o, h1, h2⟩ e (fun z => nomatch z) h
 | @dK a kvs ea =>
  cases (show u = Value.ref a from rx)
  obtain ⟨_, _, vs, _, p⟩ := (show ObjOk X.prog X.w H s.heap a (.dK kvs) from I.hok a _ ea)
  obtain ⟨o, es, ep, h1, h2, _⟩ := p
  exact PySem.W.kia_one PySem.W.kitx_dict I.kIn ⟨o, h1, h2.1⟩ e (fun z => nomatch z) h
 | @dT a kvs ea =>
  cases (show u = Value.ref a from rx)
  obtain ⟨_, _, xs, _, o, es, ep, h1, h2, _⟩ := (show ObjOk X.prog X.w H s.heap a (.dT kvs) from I.hok a _ ea)
  exact PySem.W.kia_one PySem.W.kitx_dict I.kIn ⟨o, h1, h2.1⟩ e (fun z => nomatch z) h
 | @ins a C dx fs ea cl ha hn htk hm =>
  cases (show u = Value.ref a from rx)
  obtain ⟨mA, O, _⟩ := oqJ I.hok ea
  obtain ⟨od, J, _⟩ := O.look
  exact PySem.W.kia_one (PySem.W.kitx_own (cl.get _) cl.hd ha hn htk hm) I.kIn J e (fun z => nomatch z) h
end
structure Room (k : Nat) (A : Around) : Prop where
 hd : A.handled = none
 dp : A.depth + 3 * k + 5 < recursionLimit
 un : A.units + 16 * k + 200 < cLine
theorem Room.mono {j k : Nat} {A : Around} (r : Room k A) (h : j ≤ k) : Room j A := ⟨r.hd, by have := r.dp; omega, by have := r.un; omega⟩
theorem Room.deeper {k : Nat} {A : Around} (r : Room (k + 1) A) (env : Env) : Room k (A.deeper env) :=
 ⟨r.hd, by have := r.dp; show A.depth + 1 + 3 * k + 5 < _; omega, by have := r.un; show A.units + 3 + 16 * k + 200 < _; omega⟩
theorem Room.depth {k : Nat} {A : Around} (r : Room k A) : A.depth < recursionLimit := by have := r.dp; omega
theorem Room.units {k : Nat} {A : Around} (r : Room k A) : A.units + 64 < cLine := by have := r.un; omega
def tNil : TA := fun _ H Q => Q [] H
def tCons (ta : TE) (tr : TA) : TA := fun σ H Q => ta σ H fun x H1 => tr σ H1 fun xs H2 => Q (x :: xs) H2
section
variable {X : Cx} {e : Expr} {es : List Expr} {te : TE} {t : TA} {pos : Pos}
theorem aqb : PA X [] tNil := fun _ _ _ _ H Q I h => Calls.spliced_nil ⟨[], H, I, .nil, h⟩
theorem aqa (ha : PE X e te) (hr : PA X es t) (hs : starEach (e :: es) X.env = (false, eval e X.env) :: starEach es X.env := by rfl) : PA X (e :: es) (tCons te t) := by
 intro pos pins s σ H Q I h
 rw [hs]
 show wpAny _ _ (spliced ((false, eval e X.env) :: backTo pos (starEach es X.env))) _ _ s
 refine Calls.spliced_cons (thn (ha pins s σ H _ I h) fun u s1 W' => ?_)
 obtain ⟨x, H1, I1, r1, q1⟩ := W'
 exact thn (hr pos pins s1 σ H1 _ I1 q1) fun us s2 ⟨xs, H2, I2, r2, q2⟩ => ⟨x :: xs, H2, I2, .cons r1 r2, q2⟩
def tTup (t : TA) : TE := fun σ H Q => t σ H fun xs H1 => xs.length ≤ sizeLine ∧ ∀ p, H1 p = none → Q (.ref p) (upd H1 p (.tup xs))
def tLst (t : TA) : TE := fun σ H Q => t σ H fun xs H1 => xs.length ≤ sizeLine ∧ ∀ p, H1 p = none → Q (.ref p) (upd H1 p (.lst xs))
theorem rqf (h : PA X es t) : PE X (.List es pos) (tLst t) := by
 intro pins s σ H Q I hq
 refine wpAny_List_spliced (thn (h pos pins s σ H _ I hq) fun us s1 ⟨xs, H1, I1, r, z, q⟩ => ⟨by rw [← r.length]; exact z, ?_⟩)
 have hf : H1 s1.heap.objs.size = none := I1.hok.fresh (Nat.le_refl _)
 refine ⟨.ref s1.heap.objs.size, upd H1 s1.heap.objs.size (.lst xs), I1.laid (t' := s1.toks) (fun b u e => Heap.get?_push_of_some _ e) (Nat.le_refl _) ?_, rfl, q _ hf⟩
 exact ⟨z, us, 0, r, Heap.get?_push_size _ rfl⟩
end
abbrev Sp := List V → Hp → VK → XK → Prop
abbrev CXT := List Env → Hp → Shared → XK → Value → Shared → Prop
structure Env0 (P : Program) (w : World) (K : PySem.W.Frag) (mg : Str → Option Value) (base : Heap) (A : Around) (outer : List Env) (s : Shared) (H : Hp) : Prop where
 frames : A.frames = some outer
 mod : Mod K mg base
 bs : ∀ b o, base.get? b = some o → s.heap.get? b = some o ∧ H b = none
 bsz : base.objs.size ≤ s.heap.objs.size
 funs : s.heap.FunFrames base outer
 frf : ∀ b ∈ frs outer, H b = none
 hok : HOk P w H s.heap
 bare : AllBare s.gens
def CE (outer : List Env) (P : Program) (w : World) (H : Hp) (s : Shared) (Q : VK) (u : Value) (s' : Shared) : Prop :=
 ∃ v H', s'.os = s.os ∧ AllBare s'.gens ∧ Un (frs outer) [] H H' s.heap s'.heap ∧ HOk P w H' s'.heap ∧ RelV v u ∧ Q v H'
def CR (CX : CXT) (outer : List Env) (P : Program) (w : World) (H : Hp) (s : Shared) (Q : VK) (E : XK) (r : Result) (s' : Shared) : Prop :=
 match r with
 | .ok (.ret u) => CE outer P w H s Q u s'
 | .ok _ => False
 | .error e => CX outer H s E e s'
structure FnOk (P : Program) (w : World) (K : PySem.W.Frag) (mg : Str → Option Value) (base : Heap) (CX : CXT) (k : Nat) (f : Addr) (fd : FuncData) (ps : List Str) (sp : Sp) : Prop where
 len : ∀ vs H Q E, sp vs H Q E → vs.length = ps.length
 run : ∀ (A : Around) (outer : List Env) (s : Shared) (H : Hp) (args : Args) (us : List Value) (vs : List V) (Q : VK) (E : XK), Room k A → Env0 P w K mg base A outer s H → BindsTo s fd args (ps.zip us) → Vals vs us → sp vs H Q E →
  codeAny (model P w) A (.call (.ref f) args) (CR CX outer P w H s Q E) s
section
variable {X : Cx} {pins : List (Addr × Obj)} {σ : St} {H : Hp} {s s' : Shared}
theorem Inv.env0 (I : Inv X pins σ H s) : Env0 X.prog X.w X.K X.mg X.base X.A X.stack s H :=
 ⟨I.ok.frames, I.ok.mod, I.bs, Nat.le_trans I.ok.bsz I.sz, I.stack, I.stkFree, I.hok, I.bare⟩
theorem Inv.after {Q : VK} {u : Value} (I : Inv X pins σ H s) (h : CE X.stack X.prog X.w H s Q u s') : EP X pins σ Q u s' := by
 obtain ⟨v, H', os, bare, un, hok, r, q⟩ := h
 obtain ⟨hh, g, d, t, os'⟩ := s'
 obtain rfl : os' = s.os := os
 exact ⟨v, H', I.call (h' := hh) (g' := g) (d' := d) (t' := t) (ch := []) un hok bare (fun b z => absurd z (by simp)), r, q⟩
end
def tCall (sp : Sp) (dvs : List V) (E : XK) (t : TA) : TE := fun σ H Q => t σ H fun vs H1 => sp (vs ++ dvs) H1 Q E
def tMeth (C : Addr) (m : Str) (sp : Sp) (dvs : List V) (E : XK) (ta : TE) (t : TA) : TE := fun σ H Q => ta σ H fun x H1 => ∃ a dx fs, x = .ref a ∧ H1 a = some (.ins C dx fs) ∧ fs.lookup m = none ∧
 t σ H1 fun vs H2 => sp (x :: (vs ++ dvs)) H2 Q E
def tMake (C : Addr) (sp : Sp) (dvs : List V) (E : XK) (t : TA) : TE := fun σ H Q => t σ H fun vs H1 => ∀ x dx, H1 x = none → H1 dx = none → dx ≠ x →
 sp (.ref x :: (vs ++ dvs)) (upd (upd H1 dx (.own x)) x (.ins C dx [])) (fun v H2 => v = .non ∧ Q (.ref x) H2) E
def Binds (K : PySem.W.Frag) (fd : FuncData) (ps : List Str) (ds : List Value) : Prop :=
 ∀ (s : Shared) (us : List Value), K.In s.heap → (us ++ ds).length = ps.length → BindsTo s fd ⟨us, []⟩ (ps.zip (us ++ ds))
theorem Binds.all {K : PySem.W.Frag} {fd : FuncData} {ps : List Str} (h : ∀ us : List Value, us.length = ps.length → bindArgs fd ⟨us, []⟩ = pure (ps.zip us)) : Binds K fd ps [] := fun s us _ hl => by
 rw [List.append_nil] at hl ⊢
 exact .of_eq (h us hl)
def Passes (CX : CXT) (X : Cx) (E : XK) : Prop := ∀ (pins : List (Addr × Obj)) (σ : St) (H : Hp) (s : Shared) (e : Value) (s' : Shared), Inv X pins σ H s → CX X.stack H s E e s' → X.xe e s'
section
variable {X : Cx} {CX : CXT} {k : Nat} {f C : Addr} {fd : FuncData} {ps : List Str} {sp : Sp} {dvs : List V} {ds : List Value} {E : XK} {x m : Str} {p pos apos : Pos} {e o : Expr} {es : List Expr} {ta : TE} {t : TA}
theorem oqn {pins : List (Addr × Obj)} {σ : St} {H : Hp} {s : Shared} {Q : VK} {us : List Value} {vs : List V} (F : FnOk X.prog X.w X.K X.mg X.base CX k f fd ps sp) (hr : Room k X.A) (hb : Binds X.K fd ps ds) (hd : Vals dvs ds) (hx : Passes CX X E)
  (I : Inv X pins σ H s) (r : Vals vs us) (h : sp (vs ++ dvs) H Q E) : wpAny (model X.prog X.w) X.A (call (.ref f) us) (EP X pins σ Q) X.xe s := by
 have r2 : Vals (vs ++ dvs) (us ++ ds) := r.append hd
 have hl : (us ++ ds).length = ps.length := by rw [← r2.length]; exact F.len _ _ _ _ h
 refine wpAny_call (codeAny_mono (F.run X.A X.stack s H ⟨us, []⟩ (us ++ ds) (vs ++ dvs) Q E hr I.env0 (hb s us I.kIn hl) r2 h) fun r s' hq => ?_)
 cases r with
 | error e => exact hx pins σ H s e s' I hq
 | ok fl =>
  cases fl with
  | ret u => exact I.after hq
  | next => exact False.elim hq
  | brk => exact False.elim hq
  | cont => exact False.elim hq
theorem aqn (F : FnOk X.prog X.w X.K X.mg X.base CX k f fd ps sp) (hr : Room k X.A) (hg : Gl X x) (hm : X.mg x = some (.ref f)) (hk : PySem.W.keepIn X.K (.ref f) = true) (hb : Binds X.K fd ps ds) (hd : Vals dvs ds) (hx : Passes CX X E)
  (ha : PA X (e :: es) t) (hdb : (x == ("__debug__" : Str)) = false := by decide) (he : starEach (e :: es) X.env = (false, eval e X.env) :: starEach es X.env := by rfl) (hpl : (backTo pos (starEach es X.env)).any (·.1) = false := by rfl) :
  PE X (.Call (.Name x p) (e :: es) [] pos) (tCall sp dvs E t) := by
 intro pins s σ H Q I h
 refine wpAny_Call_Name_kw (gqn I hg hm ?_ hdb)
 refine PySem.W.callWith_K (h₀ := X.base) I.ok.mod.kin hk (thn (ha pos pins s σ H _ I h) fun us s1 ⟨vs, H1, I1, r, q⟩ => ⟨I1.kIn, ?_⟩) he hpl
 exact oqn F hr hb hd hx I1 r q
theorem nq3 (F : FnOk X.prog X.w X.K X.mg X.base CX k f fd ps sp) (hr : Room k X.A) (hg : Gl X x) (hm : X.mg x = some (.ref f)) (hk : PySem.W.keepIn X.K (.ref f) = true) (hb : Binds X.K fd ps ds) (hd : Vals dvs ds) (hx : Passes CX X E)
  (hdb : (x == ("__debug__" : Str)) = false := by decide) : PE X (.Call (.Name x p) [] [] pos) (tCall sp dvs E tNil) := by
 intro pins s σ H Q I h
 refine wpAny_Call_Name_kw (gqn I hg hm ?_ hdb)
 exact PySem.W.callWith_K0 I.kIn hk (oqn (us := []) F hr hb hd hx I .nil h)
structure Mk (K : PySem.W.Frag) (C f : Addr) : Prop where
 makes : PySem.W.makesIn K C = true
 init : PySem.W.findIn K (.ref C) "__init__" = some (some (.ref f))
 fn : PySem.W.isFn K (.ref f) = true
 kp : PySem.W.keepIn K (.ref C) = true
end
section
variable {X : Cx} {CX : CXT} {k : Nat} {f C : Addr} {fd : FuncData} {ps ks : List Str} {sp : Sp} {E : XK} {x m : Str} {p pos apos kpos : Pos} {e o : Expr} {es : List Expr} {kws : List Keyword} {te ta : TE} {t tk : TA} {nm : Option Str}
structure KBinds (K : PySem.W.Frag) (fd : FuncData) (ps ks : List Str) (g : List Value → List Value → List Value) (gV : List V → List V → List V) : Prop where
 to : ∀ (s : Shared) (us ws : List Value), K.In s.heap → (g us ws).length = ps.length → BindsTo s fd ⟨us, ks.zip ws⟩ (ps.zip (g us ws))
 rel : ∀ {vs : List V} {us : List Value} {zs : List V} {ws : List Value}, Vals vs us → Vals zs ws → Vals (gV vs zs) (g us ws)
variable {g : List Value → List Value → List Value} {gV : List V → List V → List V}
end
structure FnScope (N P : List Str) (sc : Scope) : Prop where
 kind : sc.kind = .function
 co : sc.isCoroutine = false
 gen : sc.isGenerator = false
 nd : N.Nodup
 pre : N.take P.length = P
 par : ∀ x ∈ P, sc.names.lookup x = some .local ∨ sc.names.lookup x = some .cell
 nofree : ∀ y ∈ sc.names, y.2 ≠ .free
theorem jqo {kindOf : Str → Option NameKind} {x : Str} : ∀ {binds : List (Str × Value)} {m : Str → Option Value}, (∀ v, (x, v) ∉ binds) → bindL kindOf binds m x = m x
 | [], _, _ => rfl
 | (n, v) :: r, m, h => by
  unfold bindL
  rw [jqo fun w hw => h w (List.mem_cons_of_mem _ hw)]
  split
  ·have : x ≠ n := by rintro rfl; exact h v List.mem_cons_self
   simp [this]
  ·rfl
theorem jqh {kindOf : Str → Option NameKind} {x : Str} : ∀ {binds : List (Str × Value)} {m : Str → Option Value}, (∀ v, (x, v) ∉ binds) → bindC kindOf binds m x = m x
 | [], _, _ => rfl
 | (n, v) :: r, m, h => by
  unfold bindC
  rw [jqh fun w hw => h w (List.mem_cons_of_mem _ hw)]
  split
  ·rfl
  ·have : x ≠ n := by rintro rfl; exact h v List.mem_cons_self
   simp [this]
theorem jqI {kindOf : Str → Option NameKind} {x : Str} {v : Value} : ∀ {P : List Str} {vs : List Value} {i : Nat} {m : Str → Option Value}, P.Nodup → P[i]? = some x → vs[i]? = some v → kindOf x = some .local →
  bindL kindOf (P.zip vs) m x = some v
 | [], _, _, _, _, h, _, _ => by simp at h
 | _ :: _, [], _, _, _, _, h, _ => by simp at h
 | p :: P, w :: vs, 0, m, nd, h1, h2, hk => by
  simp at h1 h2; subst h1; subst h2
  show bindL kindOf ((p, w) :: P.zip vs) m p = _
  unfold bindL
  rw [jqo fun v hv => (List.nodup_cons.mp nd).1 (List.of_mem_zip hv).1, if_pos hk]
  simp
 | p :: P, w :: vs, i + 1, m, nd, h1, h2, hk => by
  show bindL kindOf ((p, w) :: P.zip vs) m x = _
  unfold bindL
  exact jqI (i := i) (List.nodup_cons.mp nd).2 (by simpa using h1) (by simpa using h2) hk
theorem jqx {kindOf : Str → Option NameKind} {x : Str} {v : Value} : ∀ {P : List Str} {vs : List Value} {i : Nat} {m : Str → Option Value}, P.Nodup → P[i]? = some x → vs[i]? = some v → kindOf x ≠ some .local →
  bindC kindOf (P.zip vs) m x = some v
 | [], _, _, _, _, h, _, _ => by simp at h
 | _ :: _, [], _, _, _, _, h, _ => by simp at h
 | p :: P, w :: vs, 0, m, nd, h1, h2, hk => by
  simp at h1 h2; subst h1; subst h2
  show bindC kindOf ((p, w) :: P.zip vs) m p = _
  unfold bindC
  rw [jqh fun v hv => (List.nodup_cons.mp nd).1 (List.of_mem_zip hv).1, if_neg hk]
  simp
 | p :: P, w :: vs, i + 1, m, nd, h1, h2, hk => by
  show bindC kindOf ((p, w) :: P.zip vs) m x = _
  unfold bindC
  exact jqx (i := i) (List.nodup_cons.mp nd).2 (by simpa using h1) (by simpa using h2) hk
def start (N : List Str) (vs : List V) : St := vs.map some ++ List.replicate (N.length - vs.length) none
def cxOf (CX : CXT) (P : Program) (w : World) (K : PySem.W.Frag) (mg : Str → Option Value) (base : Heap) (N : List Str) (qual : Str) (scope : Scope) (f : Addr) (cd : Value) (A : Around) (outer : List Env) (s : Shared) (H : Hp) (E : XK) : Cx where
 prog := P
 w := w
 K := K
 mg := mg
 base := base
 A := A.deeper (envOfC qual scope s.heap.objs.size f cd)
 N := N
 s₀ := s
 H₀ := H
 env := envOfC qual scope s.heap.objs.size f cd
 outer := outer
 stack := envOfC qual scope s.heap.objs.size f cd :: outer
 ex := []
 calm := true
 fn := fun _ => true
 pn := []
 xe := fun e s' => wpAny (model P w) (A.deeper (envOfC qual scope s.heap.objs.size f cd)) (leaving (envOfC qual scope s.heap.objs.size f cd) e) (fun _ s'' => CX outer H s E e s'') (fun e' s'' => CX outer H s E e' s'') s'
theorem kqI {sc : Scope} {n : Nat} {x : Str} (h : sc.names.lookup x = some .cell) : ∃ c, (cellsFrom n sc.names []).lookup x = some c := by
 have q := PySem.W.cellsFrom_some sc.names n [] (.inl h)
 exact Option.isSome_iff_exists.mp q
theorem mqT {CX : CXT} {P : Program} {w : World} {K : PySem.W.Frag} {mg : Str → Option Value} {base : Heap} {N ps : List Str} {qual : Str} {scope : Scope} {f : Addr} {cd : Value} {A : Around} {outer : List Env} {s s1 : Shared} {H : Hp} {E : XK} {us : List Value} {vs : List V}
  (S : FnScope N ps scope) (hd : A.handled = none) (e0 : Env0 P w K mg base A outer s H) (hl : vs.length = ps.length) (r : Vals vs us)
  (x : InCallC s s.heap.objs.size (bindL (envOfC qual scope s.heap.objs.size f cd).kindOf (ps.zip us) fun _ => none) (cellsFrom (s.heap.objs.size + 1) scope.names []) (bindC (envOfC qual scope s.heap.objs.size f cd).kindOf (ps.zip us) fun _ => none) s1) :
  Inv (cxOf CX P w K mg base N qual scope f cd A outer s H E) [] (start N vs) H s1 := by
 have hpl : ps.length ≤ N.length := by have := congrArg List.length S.pre; rw [List.length_take] at this; omega
 obtain ⟨h1, tk, rfl, hk⟩ := x.done
 have noA : ∀ b : Addr, b ∉ (cxOf CX P w K mg base N qual scope f cd A outer s H E).ex := fun b z => absurd (show b ∈ ([] : List Addr) from z) (by simp)
 refine ⟨⟨e0.mod, S.kind, rfl, rfl, Nat.le_refl _, fun y z c h1 h2 => ?_, fun y hy => ?_, fun y c _ h => ?_, fun _ => hd, Around.frames_deeper e0.frames, .inr ⟨rfl, rfl⟩, fun b z => absurd z (noA b), e0.bs, e0.bsz, fun b _ _ => noA b, fun b z => absurd z (noA b), e0.funs, e0.frf⟩,
  rfl, e0.bare, Un.kept hk, ⟨_, x.toInCall.ns, fun i y v h1 h2 h3 => ?_⟩, fun y c h => ⟨_, x.cell y c h⟩, e0.hok.fresh (Nat.le_refl _), fun y c h => ?_, fun p hp => absurd (show p ∈ ([] : List (Addr × Obj)) from hp) (by simp), e0.hok.kept hk, ?_⟩
 ·exact name_of_addr x.apart (PySem.mem_of_lookup h1) (PySem.mem_of_lookup h2)
 ·have hy : scope.names.lookup y = some .cell ∨ scope.names.lookup y = some .free := hy
  rcases hy with hy | hy
  ·exact kqI hy
  ·exact absurd rfl (S.nofree _ (PySem.mem_of_lookup hy))
 ·exact Nat.le_of_lt (x.above y c (PySem.mem_of_lookup h))
 ·have hi : i < vs.length := by
   unfold start at h2
   by_cases hi : i < vs.length
   ·exact hi
   ·rw [List.getElem?_append_right (by simpa using hi)] at h2
    rw [List.getElem?_replicate] at h2
    split at h2 <;> cases h2
  have ha : vs[i]? = some v := by
   unfold start at h2
   rw [List.getElem?_append_left (by simpa using hi), List.getElem?_map] at h2
   cases e : vs[i]? with
   | none => rw [e] at h2; cases h2
   | some a => rw [e] at h2; cases h2; rfl
  obtain ⟨u, hu, rv⟩ := r.get ha
  have hp : ps[i]? = some y := by
   rw [← S.pre, List.getElem?_take_of_lt (by omega)]; exact h1
  have ndP : ps.Nodup := by rw [← S.pre]; exact S.nd.sublist (List.take_sublist _ _)
  refine ⟨u, rv, ?_⟩
  rcases S.par y (List.mem_of_getElem? hp) with k | k
  ·exact .inl ⟨k, jqI ndP hp hu k⟩
  ·obtain ⟨c, e⟩ := kqI (n := s.heap.objs.size + 1) k
   refine .inr ⟨.inl k, c, e, ?_⟩
   have q := x.cell y c e
   rw [jqx ndP hp hu (by show scope.names.lookup y ≠ _; rw [k]; decide)] at q
   exact q
 ·exact e0.hok.fresh (Nat.le_of_lt (x.above y c (PySem.mem_of_lookup h)))
 ·unfold start
  show _ = N.length
  rw [List.length_append, List.length_map, List.length_replicate]
  omega
theorem pqk {CX : CXT} {P : Program} {w : World} {K : PySem.W.Frag} {mg : Str → Option Value} {base : Heap} {k : Nat} {f : Addr} {name qual : Str} {params : Arguments} {body : List Stmt} {scope : Scope} {dV kV doc pm cdv ct oc : Value} {an od : Option Addr}
  {osl : Array (Option Value)} {N ps : List Str} {sp : Sp} (lk : K.lookup f = some ⟨oc, od, .func (PySem.W.fnOf name qual params body scope dV kV doc pm an cdv ct), osl⟩) (hcd : PySem.W.codeIn K cdv qual = true) (S : FnScope N ps scope)
  (len : ∀ vs H Q E, sp vs H Q E → vs.length = ps.length)
  (hbody : ∀ (A : Around) (outer : List Env) (s : Shared) (H : Hp) (vs : List V) (Q : VK) (E : XK), Room k (A.deeper (envOfC qual scope s.heap.objs.size f cdv)) → sp vs H Q E →
   ∃ t, PSs (cxOf CX P w K mg base N qual scope f cdv A outer s H E) body t ∧ t { nx := fun _ H' => Q .non H', rt := Q } (start N vs) H) :
  FnOk P w K mg base CX (k + 1) f (PySem.W.fnOf name qual params body scope dV kV doc pm an cdv ct) ps sp := by
 refine ⟨len, fun A outer s H args us vs Q E hr e0 hb r hsp => ?_⟩
 have hl := len _ _ _ _ hsp
 have KX : K.In s.heap := e0.mod.kin.keeps fun b o e => (e0.bs b o e).1
 have lim : s.heap.NoLimit := e0.mod.nolimit.keeps fun b o e => (e0.bs b o e).1
 have hkind : ∀ y ∈ ps.zip us, scope.names.lookup y.1 = some .local ∨ (scope.names.lookup y.1 = some .cell ∧ ((cellsFrom (s.heap.objs.size + 1) scope.names []).lookup y.1).isSome = true) := fun ⟨n, v⟩ hy => by
  rcases S.par n (List.of_mem_zip hy).1 with q | q
  ·exact .inl q
  ·exact .inr ⟨q, PySem.W.cellsFrom_some _ _ _ (.inl q)⟩
 refine codeAny_call_function hr.depth (KX _ _ lk) rfl S.co S.gen rfl (PySem.W.codeRec_of KX hcd) (hb _ _ _ _ ?_)
 refine wpAny_newFunctionEnv_cells S.kind hkind fun env he s1 x => ?_
 subst he
 refine ⟨lim.keeps x.toInCall.keep, codeAny_func ?_⟩
 obtain ⟨t, ht, hq⟩ := hbody A outer s H vs Q E (hr.deeper _) hsp
 have I : Inv (cxOf CX P w K mg base N qual scope f cdv A outer s H E) [] (start N vs) H s1 := mqT S hr.hd e0 hl r x
 refine wpAny_mono (ht [] s1 (start N vs) H _ I hq) (fun fl s' hs => ?_) fun e s' hs => hs
 have fin : ∀ {σ' : St} {H' : Hp} {v : V} {u : Value}, Inv (cxOf CX P w K mg base N qual scope f cdv A outer s H E) [] σ' H' s' → RelV v u → Q v H' → CE outer P w H s Q u s' :=
  fun {σ' H' v u} J rv q => ⟨v, H', J.os, J.bare, J.base, J.hok, rv, q⟩
 cases fl with
 | ret u =>
  obtain ⟨v, σ', H', J, rv, q⟩ := hs
  exact fin J rv q
 | next =>
  obtain ⟨σ', H', J, q⟩ := hs
  exact fin (v := V.non) (u := Value.none) J rfl q
 | brk =>
  obtain ⟨_, _, _, q⟩ := hs
  exact False.elim q
 | cont =>
  obtain ⟨_, _, _, q⟩ := hs
  exact False.elim q
section
variable {X : Cx} {x : Str} {p pos : Pos} {e : Expr} {es : List Expr} {t : TA} {id T : String} {r : List V → Hp → VK → Prop}
def tCB (r : List V → Hp → VK → Prop) (t : TA) : TE := fun σ H Q => t σ H fun vs H1 => r vs H1 Q
theorem aqt (hc : CallR X (.builtin id) r) (hg : Gl X x) (hm : X.mg x = none) (hv : bootBuiltins x = some (.builtin id)) (ha : PA X (e :: es) t) (hn : x ≠ "__name__" := by decide) (hdb : (x == ("__debug__" : Str)) = false := by decide)
  (he : starEach (e :: es) X.env = (false, eval e X.env) :: starEach es X.env := by rfl) (hpl : (backTo pos (starEach es X.env)).any (·.1) = false := by rfl) : PE X (.Call (.Name x p) (e :: es) [] pos) (tCB r t) := by
 intro pins s σ H Q I h
 refine wpAny_Call_Name_kw (gqs I hg hm hv ?_ hn hdb)
 exact PyProof.Rows.callWith_builtin1 (thn (ha pos pins s σ H _ I h) fun us s1 ⟨vs, H1, I1, r1, q1⟩ => hc pins s1 σ H1 vs us Q I1 r1 q1) he hpl
theorem gq8 (hc : CallR X (.type T) r) (hg : Gl X x) (hm : X.mg x = none) (hv : bootBuiltins x = some (.type T)) (ha : PA X (e :: es) t) (hn : x ≠ "__name__" := by decide) (hdb : (x == ("__debug__" : Str)) = false := by decide)
  (he : starEach (e :: es) X.env = (false, eval e X.env) :: starEach es X.env := by rfl) (hpl : (backTo pos (starEach es X.env)).any (·.1) = false := by rfl) : PE X (.Call (.Name x p) (e :: es) [] pos) (tCB r t) := by
 intro pins s σ H Q I h
 refine wpAny_Call_Name_kw (gqs I hg hm hv ?_ hn hdb)
 exact PyProof.Rows.callWith_type1 (thn (ha pos pins s σ H _ I h) fun us s1 ⟨vs, H1, I1, r1, q1⟩ => hc pins s1 σ H1 vs us Q I1 r1 q1) he hpl
end
end L2
namespace HT
open PySem PyProof.Rows
section
open PySem.SeqAt
open PySem.AutoSeq1 (wpAny_loadPart')
open PySem.MeetsSeq PySem.MeetsSeq2 PySem.MeetsSeq3
end
section
variable {prog : Program} {w : World} {A : Around} {E : Value → Shared → Prop} {s : Shared}
theorem cat_tup {t b : Addr} {vs ws : List Value} {Q : Value → Shared → Prop} (ht : IsTup s.heap t vs.toArray) (hb : IsTup s.heap b ws.toArray) (hv : vs ≠ [])
  (h1 : ws = [] → Q (.ref t) s) (h2 : ws ≠ [] → Q (.ref s.heap.objs.size) { s with heap := s.heap.push { cls := .type "tuple", data := .seq (vs ++ ws).toArray } })
  (hsz : vs.length + ws.length ≤ sizeLine) : wpAny (model prog w) A (binaryOp .Add (.ref t) (.ref b)) Q E s := by
 obtain ⟨⟨cls, dd, data, sl⟩, ho, hc, n, hd⟩ := id ht
 obtain ⟨⟨cls2, dd2, data2, sl2⟩, ho2, hc2, n2, hd2⟩ := id hb
 simp only at hc hd hc2 hd2
 subst hc hd hc2 hd2
 have e : vs.toArray ++ ws.toArray = (vs ++ ws).toArray := by simp
 by_cases hw : ws = []
 ·exact concat_meets ⟨_, ho, rfl⟩ ⟨_, ho2, rfl⟩ noFill_tuple_add seq_tuple_add PySem.F.slot_tuple_add PySem.F.entry_tuple_add (PySem.F.args_tuple_add_2 _ _)
   (tuple_addW1 t b vs.toArray ws.toArray n n2 dd dd2 sl sl2 (by simpa using hv) (by simp [hw])) ⟨ho, ho2, h1 hw⟩
 ·refine concat_meets ⟨_, ho, rfl⟩ ⟨_, ho2, rfl⟩ noFill_tuple_add seq_tuple_add PySem.F.slot_tuple_add PySem.F.entry_tuple_add (PySem.F.args_tuple_add_2 _ _)
   (tuple_addW2 t b vs.toArray ws.toArray n n2 dd dd2 sl sl2 (by simpa using hv) (by simpa using hw) (by rw [List.size_toArray, List.size_toArray]; exact hsz)) ⟨ho, ho2, ?_⟩
  rw [e]
  exact h2 hw
def sIx (n d : Nat) : Option Int → Nat
 | none => d
 | some v => if v < 0 then (v + (n : Int)).toNat else min v.toNat n
theorem sIx_none (n d : Nat) : sIx n d none = d := rfl
theorem sIx_nat (n d k : Nat) : sIx n d (some (k : Int)) = min k n := by
 show (if (k : Int) < 0 then ((k : Int) + (n : Int)).toNat else min (k : Int).toNat n) = min k n
 rw [if_neg (by omega), Int.toNat_natCast]
theorem rqd (n d : Nat) (hd : d ≤ n) (o : Option Int) : sIx n d o ≤ n := by
 cases o with
 | none => exact hd
 | some v =>
  show (if v < 0 then (v + (n : Int)).toNat else min v.toNat n) ≤ n
  by_cases hv : v < 0
  ·rw [if_pos hv]; omega
  ·rw [if_neg hv]; exact Nat.min_le_right _ _
theorem mqp (v : Int) (n d : Nat) : (if v < 0 then max (v + (n : Int)) 0 else min v (n : Int)) = ((sIx n d (some v) : Nat) : Int) := by
 show (if v < 0 then max (v + (n : Int)) 0 else min v (n : Int)) = (((if v < 0 then (v + (n : Int)).toNat else min v.toNat n) : Nat) : Int)
 by_cases hv : v < 0
 ·simp only [if_pos hv]; omega
 ·simp only [if_neg hv]; omega
theorem lqq (lo hi : Option Int) (n : Nat) : Builtin.Slice.sliceAdjust lo hi 1 (n : Int) = (((sIx n 0 lo : Nat) : Int), ((sIx n n hi : Nat) : Int)) := by
 have h1 : ¬ ((1 : Int) < 0) := by omega
 unfold Builtin.Slice.sliceAdjust
 simp only [h1, if_false]
 refine Prod.ext ?_ ?_
 ·cases lo with
  | none => rfl
  | some v => exact mqp v n 0
 ·cases hi with
  | none => rfl
  | some v => exact mqp v n n
theorem lqp (i j : Nat) : Builtin.Slice.slicePlaces (i : Int) (j : Int) 1 = j - i := by
 unfold Builtin.Slice.slicePlaces
 have h1 : (1 : Int) > 0 := by omega
 simp only [h1, if_true, Int.ediv_one]
 split <;> omega
theorem hq0 {v : Value} {o : Option Int} {Q : Option Int → Shared → Prop} (p : IsPart v o) (h : Q o s) : wpAny (model prog w) A (Builtin.Slice.slicePartIndex v) Q E s := by
 cases p with
 | none => exact slicePart_none h
 | int i t => exact slicePart_int h
theorem dq3 {sl : Addr} {vl vu : Value} {lo hi : Option Int} {n : Nat} {Q : Int × Int × Nat → Shared → Prop} (hs : s.heap.IsSliceOf sl vl vu .none) (pl : IsPart vl lo) (pu : IsPart vu hi)
  (h : Q (((sIx n 0 lo : Nat) : Int), 1, sIx n n hi - sIx n 0 lo) s) : wpAny (model prog w) A (Builtin.Slice.sliceApplied (.ref sl) (pure (n : Int))) Q E s := by
 obtain ⟨os, hos, hcs, hds⟩ := id hs
 unfold Builtin.Slice.sliceApplied Builtin.Slice.sliceFields
 refine wpAny_bind (wpAny_bind (wpAny_field hos hds (x := vl) rfl (wpAny_bind (wpAny_field hos hds (x := vu) rfl (wpAny_bind (wpAny_field hos hds (x := .none) rfl (wpAny_pure ?_)))))))
 refine wpAny_bind (slicePart_none ?_)
 show wpAny _ _ (if ((1 : Int) == 0) = true then _ else _) _ _ s
 rw [if_neg (by decide)]
 refine wpAny_bind (hq0 pl (wpAny_bind (hq0 pu (wpAny_bind (wpAny_pure ?_)))))
 show wpAny _ _ (match Builtin.Slice.sliceAdjust lo hi 1 (n : Int) with | (lo, hi) => pure (lo, (1 : Int), Builtin.Slice.slicePlaces lo hi 1)) _ _ s
 rw [lqq lo hi n]
 show wpAny _ _ (pure (((sIx n 0 lo : Nat) : Int), (1 : Int), Builtin.Slice.slicePlaces ((sIx n 0 lo : Nat) : Int) ((sIx n n hi : Nat) : Int) 1)) _ _ s
 rw [lqp]
 exact wpAny_pure h
theorem mqY (xs : Array Value) (i k : Nat) : ((List.range k).filterMap fun (m : Nat) => xs[((i : Int) + (m : Int) * 1).toNat]?).toArray = ((xs.toList.drop i).take k).toArray := by
 have e : (fun (m : Nat) => xs[((i : Int) + (m : Int) * 1).toNat]?) = fun m => xs[i + m]? := by
  funext m
  have : ((i : Int) + (m : Int) * 1).toNat = i + m := by omega
  rw [this]
 rw [e]
 have := pick_run xs i k
 rw [List.filterMap_map] at this
 have e2 : ((fun x => xs[x]?) ∘ fun x => i + x) = fun m => xs[i + m]? := rfl
 rw [e2] at this
 rw [this]
theorem getItem_tuple_cut {t sl : Addr} {items : Array Value} {vl vu : Value} {lo hi : Option Int} {Q : Value → Shared → Prop} (ht : IsTup s.heap t items) (hs : s.heap.IsSliceOf sl vl vu .none) (pl : IsPart vl lo) (pu : IsPart vu hi)
  (hw : ¬ (sIx items.size 0 lo = 0 ∧ sIx items.size items.size hi = items.size))
  (h : Q (.ref s.heap.objs.size) { s with heap := s.heap.push { cls := .type "tuple", data := .seq ((items.toList.drop (sIx items.size 0 lo)).take (sIx items.size items.size hi - sIx items.size 0 lo)).toArray } })
  (hsz : items.size ≤ sizeLine) : wpAny (model prog w) A (getItem (.ref t) (.ref sl)) Q E s := by
 have htake : sizeOk (.seq ((items.toList.drop (sIx items.size 0 lo)).take (sIx items.size items.size hi - sIx items.size 0 lo)).toArray) := by
  show ((items.toList.drop (sIx items.size 0 lo)).take (sIx items.size items.size hi - sIx items.size 0 lo)).toArray.size ≤ sizeLine
  rw [List.size_toArray, List.length_take, List.length_drop, Array.length_toList]
  omega
 have hj : sIx items.size items.size hi ≤ items.size := rqd _ _ (Nat.le_refl _) hi
 obtain ⟨os, hos, hcs, hds⟩ := id hs
 have hTs : s.TypeIs (.ref sl) "slice" := ⟨os, hos, hcs⟩
 unfold getItem
 try with_reducible refine wpAny_holding ?_
 first | refine wpAny_bind (wpAny_pure ?_) | skip
 refine wpAny_bind (wpAny_sequenceKey ht.typeIs (by decide) ?_)
 refine wpAny_bind (wpAny_callSpecial?_slot (name := Str.ofString "__getitem__") ht.typeIs PyProof.Rows.slot_tuple_getitem
  (wpAny_call_entry PyProof.Rows.slot_tuple_getitem ht.typeIs entry_tuple_getitem ?_ (args_tuple_getitem _ _)))
 show wpAny _ _ (Builtin.Tuple.tupleItemsOf (.ref t) >>= _) _ _ s
 refine wpAny_bind (tupleItemsOf_ ht ?_)
 refine wpAny_bind (wpAny_typeOf hTs ?_)
 rw [if_pos (by decide)]
 refine wpAny_bind (dq3 hs pl pu ?_)
 have hno : ¬ ((((sIx items.size 0 lo : Nat) : Int) == 0 && (1 : Int) == 1 && (sIx items.size items.size hi - sIx items.size 0 lo) == items.size) = true) := by
  intro q
  rw [Bool.and_eq_true, Bool.and_eq_true] at q
  have q1 : ((sIx items.size 0 lo : Nat) : Int) = 0 := eq_of_beq q.1.1
  have q2 : sIx items.size items.size hi - sIx items.size 0 lo = items.size := eq_of_beq q.2
  exact hw ⟨by omega, by omega⟩
 show wpAny _ _ (if (((sIx items.size 0 lo : Nat) : Int) == 0 && (1 : Int) == 1 && (sIx items.size items.size hi - sIx items.size 0 lo) == items.size) = true then _ else _) _ _ s
 rw [if_neg hno, mqY]
 first
  | exact wpAny_bind (m := Builtin.Tuple.tupleExact _) (wpAny_newObj_type (wpAny_pure ⟨_, rfl, wpAny_pure h⟩) htake)
  | exact wpAny_bind (m := Builtin.Tuple.tupleExact _) (wpAny_newObj_type (wpAny_bind (wpAny_pure (wpAny_pure ⟨_, rfl, wpAny_pure h⟩))) htake)
  | exact wpAny_bind (wpAny_bind (m := Builtin.Tuple.tupleExact _) (wpAny_newObj_type (wpAny_pure (wpAny_pure ⟨_, rfl, wpAny_pure h⟩)) htake))
  | exact wpAny_bind (wpAny_bind (m := Builtin.Tuple.tupleExact _) (wpAny_newObj_type (wpAny_pure ⟨_, rfl, wpAny_pure h⟩) htake))
end
end HT
namespace L2
open PySem PySem.Spec PyProof.Rows
abbrev TO := St → Hp → (Option Int → Hp → Prop) → Prop
def PO (X : Cx) (e : Option Expr) (t : TO) : Prop :=
 ∀ (pins : List (Addr × Obj)) (s : Shared) (σ : St) (H : Hp) (Q : Option Int → Hp → Prop), Inv X pins σ H s → t σ H Q →
  wpAny (model X.prog X.w) X.A (evalPart e X.env) (fun u s' => ∃ o H', Inv X pins σ H' s' ∧ IsPart u o ∧ Q o H') X.xe s
def tNoPart : TO := fun _ H Q => Q none H
def tPart (t : TE) : TO := fun σ H Q => t σ H fun x H1 => ∃ i, x = .int i ∧ Q (some i) H1
section
variable {X : Cx} {e : Expr} {te : TE} {lo hi : Option Expr} {tl th : TO} {pos p2 : Pos}
theorem dqJ : PO X none tNoPart := by
 intro pins s σ H Q I h
 rw [evalPart_none]
 exact wpAny_pure ⟨none, H, I, .none, h⟩
theorem bqU (h : PE X e te) : PO X (some e) (tPart te) := by
 intro pins s σ H Q I hw
 rw [evalPart_some]
 refine thn (h pins s σ H _ I hw) fun u s1 W' => ?_
 obtain ⟨x, H1, I1, r1, q1⟩ := W'
 obtain ⟨i, rfl, q⟩ := q1
 obtain ⟨t, rfl⟩ := r1
 exact ⟨some i, H1, I1, .int i t, q⟩
def SlR (X : Cx) (r : V → Option Int → Option Int → Hp → VK → Prop) : Prop :=
 ∀ (pins : List (Addr × Obj)) (s : Shared) (σ : St) (H : Hp) (x : V) (v vl vu : Value) (lo hi : Option Int) (sl : Addr) (Q : VK), Inv X pins σ H s → RelV x v → s.heap.IsSliceOf sl vl vu .none → IsPart vl lo → IsPart vu hi → r x lo hi H Q →
  ∃ T id, typeLookup (.type T) "__getitem__" = pure (some (.builtin id)) ∧ s.TypeIs v T ∧ wpAny (model X.prog X.w) X.A (getItem v (.ref sl)) (EP X pins σ Q) X.xe s
theorem SlR.or {r r' : V → Option Int → Option Int → Hp → VK → Prop} (h : SlR X r) (h' : SlR X r') : SlR X (fun x lo hi H Q => r x lo hi H Q ∨ r' x lo hi H Q) := by
 intro pins s σ H x v vl vu lo hi sl Q I rx hs pl pu q
 rcases q with q | q
 ·exact h pins s σ H x v vl vu lo hi sl Q I rx hs pl pu q
 ·exact h' pins s σ H x v vl vu lo hi sl Q I rx hs pl pu q
def tSl (r : V → Option Int → Option Int → Hp → VK → Prop) (te : TE) (tl th : TO) : TE := fun σ H Q => te σ H fun x H1 => tl σ H1 fun l H2 => th σ H2 fun u H3 => r x l u H3 Q
theorem bqO {r : V → Option Int → Option Int → Hp → VK → Prop} (hr : SlR X r) (he : PE X e te) (hl : PO X lo tl) (hu : PO X hi th) : PE X (.Subscript e (.Slice lo hi none p2) pos) (tSl r te tl th) := by
 intro pins s σ H Q I h
 refine Subscript_ (thn (he pins s σ H _ I h) fun v s1 W' => ?_)
 obtain ⟨x, H1, I1, r1, q1⟩ := W'
 refine wpAny_Slice (thn (hl pins s1 σ H1 _ I1 q1) fun vl s2 ⟨l, H2, I2, pl, q2⟩ => thn (hu pins s2 σ H2 _ I2 q2) fun vu s3 W' => ?_)
 obtain ⟨u, H3, I3, pu, q3⟩ := W'
 rw [evalPart_none]
 refine wpAny_pure ?_
 have I4 : Inv X pins σ H3 { s3 with heap := s3.heap.push { cls := .type "slice", data := .fields #[vl, vu, .none] } } := I3.kept (t' := s3.toks) fun b ob q => Heap.get?_push_of_some _ q
 obtain ⟨T, id, hT, ht, hg⟩ := hr pins { s3 with heap := s3.heap.push { cls := .type "slice", data := .fields #[vl, vu, .none] } } σ H3 x v vl vu l u s3.heap.objs.size Q I4 r1 (Heap.IsSliceOf.new ..) pl pu q3
 show wpAny (model X.prog X.w) X.A (subscriptTail e (.Slice lo hi none p2) v (.ref s3.heap.objs.size)) (EP X pins σ Q) X.xe { s3 with heap := s3.heap.push { cls := .type "slice", data := .fields #[vl, vu, .none] } }
 exact tail_any (ops := [.ref s3.heap.objs.size, v]) ht hT hg (by with_unfolding_all rfl)
def cutV (xs : List V) (lo hi : Option Int) : List V := (xs.drop (HT.sIx xs.length 0 lo)).take (HT.sIx xs.length xs.length hi - HT.sIx xs.length 0 lo)
theorem hqt (xs : List V) (lo hi : Option Int) : (cutV xs lo hi).length ≤ xs.length := by
 unfold cutV
 rw [List.length_take, List.length_drop]
 omega
def rSlT (K : PySem.W.Frag) : V → Option Int → Option Int → Hp → VK → Prop := fun x lo hi H Q => ∃ a xs, x = .ref a ∧ SqT K H a xs ∧
 ¬ (HT.sIx xs.length 0 lo = 0 ∧ HT.sIx xs.length xs.length hi = xs.length) ∧ ∀ p, H p = none → Q (.ref p) (upd H p (.tup (cutV xs lo hi)))
theorem rqv : SlR X (rSlT X.K) := by
 intro pins s σ H x v vl vu lo hi sl Q I rx hs pl pu h
 obtain ⟨a, xs, rfl, hx, hw, q⟩ := h
 cases rx
 obtain ⟨its, r, ht, hz⟩ := I.tuple hx
 have hlen : its.toArray.size = xs.length := by rw [List.size_toArray]; exact r.length.symm
 refine ⟨"tuple", _, PyProof.Rows.slot_tuple_getitem.lookup, ht.typeIs, ?_⟩
 refine HT.getItem_tuple_cut ht hs pl pu (by rw [hlen]; exact hw) ?_ (by rw [hlen]; exact hz)
 rw [hlen]
 refine ⟨.ref s.heap.objs.size, _, I.laid (t' := s.toks) (o := .tup (cutV xs lo hi)) (fun b ob q => Heap.get?_push_of_some _ q) (Nat.le_refl _) ?_, rfl, q _ (I.hok.fresh (Nat.le_refl _))⟩
 exact ⟨Nat.le_trans (hqt xs lo hi) hz, _, (r.drop (HT.sIx xs.length 0 lo)).take (HT.sIx xs.length xs.length hi - HT.sIx xs.length 0 lo), IsTup.new _ _⟩
def rCatT (K : PySem.W.Frag) : R2 := fun x y H Q => ∃ a b xs ys, x = .ref a ∧ y = .ref b ∧ SqT K H a xs ∧ SqT K H b ys ∧ xs ≠ [] ∧ xs.length + ys.length ≤ sizeLine ∧
 (ys = [] → Q (.ref a) H) ∧ (ys ≠ [] → ∀ p, H p = none → Q (.ref p) (upd H p (.tup (xs ++ ys))))
theorem Vals.nil_iff {xs : List V} {us : List Value} (r : Vals xs us) : us = [] ↔ xs = [] := by
 cases r with
 | nil => simp
 | cons _ _ => simp
theorem pqG : OpR X (binaryOp .Add) (rCatT X.K) := by
 intro pins s σ H x y v u Q I rx ry h
 obtain ⟨a, b, xs, ys, rfl, rfl, ha, hb, hx, hz, q1, q2⟩ := h
 cases rx
 cases ry
 obtain ⟨its, r1, p1, _⟩ := I.tuple ha
 obtain ⟨its2, r2, p2, _⟩ := I.tuple hb
 refine HT.cat_tup p1 p2 (fun z => hx (r1.nil_iff.mp z)) (fun z => ⟨.ref a, H, I, rfl, q1 (r2.nil_iff.mp z)⟩) (fun z => ?_) (by rw [← r1.length, ← r2.length]; exact hz)
 refine ⟨.ref s.heap.objs.size, _, I.laid (t' := s.toks) (o := .tup (xs ++ ys)) (fun b ob q => Heap.get?_push_of_some _ q) (Nat.le_refl _) ?_, rfl, q2 (fun w => z (r2.nil_iff.mpr w)) _ (I.hok.fresh (Nat.le_refl _))⟩
 exact ⟨by rw [List.length_append]; exact hz, _, r1.append r2, IsTup.new _ _⟩
end
def ixN (n : Nat) (i : Int) : Option Nat := if 0 ≤ i then (if i < n then some i.toNat else none) else if -(n : Int) ≤ i then some (i + n).toNat else none
def atI {α : Type} (xs : List α) (i : Int) : Option α := (ixN xs.length i).bind fun j => xs[j]?
theorem lq8 {n : Nat} {i : Int} {j : Nat} (h : ixN n i = some j) : seqIndex? i n = some j ∧ j < n ∧ -(n : Int) ≤ i ∧ i < n := by
 unfold ixN at h
 by_cases h0 : 0 ≤ i
 ·rw [if_pos h0] at h
  by_cases h1 : i < n
  ·rw [if_pos h1] at h
   have e : i.toNat = j := Option.some.inj h
   exact ⟨by rw [seqIndex_of h0 h1, e], by omega, by omega, h1⟩
  ·rw [if_neg h1] at h; cases h
 ·rw [if_neg h0] at h
  by_cases h1 : -(n : Int) ≤ i
  ·rw [if_pos h1] at h
   have e : (i + n).toNat = j := Option.some.inj h
   exact ⟨by rw [seqIndex_neg (by omega) h1, e], by omega, h1, by omega⟩
  ·rw [if_neg h1] at h; cases h
theorem jqY {α : Type} {xs : List α} {i : Int} {v : α} (h : atI xs i = some v) : ∃ j, seqIndex? i xs.length = some j ∧ xs[j]? = some v ∧ j < xs.length ∧ -(xs.length : Int) ≤ i ∧ i < xs.length := by
 unfold atI at h
 cases e : ixN xs.length i with
 | none => rw [e] at h; cases h
 | some j =>
  rw [e] at h
  obtain ⟨h1, h2, h3, h4⟩ := lq8 e
  exact ⟨j, h1, h, h2, h3, h4⟩
theorem aqg {α : Type} {xs : List α} {j : Nat} {v : α} (h : xs[j]? = some v) : atI xs (j : Int) = some v := by
 have hj : j < xs.length := (List.getElem?_eq_some_iff.mp h).1
 have e : ixN xs.length (j : Int) = some j := by
  unfold ixN
  rw [if_pos (by omega), if_pos (by omega)]; simp
 unfold atI; rw [e]; exact h
def PlainIx (b : Expr) : Prop := ∀ o i, subscripted b false o i = operate [o, i] (getItem o i)
def IxR (X : Cx) (r : R2) : Prop :=
 ∀ (value slice : Expr) (pins : List (Addr × Obj)) (s : Shared) (σ : St) (H : Hp) (x y : V) (v u : Value) (Q : VK), Inv X pins σ H s → RelV x v → RelV y u → r x y H Q →
  subscripted slice false v u = operate [v, u] (getItem v u) → wpAny (model X.prog X.w) X.A (subscriptTail value slice v u) (EP X pins σ Q) X.xe s
def MtR (X : Cx) (id : String) (r : V → List V → Hp → VK → Prop) : Prop :=
 ∀ (pins : List (Addr × Obj)) (s : Shared) (σ : St) (H : Hp) (x : V) (xs : List V) (v : Value) (us : List Value) (Q : VK), Inv X pins σ H s → RelV x v → Vals xs us → r x xs H Q →
  wpAny (model X.prog X.w) X.A (call (.builtin id) (v :: us)) (EP X pins σ Q) X.xe s
section
variable {X : Cx} {a b : Expr} {ta tb : TE} {pos : Pos}
theorem IxR.or {r r' : R2} (h : IxR X r) (h' : IxR X r') : IxR X (fun x y H Q => r x y H Q ∨ r' x y H Q) := by
 intro value slice pins s σ H x y v u Q I rx ry q hs
 rcases q with q | q
 ·exact h value slice pins s σ H x y v u Q I rx ry q hs
 ·exact h' value slice pins s σ H x y v u Q I rx ry q hs
theorem aqy {r : R2} (hr : IxR X r) (ha : PE X a ta) (hb : PE X b tb) (hs : PlainIx b) : PE X (.Subscript a b pos) (tOp r ta tb) := by
 intro pins s σ H Q I h
 exact Subscript_ (binT ha hb I h fun v u s2 x y H2 I2 rx ry q => hr a b pins s2 σ H2 x y v u Q I2 rx ry q (hs _ _))
def rIxL (K : PySem.W.Frag) : R2 := fun x y H Q => ∃ p xs i v, x = .ref p ∧ y = .int i ∧ SqL K H p xs ∧ atI xs i = some v ∧ Q v H
def rIxT (K : PySem.W.Frag) : R2 := fun x y H Q => ∃ p xs i v, x = .ref p ∧ y = .int i ∧ SqT K H p xs ∧ atI xs i = some v ∧ Q v H
def rIxS : R2 := fun x y H Q => ∃ z i c, x = .str z ∧ y = .int i ∧ z.length ≤ sizeLine ∧ atI z.cps.toList i = some c ∧ Q (.str ⟨#[c]⟩) H
theorem oqC : IxR X (rIxL X.K) := by
 intro value slice pins s σ H x y v u Q I rx ry h hs
 obtain ⟨p, xs, i, z, rfl, rfl, hq, he, q⟩ := h
 cases rx
 obtain ⟨t, rfl⟩ := ry
 obtain ⟨its, r, pl, hz⟩ := I.list hq
 obtain ⟨j, h1, h2, h3, h4, h5⟩ := jqY he
 obtain ⟨w, ew, rw'⟩ := r.get h2
 have hl := r.length
 have hn := line63
 have fin : EP X pins σ Q w s := ⟨z, H, I, rw', q⟩
 by_cases h0 : 0 ≤ i
 ·have hj : i.toNat = j := by
   rw [seqIndex_of h0 h5] at h1
   exact Option.some.inj h1
  exact item_listR pl.isList h0 (by omega) (by rw [hj]; simpa using ew) fin hs
 ·have hj : (i + (its.toArray.size : Int)).toNat = j := by
   rw [seqIndex_neg (by omega) h4] at h1
   rw [List.size_toArray, ← hl]
   exact Option.some.inj h1
  exact subscriptTail_builtinR (x := w) pl.isList.typeIs slot_list_getitem.lookup
   (wpAny_getItem_list_neg (Q := fun r s' => r = w ∧ EP X pins σ Q r s') pl.isList (by omega) (by rw [List.size_toArray] <;> omega) (by omega) (by rw [hj]; simpa using ew) ⟨rfl, fin⟩) hs
theorem qqO : IxR X (rIxT X.K) := by
 intro value slice pins s σ H x y v u Q I rx ry h hs
 obtain ⟨p, xs, i, z, rfl, rfl, hq, he, q⟩ := h
 cases rx
 obtain ⟨t, rfl⟩ := ry
 obtain ⟨its, r, pl, hz⟩ := I.tuple hq
 obtain ⟨j, h1, h2, h3, h4, h5⟩ := jqY he
 obtain ⟨w, ew, rw'⟩ := r.get h2
 have hl := r.length
 have hn := line63
 have fin : EP X pins σ Q w s := ⟨z, H, I, rw', q⟩
 exact subscriptTail_builtinR (x := w) pl.typeIs slot_tuple_getitem.lookup
  (getItem_tuple (j := j) (Q := fun r s' => r = w ∧ EP X pins σ Q r s') pl (by omega) (by omega) (by rw [List.size_toArray, ← hl]; exact h1) (by simpa using ew) ⟨rfl, fin⟩) hs
theorem qqa : IxR X rIxS := by
 intro value slice pins s σ H x y v u Q I rx ry h hs
 obtain ⟨z, i, c, rfl, rfl, hz, he, q⟩ := h
 obtain ⟨t, rfl⟩ := rx
 obtain ⟨t', rfl⟩ := ry
 obtain ⟨j, h1, h2, h3, h4, h5⟩ := jqY he
 have hl : z.cps.toList.length = z.length := by simp [Str.length]
 rw [hl] at h1 h4 h5
 have hn := line63
 exact tail_any (typeIs_str s z t) slot_str_getitem.lookup (getItem_str (c := c) (by
  have e1 : decide (i < -(2 ^ 63 : Int)) = false := decide_eq_false (by omega)
  have e2 : decide (i ≥ 2 ^ 63) = false := decide_eq_false (by omega)
  rw [e1, e2, Bool.or_false]) (by rw [h1]; simpa using h2) ⟨.str ⟨#[c]⟩, H, I.tok _, ⟨_, rfl⟩, q⟩) hs
def rIx (K : PySem.W.Frag) : R2 := fun x y H Q => rIxL K x y H Q ∨ rIxT K x y H Q ∨ rIxS x y H Q
theorem qqw : IxR X (rIx X.K) := oqC.or (qqO.or qqa)
theorem lqb (its : List Value) (n j : Nat) (u : Value) : Obj.mapSeq (·.setIfInBounds j u) { cls := .type "list", data := .seq its.toArray n } = { cls := .type "list", data := .seq (its.set j u).toArray n } := by
 simp [Obj.mapSeq]
theorem Inv.lst {pins : List (Addr × Obj)} {σ : St} {H : Hp} {s : Shared} {p : Addr} {xs : List V} (I : Inv X pins σ H s) (h : H p = some (.lst xs)) :
  ∃ (its : List Value) (n : Nat), Vals xs its ∧ s.heap.get? p = some { cls := .type "list", data := .seq its.toArray n } ∧ xs.length ≤ sizeLine := by
 obtain ⟨z, its, n, r, e⟩ := I.hok p _ h
 exact ⟨its, n, r, e, z⟩
theorem Inv.lstUpd {pins : List (Addr × Obj)} {σ : St} {H : Hp} {s : Shared} {p : Addr} {xs ys : List V} {its its' : List Value} {n n' : Nat} {f : Obj → Obj} (I : Inv X pins σ H s) (h : H p = some (.lst xs))
  (ho : s.heap.get? p = some { cls := .type "list", data := .seq its.toArray n }) (hf : f { cls := .type "list", data := .seq its.toArray n } = { cls := .type "list", data := .seq its'.toArray n' }) (r : Vals ys its') (hz : ys.length ≤ sizeLine) (t : Nat) :
  Inv X pins σ (upd H p (.lst ys)) { s with heap := s.heap.update p f, toks := t } := by
 have e : (s.heap.update p f).get? p = some { cls := .type "list", data := .seq its'.toArray n' } := by
  rw [Heap.get?_update_self f ho (by rw [hf] <;> rfl), hf]
 refine I.write (x := p) (e := p) (by rw [h]; trivial) (.inl rfl) (fun b u hb q => (Heap.get?_update_other _ _ (Ne.symm hb)).trans q) ⟨_, e⟩ ?_
 exact ⟨hz, its', n', r, e⟩
def rSetL : V → V → V → Hp → (Hp → Prop) → Prop := fun o i v H Q => ∃ p xs k j, o = .ref p ∧ i = .int k ∧ H p = some (.lst xs) ∧ ixN xs.length k = some j ∧ Q (upd H p (.lst (xs.set j v)))
theorem nq0 : PSet X rSetL := by
 intro pins s σ H o i v ov iv u Q I ro ri rv h
 obtain ⟨p, xs, k, j, rfl, rfl, hp, hj, q⟩ := h
 cases ro
 obtain ⟨t, rfl⟩ := ri
 obtain ⟨its, n, r, ho, hz⟩ := I.lst hp
 obtain ⟨h1, h2, h3, h4⟩ := lq8 hj
 have hl := r.length
 have hn := line63
 have I' : Inv X pins σ (upd H p (.lst (xs.set j v))) { s with heap := s.heap.update p (Obj.mapSeq (·.setIfInBounds j u)) } :=
  I.lstUpd hp ho (lqb its n j u) (r.set rv j) (by rw [List.length_set]; exact hz) s.toks
 by_cases h0 : 0 ≤ k
 ·have hk : k.toNat = j := by
   rw [seqIndex_of h0 h4] at h1
   exact Option.some.inj h1
  exact PySem.W.ki_setAt ho h0 (by omega) (by rw [List.size_toArray, ← hl]; exact h4) (by rw [hk]; exact ⟨_, I', q⟩)
 ·have hk : (k + (its.toArray.size : Int)).toNat = j := by
   rw [seqIndex_neg (by omega) h3] at h1
   rw [List.size_toArray, ← hl]
   exact Option.some.inj h1
  exact PySem.W.ki_setBack ho (by omega) (by rw [List.size_toArray, ← hl]; exact h3) (by omega) (by rw [hk]; exact ⟨_, I', q⟩)
theorem iq9 (lo hi : Option Int) (n : Nat) : (sliceBounds lo hi none n).1 = ((HT.sIx n 0 lo : Nat) : Int) ∧ (sliceBounds lo hi none n).2.1 = ((HT.sIx n n hi : Nat) : Int) ∧ (sliceBounds lo hi none n).2.2 = 1 := by
 refine ⟨?_, ?_, rfl⟩
 ·cases lo with
  | none => simp [sliceBounds, HT.sIx]
  | some i =>
   simp only [sliceBounds, HT.sIx, Option.getD_none, show (1 : Int) > 0 by decide, if_true]
   by_cases h : i < 0
   ·simp only [h, if_true] <;> omega
   ·simp only [h, if_false] <;> omega
 ·cases hi with
  | none => simp [sliceBounds, HT.sIx]
  | some i =>
   simp only [sliceBounds, HT.sIx, Option.getD_none, show (1 : Int) > 0 by decide, if_true]
   by_cases h : i < 0
   ·simp only [h, if_true] <;> omega
   ·simp only [h, if_false] <;> omega
theorem iql (its : List Value) (lo hi : Option Int) : slicePick its.toArray lo hi none = ((its.drop (HT.sIx its.length 0 lo)).take (HT.sIx its.length its.length hi - HT.sIx its.length 0 lo)).toArray := by
 obtain ⟨h1, h2, h3⟩ := iq9 lo hi its.toArray.size
 unfold slicePick
 rw [h1, h2, h3]
 simp only [sliceRange_one, pick_run, List.size_toArray] <;> rfl
def rSlL (K : PySem.W.Frag) : V → Option Int → Option Int → Hp → VK → Prop := fun x lo hi H Q => ∃ a xs, x = .ref a ∧ SqL K H a xs ∧ ∀ p, H p = none → Q (.ref p) (upd H p (.lst (cutV xs lo hi)))
theorem lq0 : SlR X (rSlL X.K) := by
 intro pins s σ H x v vl vu lo hi sl Q I rx hs pl pu h
 obtain ⟨a, xs, rfl, hx, q⟩ := h
 cases rx
 obtain ⟨its, r, ht, hz⟩ := I.list hx
 have hlen := r.length
 refine ⟨"list", _, slot_list_getitem.lookup, ht.isList.typeIs, ?_⟩
 refine wpAny_getItem_list_slice ht.isList hs pl pu .none (by simp) ?_ (by rw [List.size_toArray] <;> omega)
 rw [iql, ← hlen]
 refine ⟨.ref s.heap.objs.size, _, I.laid (t' := s.toks) (o := .lst (cutV xs lo hi)) (fun b ob q => Heap.get?_push_of_some _ q) (Nat.le_refl _) ?_, rfl, q _ (I.hok.fresh (Nat.le_refl _))⟩
 exact ⟨Nat.le_trans (hqt xs lo hi) hz, _, 0, (r.drop (HT.sIx xs.length 0 lo)).take (HT.sIx xs.length xs.length hi - HT.sIx xs.length 0 lo), Heap.get?_push_size _ rfl⟩
def flatV : V → Bool
 | .non => true
 | .bl _ => true
 | .int _ => true
 | .str _ => true
 | _ => false
def eqV : V → V → Bool
 | .non, .non => true
 | .bl a, .bl b => a == b
 | .bl a, .int b => (if a then 1 else 0) == b
 | .int a, .bl b => a == (if b then 1 else 0)
 | .int a, .int b => a == b
 | .str a, .str b => a == b
 | _, _ => false
theorem qqs {A : Around} {s : Shared} {y x : V} {u v : Value} (ry : RelV y u) (rx : RelV x v) (fy : flatV y = true) (fx : flatV x = true) : SeqAt.EqAt A s u v (eqV y x) := by
 cases y with
 | non =>
  cases ry
  cases x with
  | non => cases rx; exact SeqAt.EqAt.same _
  | bl b => cases rx; exact SeqAt.EqAt.none_bool b
  | int b => obtain ⟨t, rfl⟩ := rx; exact SeqAt.EqAt.none_int b t
  | str b => obtain ⟨t, rfl⟩ := rx; exact SeqAt.EqAt.none_str b t
  | _ => exact absurd (show false = true from fx) Bool.false_ne_true
 | bl a =>
  cases ry
  cases x with
  | non => cases rx; exact SeqAt.EqAt.bool_none a
  | bl b => cases rx; exact SeqAt.EqAt.bool_bool a b
  | int b => obtain ⟨t, rfl⟩ := rx; exact SeqAt.EqAt.bool_int a b t
  | str b => obtain ⟨t, rfl⟩ := rx; exact SeqAt.EqAt.bool_str a b t
  | _ => exact absurd (show false = true from fx) Bool.false_ne_true
 | int a =>
  obtain ⟨t', rfl⟩ := ry
  cases x with
  | non => cases rx; exact SeqAt.EqAt.int_none a t'
  | bl b => cases rx; exact SeqAt.EqAt.int_bool a t' b
  | int b => obtain ⟨t, rfl⟩ := rx; exact SeqAt.EqAt.int_int a t' b t
  | str b => obtain ⟨t, rfl⟩ := rx; exact SeqAt.EqAt.int_str a t' b t
  | _ => exact absurd (show false = true from fx) Bool.false_ne_true
 | str a =>
  obtain ⟨t', rfl⟩ := ry
  cases x with
  | non => cases rx; exact SeqAt.EqAt.str_none a t'
  | bl b => cases rx; exact SeqAt.EqAt.str_bool a t' b
  | int b => obtain ⟨t, rfl⟩ := rx; exact SeqAt.EqAt.str_int a t' b t
  | str b => obtain ⟨t, rfl⟩ := rx; exact SeqAt.EqAt.str_str a t' b t
  | _ => exact absurd (show false = true from fx) Bool.false_ne_true
 | _ => exact absurd (show false = true from fy) Bool.false_ne_true
def eqU (x : V) (u : Value) : Bool := match u with
 | .none => eqV .non x
 | .bool b => eqV (.bl b) x
 | .int i _ => eqV (.int i) x
 | .str z _ => eqV (.str z) x
 | _ => false
theorem oqh {x y : V} {u : Value} (r : RelV y u) (f : flatV y = true) : eqU x u = eqV y x := by
 cases y with
 | non => cases r; rfl
 | bl b => cases r; rfl
 | int i => obtain ⟨t, rfl⟩ := r; rfl
 | str z => obtain ⟨t, rfl⟩ := r; rfl
 | _ => exact absurd (show false = true from f) Bool.false_ne_true
theorem kqp {x : V} : ∀ {xs : List V} {us : List Value}, Vals xs us → xs.all flatV = true → us.any (eqU x) = xs.any fun y => eqV y x
 | _, _, .nil, _ => rfl
 | y :: xs, u :: us, .cons r t, f => by
  rw [List.all_cons, Bool.and_eq_true] at f
  rw [List.any_cons, List.any_cons, oqh r f.1, kqp t f.2]
theorem iqD {A : Around} {s : Shared} {x : V} {v : Value} (rx : RelV x v) (fx : flatV x = true) : ∀ {xs : List V} {us : List Value}, Vals xs us → xs.all flatV = true → ∀ u ∈ us, SeqAt.EqAt A s u v (eqU x u)
 | _, _, .nil, _ => fun u hu => by cases hu
 | y :: xs, u :: us, .cons r t, f => fun u' hu => by
  rw [List.all_cons, Bool.and_eq_true] at f
  rcases List.mem_cons.mp hu with rfl | hu
  ·rw [oqh r f.1]; exact qqs r rx f.1 fx
  ·exact iqD rx fx t f.2 u' hu
def inV (x : V) (xs : List V) : Bool := xs.any fun y => eqV y x
def rIn (K : PySem.W.Frag) (neg : Bool) : R2 := fun x y H Q => ∃ p xs, y = .ref p ∧ (SqL K H p xs ∨ SqT K H p xs) ∧ flatV x = true ∧ xs.all flatV = true ∧ Q (.bl (if neg then !inV x xs else inV x xs)) H
theorem mqQ : OpR X (compareOp .In) (rIn X.K false) := by
 intro pins s σ H x y v u Q I rx ry h
 obtain ⟨p, xs, rfl, hq, fx, fs, q⟩ := h
 cases ry
 rcases hq with hq | hq
 ·obtain ⟨its, r, pl, hz⟩ := I.list hq
  refine SeqAt.in_listAt (eqU x) pl.isList (fun w hw => iqD rx fx r fs w (by simpa using hw)) ⟨.bl _, H, I, rfl, ?_⟩
  rw [show its.toArray.any (eqU x) = its.any (eqU x) by simp, kqp r fs]
  exact q
 ·obtain ⟨its, r, pl, hz⟩ := I.tuple hq
  refine SeqAt.in_tupleAt (eqU x) pl (fun w hw => iqD rx fx r fs w (by simpa using hw)) ⟨.bl _, H, I, rfl, ?_⟩
  rw [show its.toArray.any (eqU x) = its.any (eqU x) by simp, kqp r fs]
  exact q
theorem jqs : CallR X (.builtin "len") (fun xs H Q => ∃ p ys, xs = [.ref p] ∧ (SqL X.K H p ys ∨ SqT X.K H p ys) ∧ Q (.int ys.length) H) := by
 intro pins s σ H xs us Q I r h
 obtain ⟨p, ys, rfl, hq, q⟩ := h
 obtain ⟨u, rfl, rx⟩ := vals1 r
 cases rx
 have hn := line63
 rcases hq with hq | hq
 ·obtain ⟨its, r', pl, hz⟩ := I.list hq
  have hlen := r'.length
  exact Calls.call_len_list pl.isList (by simp only [List.size_toArray] <;> omega) ⟨.int ys.length, H, I.tok _, ⟨s.toks + 1, by rw [List.size_toArray, hlen]⟩, q⟩
 ·obtain ⟨its, r', pl, hz⟩ := I.tuple hq
  have hlen := r'.length
  exact len_tuple pl (by simp only [List.size_toArray] <;> omega) ⟨.int ys.length, H, I.tok _, ⟨s.toks + 1, by rw [List.size_toArray, hlen]⟩, q⟩
theorem jqS : CallR X (.builtin "len") (fun xs H Q => ∃ z, xs = [.str z] ∧ z.length ≤ sizeLine ∧ Q (.int z.length) H) := by
 intro pins s σ H xs us Q I r h
 obtain ⟨z, rfl, hz, q⟩ := h
 obtain ⟨u, rfl, t, rfl⟩ := vals1 r
 have hn := line63
 exact len_str (by omega) ⟨.int z.length, H, I.tok _, ⟨_, rfl⟩, q⟩
theorem fqK : CallR X (.type "tuple") (fun xs H Q => ∃ p ys, xs = [.ref p] ∧ ((SqL X.K H p ys ∧ ∀ l, H l = none → Q (.ref l) (upd H l (.tup ys))) ∨ (SqT X.K H p ys ∧ Q (.ref p) H))) := by
 intro pins s σ H xs us Q I r h
 obtain ⟨p, ys, rfl, h⟩ := h
 obtain ⟨u, rfl, rx⟩ := vals1 r
 cases rx
 rcases h with ⟨hq, q⟩ | ⟨hq, q⟩
 ·obtain ⟨its, r', pl, hz⟩ := I.list hq
  have hlen := r'.length
  refine call_tuple_list pl.isList (fun h' kp => ?_) (by simp only [List.size_toArray] <;> omega)
  have I1 : Inv X pins σ H { s with heap := h' } := I.kept (t' := s.toks) kp
  have I2 : Inv X pins σ (upd H h'.objs.size (.tup ys)) { s with heap := h'.push { cls := .type "tuple", data := .seq its.toArray } } :=
   I1.laid (t' := s.toks) (fun b o e => Heap.get?_push_of_some _ e) (Nat.le_refl _) (show ObjOk X.prog X.w _ _ _ (.tup ys) from ⟨hz, its, r', IsTup.new _ _⟩)
  exact ⟨.ref h'.objs.size, _, I2, rfl, q _ (I1.hok.fresh (Nat.le_refl _))⟩
 ·obtain ⟨its, r', pl, hz⟩ := I.tuple hq
  exact call_tuple_same pl ⟨.ref p, H, I, rfl, q⟩
def tyV (K : PySem.W.Frag) (T : String) (x : V) (H : Hp) : Prop := match x with
 | .str _ => T = "str"
 | .int _ => T = "int"
 | .ref p => (T = "list" ∧ ∃ xs, SqL K H p xs) ∨ (T = "tuple" ∧ ∃ o, K.lookup p = some o ∧ o.cls = .type "tuple" ∧ o.dict = none) ∨
   (T = "dict" ∧ ((∃ kvs, H p = some (.dK kvs)) ∨ ∃ kvs, H p = some (.dT kvs))) ∨ (T = "set" ∧ ∃ S n, H p = some (.set S n))
 | _ => False
theorem rqj {pins : List (Addr × Obj)} {σ : St} {H : Hp} {s : Shared} {T : String} {x : V} {v : Value} (I : Inv X pins σ H s) (r : RelV x v) (ty : tyV X.K T x H) :
  s.TypeIs v T ∧ ∀ a, v = .ref a → ∃ ob, s.heap.get? a = some ob ∧ ob.dict = none := by
 cases x with
 | str z =>
  obtain ⟨t, rfl⟩ := r
  cases (show T = "str" from ty)
  exact ⟨typeIs_str s z t, fun _ e => nomatch e⟩
 | int i =>
  obtain ⟨t, rfl⟩ := r
  cases (show T = "int" from ty)
  exact ⟨typeIs_int s i t, fun _ e => nomatch e⟩
 | ref p =>
  cases r
  rcases ty with ⟨rfl, xs, hq⟩ | ⟨rfl, o, hk, hc, hd⟩ | ⟨rfl, hk⟩ | ⟨rfl, S, n, hk⟩
  ·obtain ⟨its, _, pl, _⟩ := I.list hq
   refine ⟨pl.isList.typeIs, fun a e => ?_⟩
   cases e
   obtain ⟨o, n, e, c, hd, _⟩ := pl
   exact ⟨o, e, hd⟩
  ·refine ⟨⟨o, I.kIn p o hk, hc⟩, fun a e => ?_⟩
   cases e
   exact ⟨o, I.kIn _ o hk, hd⟩
  ·have z : ∃ o, s.heap.get? p = some o ∧ o.ExactDict := by
    rcases hk with ⟨kvs, hk⟩ | ⟨kvs, hk⟩
    ·obtain ⟨_, _, _, _, o, _, _, e, ex, _⟩ := I.hok p _ hk
     exact ⟨o, e, ex⟩
    ·obtain ⟨_, _, _, _, o, _, _, e, ex, _⟩ := I.hok p _ hk
     exact ⟨o, e, ex⟩
   obtain ⟨o, e, ex⟩ := z
   refine ⟨⟨o, e, ex.1⟩, fun a e2 => ?_⟩
   cases e2
   exact ⟨o, e, ex.2.1⟩
  ·obtain ⟨o, _, _, _, e, ex, _⟩ := I.hok p _ hk
   refine ⟨⟨o, e, ex.1⟩, fun a e2 => ?_⟩
   cases e2
   exact ⟨o, e, ex.2.1⟩
 | _ => exact False.elim ty
def tBM0 (K : PySem.W.Frag) (T : String) (r : V → List V → Hp → VK → Prop) (to : TE) : TE := fun σ H Q => to σ H fun x H1 => tyV K T x H1 ∧ r x [] H1 Q
def tBM (K : PySem.W.Frag) (T : String) (r : V → List V → Hp → VK → Prop) (to : TE) (t : TA) : TE := fun σ H Q => to σ H fun x H1 => tyV K T x H1 ∧ t σ H1 fun xs H2 => r x xs H2 Q
variable {o e : Expr} {es : List Expr} {to : TE} {t : TA} {name : Str} {apos cpos : Pos} {T id : String} {r : V → List V → Hp → VK → Prop}
theorem rqO (pa : PlainAttrs T) (slot : Slot T name id) (hty : typeOf (.builtin id) = pure (.type "method_descriptor")) (hm : MtR X id r) (ho : PE X o to) (ha : PA X (e :: es) t)
  (hbase : attributeBase o name X.env (eval o X.env) = eval o X.env := by rfl)
  (hfew : ((backTo cpos (starEach (e :: es) X.env)).all (fun x => !x.1) && (backToKw cpos (keywordEach [] X.env)).all (fun x => x.1.isSome)
   && decide ((e :: es).length + ([] : List Keyword).length + (if ([] : List Keyword).isEmpty then 0 else 1) < 30)) = true := by rfl)
  (hline : (apos.endLine == cpos.line) = true := by rfl) (hs : starEach (e :: es) X.env = (false, eval e X.env) :: starEach es X.env := by rfl) (hplain : (backTo cpos (starEach es X.env)).any (·.1) = false := by rfl) :
  PE X (.Call (.Attribute o name apos) (e :: es) [] cpos) (tBM X.K T r to t) := by
 intro pins s σ H Q I h
 refine wpAny_Call_method_late hbase hfew hline rfl (thn (ho pins s σ H _ I h) fun v s1 W' => ?_)
 obtain ⟨x, H1, I1, r1, ty, q1⟩ := W'
 obtain ⟨h1, h2⟩ := rqj I1 r1 ty
 refine ⟨T, id, pa, slot, hty, h1, h2, ?_⟩
 have hA := ha cpos pins s1 σ H1 _ I1 q1
 rw [hs] at hA ⊢
 refine Calls.callWith_builtin (by show (false || (backTo cpos (starEach es X.env)).any (·.1)) = false; rw [hplain] <;> rfl) (Calls.evalArgs_plain ?_)
 exact thn hA fun us s2 ⟨vs, H2, I2, r2, q2⟩ => hm pins s2 σ H2 x vs v us Q I2 r1 r2 q2
end
def MtM (X : Cx) (id : String) (r : V → List V → Hp → VK → Prop) : Prop :=
 ∀ (pins : List (Addr × Obj)) (s : Shared) (σ : St) (H : Hp) (x : V) (xs : List V) (v : Value) (us : List Value) (Q : VK), Inv X pins σ H s → RelV x v → Vals xs us → r x xs H Q →
  wpAny (model X.prog X.w) X.A (call (.builtin id) (v :: us)) (EP X pins σ Q) X.xe s
theorem Vals.one : ∀ {x : V} {us : List Value}, Vals [x] us → ∃ u, us = [u] ∧ RelV x u
 | _, _, .cons r .nil => ⟨_, rfl, r⟩
section
variable {X : Cx} {pins : List (Addr × Obj)} {σ : St} {H : Hp} {s : Shared} {l b : Addr} {xs ys zs : List V}
theorem Inv.lset {its its' : List Value} {n : Nat} {f : Array Value → Array Value} {t' : Nat} (I : Inv X pins σ H s) (hH : H l = some (.lst xs))
  (e : s.heap.get? l = some { cls := .type "list", data := .seq its.toArray n }) (hf : f its.toArray = its'.toArray) (hv : Vals ys its') (hz : ys.length ≤ sizeLine) :
  Inv X pins σ (upd H l (.lst ys)) { s with heap := s.heap.update l (Obj.mapSeq f), toks := t' } := by
 have q := PySem.IsL.update e f
 rw [hf] at q
 refine I.write (x := l) (e := l) (by rw [hH]; exact trivial) (.inl rfl) (fun b' u hb hu => (Heap.get?_update_other s.heap (Obj.mapSeq f) (Ne.symm hb)).trans hu) ⟨_, q⟩ ?_
 exact ⟨hz, its', _, hv, q⟩
theorem Inv.lnew {its : List Value} {t' : Nat} (I : Inv X pins σ H s) (hv : Vals ys its) (hz : ys.length ≤ sizeLine) :
  Inv X pins σ (upd H s.heap.objs.size (.lst ys)) { s with heap := s.heap.push { cls := .type "list", data := .seq its.toArray }, toks := t' } :=
 I.laid (fun _ _ q => Heap.get?_push_of_some _ q) (Nat.le_refl _) ⟨hz, its, 0, hv, Heap.get?_push_size _ rfl⟩
theorem Inv.fresh (I : Inv X pins σ H s) : H s.heap.objs.size = none := I.hok.fresh (Nat.le_refl _)
theorem Inv.lstM (I : Inv X pins σ H s) (hH : H l = some (.lst xs)) : xs.length ≤ sizeLine ∧ ∃ (its : List Value) (n : Nat), Vals xs its ∧ xs.length = its.length ∧ s.heap.get? l = some { cls := .type "list", data := .seq its.toArray n } := by
 obtain ⟨z, its, n, r, e⟩ := I.hok l _ hH
 exact ⟨z, its, n, r, r.length, e⟩
end
section
variable {X : Cx}
def rAppend : V → List V → Hp → VK → Prop := fun x vs H Q => ∃ l xs y, x = .ref l ∧ vs = [y] ∧ H l = some (.lst xs) ∧ xs.length < sizeLine ∧ Q .non (upd H l (.lst (xs ++ [y])))
theorem fqO : MtM X "list.append" rAppend := by
 intro pins s σ H x vs v us Q I rx rv h
 obtain ⟨l, xs, y, rfl, rfl, hH, hz, q⟩ := h
 cases rx
 obtain ⟨u, rfl, ru⟩ := rv.one
 obtain ⟨z, its, n, r, hl, e⟩ := I.lstM hH
 refine call_meets F.slot_list_append ⟨_, e, rfl⟩ F.entry_list_append (F.args_list_append_2 _ _) (PySem.list_append l its.toArray n u (by rw [List.size_toArray]; omega)) ⟨e, ?_⟩
 refine ⟨.non, _, I.lset (its' := its ++ [u]) hH e (by simp) (r.append (.cons ru .nil)) ?_, rfl, q⟩
 rw [List.length_append, List.length_singleton]
 omega
def rExtend : V → List V → Hp → VK → Prop := fun x vs H Q => ∃ l b xs zs, x = .ref l ∧ vs = [.ref b] ∧ H l = some (.lst xs) ∧ H b = some (.lst zs) ∧ xs.length + zs.length ≤ sizeLine ∧ Q .non (upd H l (.lst (xs ++ zs)))
def rPop : V → List V → Hp → VK → Prop := fun x vs H Q => ∃ l xs y, x = .ref l ∧ vs = [] ∧ H l = some (.lst xs) ∧ xs[xs.length - 1]? = some y ∧ Q y (upd H l (.lst xs.dropLast))
def rPopAt : V → List V → Hp → VK → Prop := fun x vs H Q => ∃ l xs i k y, x = .ref l ∧ vs = [.int i] ∧ H l = some (.lst xs) ∧ -(2 ^ 63) ≤ i ∧ i < 2 ^ 63 ∧ seqIndex? i xs.length = some k ∧ xs[k]? = some y ∧ Q y (upd H l (.lst (xs.eraseIdx k)))
def rReverse : V → List V → Hp → VK → Prop := fun x vs H Q => ∃ l xs, x = .ref l ∧ vs = [] ∧ H l = some (.lst xs) ∧ Q .non (upd H l (.lst xs.reverse))
def rCat : R2 := fun x y H Q => ∃ l b xs zs, x = .ref l ∧ y = .ref b ∧ H l = some (.lst xs) ∧ H b = some (.lst zs) ∧ xs.length + zs.length ≤ sizeLine ∧ ∀ p, H p = none → Q (.ref p) (upd H p (.lst (xs ++ zs)))
theorem qq5 : OpR X (binaryOp .Add) rCat := by
 intro pins s σ H x y v u Q I rx ry h
 obtain ⟨l, b, xs, zs, rfl, rfl, hH, hB, hz, q⟩ := h
 cases rx
 cases ry
 obtain ⟨z, its, n, r, hl, e⟩ := I.lstM hH
 obtain ⟨z2, its2, n2, r2, hl2, e2⟩ := I.lstM hB
 refine PySem.P.add_list e e2 ?_ (by rw [List.size_toArray, List.size_toArray]; omega)
 have ea : its.toArray ++ its2.toArray = (its ++ its2).toArray := by simp
 rw [ea]
 exact ⟨.ref _, _, I.lnew (t' := s.toks) (r.append r2) (by rw [List.length_append]; omega), rfl, q _ I.fresh⟩
end
section
variable {prog : Program} {w : World} {A : Around} {E : Value → Shared → Prop} {s : Shared}
set_option maxRecDepth 100000 in
end
section
variable {X : Cx}
end
end L2
namespace Att
open PySem PySem.W PySem.Calls PyProof.Rows
theorem hqu {P : Params} {h : Heap} : ∀ (ns : List Int) (vs : List Value), WellAll P h vs (ns.map WData.int) → IntsAre vs ns := by
 intro ns
 induction ns with
 | nil =>
  intro vs w
  rw [List.map_nil] at w
  cases w
  exact .nil
 | cons n ns ih =>
  intro vs w
  rw [List.map_cons] at w
  cases w with
  | cons a b =>
   cases a
   exact .cons _ _ (ih _ b)
theorem mqP {l : OpenLaw} {n : Nat} (hn : l.most = some n) {P : Params} {h : Heap} {args : List WData} {vals : List Value}
  (hpre : l.row.toRowW.claim.pre args = true) (hwl : WellAll P h vals args) :
  ∃ a vs ns, vals = [Value.ref a] ∧ args = [WData.list (ns.map WData.int)] ∧ h.get? a = some { cls := .type "list", data := .seq vs.toArray } ∧ IntsAre vs ns ∧ ns.length ≤ n := by
 have hsh : WShape.hasAll [] args [.list .int] = true := (pre_splitW hpre).1
 have hc : l.pre.holds [] { args := args } = true := (pre_splitW hpre).2
 obtain ⟨d, r, rfl, h1, h2⟩ := hasAllW_cons hsh
 obtain rfl := hasAllW_nil h2
 obtain ⟨xs, rfl, h3⟩ := hasW_list h1
 obtain ⟨ns, rfl⟩ := items_int h3
 have hlen : ns.length ≤ n := by
  unfold OpenLaw.pre at hc
  have h4 : (WTm.not (.lt (.lit (.int (n : Int))) (.len (.arg 0)))).holds [] { args := [.list (ns.map .int)] } = true := by
   have h4 := (holds_andW hc).1
   rw [hn] at h4
   exact h4
  have h5 := condW_of h4 (w_not (w_lt w_lit (w_len_list (w_arg rfl))))
  rw [List.length_map] at h5
  refine Nat.le_of_not_lt fun q => ?_
  have q' : (n : Int) < ((ns.length : Nat) : Int) := by omega
  first
   | (rw [decide_eq_true q'] at h5; exact absurd h5 (by decide))
   | (simp at h5; omega)
 cases hwl with
 | cons w1 w2 =>
  cases w2
  cases w1 with
  | list ho hall => exact ⟨_, _, ns, rfl, rfl, ho, hqu ns _ hall, hlen⟩
theorem mqG (l : OpenLaw) (args : List WData) : l.row.toRowW.claim.post args (.bool true) args = true :=
 postW_of (r := l.row.toRowW) (X := (true == true))
  (show WShape.has [] (.bool true) .bool = true by first | rfl | decide | simp [WShape.has, WShape.arms, WShape.armsAll])
  (show (WTm.eq .res (.lit (.bool true))).value [] { args := args, res := some (.bool true), after := args } = some (.bool (true == true)) from w_eq_bool (w_res rfl) w_lit) rfl
theorem attach_call {l : OpenLaw} {n : Nat} {q : Program} {loose : List Str} {XP : (Str → Option Value) → Heap → Prop} {YP : World → Heap → Prop} {d : DefRec}
  (hn : l.most = some n) (hdf : d.params.defaults = [])
  (call : ∀ (w : World) (s₀ s₁ : Shared) (mg mb : Str → Option Value) (fa : Addr) (o : Obj) (pm cd doc : Value) (a : Addr) (vs : List Value) (ns : List Int),
   Ground q loose [] XP w s₀ mg mb s₁.heap → YP w s₁.heap →
   s₁.heap.get? fa = some o → o.data = .func (docDef d.name d.params d.body d.scope pm cd doc) → s₁.heap.CodeRec cd d.name → mg d.name = some (.ref fa) →
   s₁.heap.get? a = some { cls := .type "list", data := .seq vs.toArray } → IntsAre vs ns → ns.length ≤ n → s₁.gens = #[] →
   codeAny (model l.prog w) callerA (.call (.ref fa) ⟨[.ref a], []⟩) (fun r s' => r = .ok (.ret (.bool true)) ∧ OldK s₁.heap s'.heap ∧ s'.os = s₁.os ∧ AllBare s'.gens) s₁) :
  WalkO q loose XP YP l.row.toRowW d [] (fun f vs => PySem.call f vs) := by
 intro w s₀ s₁ mg mb G Y fa o pm cd doc dV kV ho hd hcd hD hmg hg args vals as hpre hlay hrd hwl hlo
 obtain rfl : dV = .none := Dflts.none hD hdf
 obtain rfl : kV = .none := Dflts.noKw hD
 obtain ⟨a, vs, ns, rfl, rfl, hobj, hints, hlen⟩ := mqP hn hpre hwl
 refine enter_call (codeAny_mono (call w s₀ s₁ mg mb fa o pm cd doc a vs ns G Y ho (fd_plain hd) hcd hmg hobj hints hlen hg) fun r s' hq => ?_)
 obtain ⟨rfl, h2, h3, h4⟩ := hq
 exact ⟨.inl ⟨.bool true, .bool true, [], rfl, fun _ => rfl, .bool true, mqG l _, fun _ => ⟨List.Pairwise.nil, fun _ hm => (nomatch hm)⟩⟩, h2, h3, h4⟩
section
variable {prog : Program} {w : World} {A : Around} {E : Value → Shared → Prop} {s : Shared} {K : Frag}
def ledger (h : Heap) (L d : Addr) : List (Addr × Obj) := (List.range h.objs.size).filterMap fun a => if a = L ∨ a = d then none else (h.get? a).map fun o => (a, o)
end
end Att
namespace L2
open PySem PySem.Spec PyProof.Rows
theorem iq6 : ∀ {vs : List Value} {ns : List Int}, IntsAre vs ns → Vals (ns.map V.int) vs
 | _, _, .nil => .nil
 | _, _, .cons n t h => .cons ⟨t, rfl⟩ (iq6 h)
def Only (H : Hp) : Prop := ∀ b, H b = none ∨ ∃ o xs, H b = some (.frz o (.lst xs))
theorem nqv {P : Program} {w : World} {K : PySem.W.Frag} {mg mb : Str → Option Value} {CX : CXT} {k : Nat} {fa a : Addr} {fd : FuncData} {x : Str} {sp : Sp} {s₁ : Shared} {vs : List Value} {ns : List Int}
  (KX : K.In s₁.heap) (hns : s₁.heap.Ns mainGlobals mg) (hb : s₁.heap.Ns builtinsNs mb) (hbb : ∀ x : Str, x ≠ "__name__" → mb x = bootBuiltins x) (hlim : s₁.heap.NoLimit) (hg : s₁.gens = #[])
  (ha : s₁.heap.get? a = some { cls := .type "list", data := .seq vs.toArray }) (hi : IntsAre vs ns) (hl : ns.length ≤ sizeLine) (hr : Room k callerA)
  (F : ∀ base : Heap, K.In base → base.Ns mainGlobals mg → FnOk P w K mg base CX k fa fd [x] sp) (hbind : ∀ (s : Shared) (u : Value), BindsTo s fd ⟨[u], []⟩ [(x, u)])
  (hsp : ∀ H : Hp, Only H → SqL K H a (ns.map V.int) → sp [.ref a] H (fun v _ => v = .bl true) fun _ _ _ => False)
  (hCX : ∀ H e s', CX [] H s₁ (fun _ _ _ => False) e s' → False) :
  codeAny (model P w) callerA (.call (.ref fa) ⟨[.ref a], []⟩) (fun r s' => r = .ok (.ret (.bool true)) ∧ OldK s₁.heap s'.heap ∧ s'.os = s₁.os ∧ AllBare s'.gens) s₁ := by
 have rv := iq6 hi
 have lenV := hi.length
 have core : ∀ H : Hp, Only H → SqL K H a (ns.map V.int) → HOk P w H s₁.heap → (∀ b, H b ≠ none → b = a) → (H a ≠ none → K.lookup a = none) →
   codeAny (model P w) callerA (.call (.ref fa) ⟨[.ref a], []⟩) (fun r s' => r = .ok (.ret (.bool true)) ∧ OldK s₁.heap s'.heap ∧ s'.os = s₁.os ∧ AllBare s'.gens) s₁ := by
  intro H hO hS hok hA hK
  have base_of : ∀ {b : Addr} {o : Obj}, s₁.heap.get? b = some o → H b = none → (hidT s₁.heap H).get? b = some o := fun e n => nqa e n
  have noA : ∀ {b : Addr} {o : Obj} {es : Array DictEntry} {ep : Nat}, s₁.heap.get? b = some o → o.data = .dict es ep → H b = none := fun {b o es ep} e d => by
   cases q : H b with
   | none => rfl
   | some u =>
    have e' : b = a := hA b (by rw [q]; simp)
    subst e'
    rw [ha] at e; cases e
    have d' : Data.seq vs.toArray _ = Data.dict es ep := d
    cases d'
  have nsK : ∀ {b : Addr} {m : Str → Option Value}, s₁.heap.Ns b m → (hidT s₁.heap H).Ns b m := fun {b m} ⟨o, es, ep, e, d, r⟩ => ⟨o, es, ep, base_of e (noA e d), d, r⟩
  have hKb : K.In (hidT s₁.heap H) := fun b o e => base_of (KX b o e) (by
   cases q : H b with
   | none => rfl
   | some u =>
    have e' : b = a := hA b (by rw [q]; simp)
    subst e'
    rw [hK (by rw [q]; simp)] at e; cases e)
  have hM : Mod K mg (hidT s₁.heap H) := ⟨hKb, nsK hns, ⟨mb, nsK hb, hbb⟩, let ⟨mc, h1, h2⟩ := hlim; ⟨mc, nsK h1, h2⟩⟩
  have e0 : Env0 P w K mg (hidT s₁.heap H) callerA [] s₁ H := ⟨rfl, hM, fun b o e => oq0 e, Nat.le_of_eq (mqf _ _), trivial, fun b hb => absurd (show b ∈ ([] : List Addr) from hb) (by simp), hok, .of_eq hg⟩
  refine codeAny_mono ((F _ hKb (nsK hns)).run callerA [] s₁ H ⟨[.ref a], []⟩ [.ref a] [.ref a] _ _ hr e0 (hbind s₁ (.ref a)) (.cons rfl .nil) (hsp H hO hS)) fun r s' h => ?_
  cases r with
  | error e => exact (hCX H e s' h).elim
  | ok fl =>
   cases fl with
   | next => exact False.elim h
   | brk => exact False.elim h
   | cont => exact False.elim h
   | ret u =>
    obtain ⟨v, H', os, bare, un, hok', r', q⟩ := h
    have q' : v = .bl true := q
    subst q'
    obtain rfl : u = Value.bool true := r'
    refine ⟨rfl, OldK.of_keep fun b o e => ?_, os, bare⟩
    cases q : H b with
    | none => exact un.keep b o e q (by intro z; exact absurd (show b ∈ ([] : List Addr) from z) (by simp)) (by simp)
    | some u =>
     rcases hO b with z | ⟨ob, xs, z⟩
     ·rw [q] at z; cases z
     ·have z2 := un.frzs b ob _ z
      obtain ⟨e1, _⟩ := hok b _ z
      obtain ⟨e2, _⟩ := hok' b _ z2
      rw [e] at e1; cases e1
      exact e2
 cases hk : K.lookup a with
 | some o =>
  have e := KX a o hk
  rw [ha] at e
  cases e
  refine core (fun _ => none) (fun _ => .inl rfl) (.inr ⟨_, vs.toArray, _, hk, rfl, rfl, rfl, by rw [List.size_toArray, lenV]; exact hl, by simpa using rv⟩) (fun b u z => by have z' : (none : Option HO) = some u := z; cases z') (fun b z => absurd rfl z) fun z => absurd rfl z
 | none =>
  refine core (fun b => if b = a then some (.frz { cls := .type "list", data := .seq vs.toArray } (.lst (ns.map V.int))) else none) (fun b => ?_) (.inl (.inr ⟨{ cls := .type "list", data := .seq vs.toArray }, if_pos rfl⟩)) (fun b u z => ?_) (fun b z => ?_) fun _ => hk
  ·by_cases hb : b = a
   ·exact .inr ⟨_, _, if_pos hb⟩
   ·exact .inl (if_neg hb)
  ·by_cases hb : b = a
   ·have z' := (if_pos hb).symm.trans z
    cases z'
    subst hb
    exact ⟨ha, by rw [List.length_map]; exact hl, vs, _, rv, ha⟩
   ·have z' := (if_neg hb).symm.trans z
    cases z'
  ·by_cases hb : b = a
   ·exact hb
   ·exact absurd (if_neg hb) z
abbrev KOf {K : PySem.W.Frag} {h : Heap} (_ : K.In h) : PySem.W.Frag := K
theorem pqD {l : PySem.W.OpenLaw} {n k : Nat} {q : Program} {loose : List Str} {XP : (Str → Option Value) → Heap → Prop} {YP : World → Heap → Prop} {d : DefRec} {K : Params → PySem.W.Frag} {CX : World → CXT} {sp : World → Sp} {x : Str}
  (hn : l.most = some n) (hn2 : n ≤ sizeLine) (hdf : d.params.defaults = []) (hr : Room k callerA)
  (hY : ∀ (w : World) (h : Heap), YP w h → (K w.params).In h)
  (F : ∀ (w : World) (mg : Str → Option Value) (fa : Addr) (h : Heap), (K w.params).In h → h.Ns mainGlobals mg → mg d.name = some (.ref fa) →
   ∃ fd : FuncData, (∀ (s : Shared) (u : Value), BindsTo s fd ⟨[u], []⟩ [(x, u)]) ∧
    ∀ base : Heap, (K w.params).In base → base.Ns mainGlobals mg → FnOk l.prog w (K w.params) mg base (CX w) k fa fd [x] (sp w))
  (hsp : ∀ (w : World) (H : Hp) (a : Addr) (ns : List Int), ns.length ≤ n → Only H → SqL (K w.params) H a (ns.map V.int) → sp w [.ref a] H (fun v _ => v = .bl true) fun _ _ _ => False)
  (hCX : ∀ (w : World) (H : Hp) (s : Shared) (e : Value) (s' : Shared), CX w [] H s (fun _ _ _ => False) e s' → False) :
  PySem.W.WalkO q loose XP YP l.row.toRowW d [] (fun f vs => PySem.call f vs) := by
 refine Att.attach_call hn hdf fun w s₀ s₁ mg mb fa o pm cd doc a vs ns G Y ho hd hcd hmg hobj hints hlen hg => ?_
 have KX := hY w _ Y
 obtain ⟨fd, hb, hF⟩ := F w mg fa _ KX G.T.g hmg
 exact nqv KX G.T.g G.T.b G.T.builtins G.T.nolimit hg hobj hints (Nat.le_trans hlen hn2) hr hF hb (fun H hO hS => hsp w H a ns hlen hO hS) fun H e s' => hCX w H s₁ e s'
def defArgs (s : Stmt) : Arguments := match s with
 | .FunctionDef _ a _ _ _ _ _ _ _ _ => a
 | _ => { posonlyargs := [], args := [], vararg := none, kwonlyargs := [], kw_defaults := [], kwarg := none, defaults := [] }
def defBody (s : Stmt) : List Stmt := match s with
 | .FunctionDef _ _ b _ _ _ _ _ _ _ => b
 | _ => []
def defScope (s : Stmt) : Scope := match s with
 | .FunctionDef _ _ _ _ _ _ sc _ _ _ => sc
 | _ => { kind := .function, names := [], isGenerator := false, isCoroutine := false }
abbrev CX0 : CXT := fun _ _ _ _ _ _ => False
abbrev E0 : XK := fun _ _ _ => False
theorem pass0 {X : Cx} : Passes CX0 X E0 := fun _ _ _ _ _ _ _ h => h.elim
structure Fun (K : PySem.W.Frag) (x qual : Str) (st : Stmt) (f : Addr) (fd : FuncData) : Prop where
 ex : ∃ (oc : Value) (od : Option Addr) (kV doc pm : Value) (an : Option Addr) (cdv ct : Value) (osl : Array (Option Value)),
  fd = PySem.W.fnOf x qual (defArgs st) (defBody st) (defScope st) .none kV doc pm an cdv ct ∧ K.lookup f = some ⟨oc, od, .func fd, osl⟩ ∧ PySem.W.codeIn K cdv qual = true
 kp : PySem.W.keepIn K (.ref f) = true
section
variable {P : Program} {w : World} {K : PySem.W.Frag} {mg : Str → Option Value} {base : Heap}
theorem Fun.ok {x qual : Str} {st : Stmt} {f : Addr} {fd : FuncData} {N ps : List Str} {k : Nat} {sp : Sp} (F : Fun K x qual st f fd) (S : FnScope N ps (defScope st)) (len : ∀ vs H Q E, sp vs H Q E → vs.length = ps.length)
  (hbody : ∀ (cdv : Value) (A : Around) (outer : List Env) (s : Shared) (H : Hp) (vs : List V) (Q : VK) (E : XK), Room k (A.deeper (envOfC qual (defScope st) s.heap.objs.size f cdv)) → sp vs H Q E →
   ∃ t, PSs (cxOf CX0 P w K mg base N qual (defScope st) f cdv A outer s H E).nox (defBody st) t ∧ t { nx := fun _ H' => Q .non H', rt := Q } (start N vs) H) : FnOk P w K mg base CX0 (k + 1) f fd ps sp := by
 obtain ⟨oc, od, kV, doc, pm, an, cdv, ct, osl, rfl, lk, hcd⟩ := F.ex
 refine pqk lk hcd S len fun A outer s H vs Q E hr hsp => ?_
 obtain ⟨t, h, q⟩ := hbody cdv A outer s H vs Q E hr hsp
 exact ⟨t, h.nox, q⟩
theorem Fun.binds {x qual : Str} {st : Stmt} {f : Addr} {fd : FuncData} {ps : List Str} (F : Fun K x qual st f fd)
  (h : ∀ (kV doc pm : Value) (an : Option Addr) (cdv ct : Value) (us : List Value), us.length = ps.length → bindArgs (PySem.W.fnOf x qual (defArgs st) (defBody st) (defScope st) .none kV doc pm an cdv ct) ⟨us, []⟩ = pure (ps.zip us)) : Binds K fd ps [] := by
 obtain ⟨oc, od, kV, doc, pm, an, cdv, ct, osl, rfl, lk, hcd⟩ := F.ex
 exact .all (h kV doc pm an cdv ct)
theorem aqC {x qual : Str} {st : Stmt} {f : Addr} {oc : Value} {od an : Option Addr} {osl : Array (Option Value)} {kV doc pm cdv ct : Value} (l : K.lookup f = some ⟨oc, od, .func (PySem.W.fnOf x qual (defArgs st) (defBody st) (defScope st) .none kV doc pm an cdv ct), osl⟩)
  (c : PySem.W.codeIn K cdv qual = true) (k : PySem.W.keepIn K (.ref f) = true) : Fun K x qual st f (PySem.W.fnOf x qual (defArgs st) (defBody st) (defScope st) .none kV doc pm an cdv ct) := ⟨⟨oc, od, kV, doc, pm, an, cdv, ct, osl, rfl, l, c⟩, k⟩
end
section
variable {X : Cx}
theorem pv (i : Nat) {x : Str} {pos : Pos} (hN : X.N[i]? = some x := by rfl) (hv : Vis X.env.scope x := by first | exact Or.inl rfl | exact Or.inr (Or.inl rfl) | exact Or.inr (Or.inr rfl)) (hd : (x == ("__debug__" : Str)) = false := by decide)
  (hcd : (x == ("__classdict__" : Str)) = false := by decide) : PE X (.Name x pos) (tVar i) := rqt hN hv hd hcd
end
theorem ite2 {c A B : Prop} [Decidable c] (h1 : c → A) (h2 : ¬ c → B) : if c then A else B := by
 by_cases h : c
 ·rw [if_pos h]
  exact h1 h
 ·rw [if_neg h]
  exact h2 h
def Same (H H' : Hp) : Prop := ∀ b o, H b = some o → H' b = some o
theorem Same.refl (H : Hp) : Same H H := fun _ _ h => h
theorem Same.trans {H H1 H2 : Hp} (a : Same H H1) (b : Same H1 H2) : Same H H2 := fun c o h => b c o (a c o h)
theorem Same.seq {K : PySem.W.Frag} {H H' : Hp} {a : Addr} {xs : List V} (e : Same H H') (h : SqL K H a xs) : SqL K H' a xs := by
 rcases h with (h | ⟨o, h⟩) | h
 ·exact .inl (.inl (e _ _ h))
 ·exact .inl (.inr ⟨o, e _ _ h⟩)
 ·exact .inr h
end L2
set_option maxHeartbeats 4000000
namespace L2
open PySem PySem.Spec PyProof.Rows
def Its (z : Str) : It := ⟨fun i _ => i < z.length, fun i H x H' => H' = H ∧ ∃ c, z.cps.toList[i]? = some c ∧ x = .str ⟨#[c]⟩, fun i _ => z.length ≤ i⟩
theorem lqM {z : Str} {i : Nat} (h : i < z.length) : ∃ c, z.cps[i]? = some c ∧ z.cps.toList[i]? = some c := by
 have h' : i < z.cps.size := h
 exact ⟨z.cps[i], by simp [h'], by simp [h']⟩
theorem kqL {z : Str} {i : Nat} (h : z.length ≤ i) : z.cps[i]? = none := by
 have h' : z.cps.size ≤ i := h
 simp [h']
theorem mqE {P : Program} {w : World} {K : PySem.W.Frag} {tg : Expr} (it : Addr) (z : Str) (t : Tok) : Turn P w K tg (Its z) [it] it (fun i h => h.IsStrIter it "str_ascii_iterator" z t i) where
 mem := by simp
 obj := fun i h st b hb => by
  have e : b = it := by simpa using hb
  subst e
  obtain ⟨o, e, c, d⟩ := st
  exact ⟨o, e, fun v z => by rw [d] at z; cases z⟩
 keep := fun i h h' st k => by
  obtain ⟨o, e, r⟩ := st
  exact ⟨o, k it (by simp) o e, r⟩
 item := by
  intro X hP hw hK hc i pins s σ H E I hf st hg
  subst hP hw hK
  obtain ⟨c, h1, h2⟩ := lqM (z := z) (i := i) hg
  obtain ⟨f0, f1, f2, f3, f4, f5⟩ := hf it (by simp)
  refine wpAny_pyNext_ascii_item st h1 fun h' st' sb => ?_
  have I1 : Inv X pins σ H { s with heap := h', toks := s.toks + 1 } := I.turned (t' := s.toks + 1) (fun b o hb e => (sb.2 b hb).trans e) f0 f1 f3 f4 f5
  obtain ⟨o, e, cl, d⟩ := id st'
  exact ⟨_, rfl, lq2 (s := { s with heap := h', toks := s.toks + 1 }) e cl d (by decide) ⟨.str ⟨#[c]⟩, H, I1, ⟨_, rfl⟩, ⟨rfl, c, h2, rfl⟩, st', fun b hb => (hf b hb).1⟩⟩
 done := by
  intro X hP hw hK hc i pins s σ H E I hf st hg
  subst hP hw hK
  obtain ⟨f0, f1, f2, f3, f4, f5⟩ := hf it (by simp)
  exact wpAny_pyNext_ascii_end (I.ok.hd hc) st (kqL hg) fun h' eb => ⟨rfl, I.turned (t' := s.toks) (fun b o hb e => eb b o hb e) f0 f1 f3 f4 f5⟩
 self := fun _ _ _ _ _ st h => wpAny_pyIter_striter_ascii st h
theorem mqA {P : Program} {w : World} {K : PySem.W.Frag} {tg : Expr} (it : Addr) (z : Str) (t : Tok) : Turn P w K tg (Its z) [it] it (fun i h => h.IsStrIter it "str_iterator" z t i) where
 mem := by simp
 obj := fun i h st b hb => by
  have e : b = it := by simpa using hb
  subst e
  obtain ⟨o, e, c, d⟩ := st
  exact ⟨o, e, fun v z => by rw [d] at z; cases z⟩
 keep := fun i h h' st k => by
  obtain ⟨o, e, r⟩ := st
  exact ⟨o, k it (by simp) o e, r⟩
 item := by
  intro X hP hw hK hc i pins s σ H E I hf st hg
  subst hP hw hK
  obtain ⟨c, h1, h2⟩ := lqM (z := z) (i := i) hg
  obtain ⟨f0, f1, f2, f3, f4, f5⟩ := hf it (by simp)
  refine wpAny_pyNext_wide_item st h1 fun h' st' sb => ?_
  have I1 : Inv X pins σ H { s with heap := h', toks := s.toks + 1 } := I.turned (t' := s.toks + 1) (fun b o hb e => (sb.2 b hb).trans e) f0 f1 f3 f4 f5
  obtain ⟨o, e, cl, d⟩ := id st'
  exact ⟨_, rfl, lq2 (s := { s with heap := h', toks := s.toks + 1 }) e cl d (by decide) ⟨.str ⟨#[c]⟩, H, I1, ⟨_, rfl⟩, ⟨rfl, c, h2, rfl⟩, st', fun b hb => (hf b hb).1⟩⟩
 done := by
  intro X hP hw hK hc i pins s σ H E I hf st hg
  subst hP hw hK
  obtain ⟨f0, f1, f2, f3, f4, f5⟩ := hf it (by simp)
  exact wpAny_pyNext_wide_end (I.ok.hd hc) st (kqL hg) fun h' eb => ⟨rfl, I.turned (t' := s.toks) (fun b o hb e => eb b o hb e) f0 f1 f3 f4 f5⟩
 self := fun _ _ _ _ _ st h => wpAny_pyIter_striter_wide st h
section
variable {X : Cx} {tg : Expr}
def iStr (tl : TE) : TI := fun σ H R => tl σ H fun x H1 => ∃ z, x = .str z ∧ R (Its z) H1
theorem qqz {l : Expr} {tl : TE} (hl : PE X l tl) : PI X tg l (iStr tl) := by
 intro pins s σ H R I h
 refine thn (hl pins s σ H _ I h) fun v s1 W' => ?_
 obtain ⟨x, H1, I1, r1, q1⟩ := W'
 obtain ⟨z, rfl, q⟩ := q1
 obtain ⟨t, rfl⟩ := r1
 have fp : ∀ b ∈ [s1.heap.objs.size], FpOk X pins H1 b := fun b hb => by
  have e : b = s1.heap.objs.size := by simpa using hb
  subst e
  exact I1.fpOk (Nat.le_refl _) (I1.hok.fresh (Nat.le_refl _))
 cases ha : z.cps.all (· < 128)
 ·refine wpAny_pyIter_wide ha ?_
  exact ⟨s1.heap.objs.size, [s1.heap.objs.size], _, _, H1, rfl, I1.kept (t' := s1.toks) fun b o e => Heap.get?_push_of_some _ e, mqA _ z t, ⟨_, Heap.get?_push_size _ rfl, rfl, rfl⟩, fp, q⟩
 ·refine wpAny_pyIter_ascii ha ?_
  exact ⟨s1.heap.objs.size, [s1.heap.objs.size], _, _, H1, rfl, I1.kept (t' := s1.toks) fun b o e => Heap.get?_push_of_some _ e, mqE _ z t, ⟨_, Heap.get?_push_size _ rfl, rfl, rfl⟩, fp, q⟩
end
section
variable {X : Cx}
def rSlS : V → Option Int → Option Int → Hp → VK → Prop := fun x lo hi H Q => ∃ z, x = .str z ∧ z.length ≤ sizeLine ∧ Q (.str (Txt.slice z lo hi)) H
theorem qqK : SlR X rSlS := by
 intro pins s σ H x v vl vu lo hi sl Q I rx hs pl pu h
 obtain ⟨z, rfl, hz, q⟩ := h
 obtain ⟨t, rfl⟩ := rx
 refine ⟨"str", _, F.slot_str_getitem.lookup, typeIs_str _ _ _, ?_⟩
 obtain ⟨o, ho, hc, hd⟩ := hs
 cases pl with
 | none =>
  cases pu with
  | none => exact wpAny_getItem_str_slice (l := none) (u := none) (st := none) ⟨o, ho, hc, hd⟩ rfl (post_val_or_str ⟨Nat.le_trans (Txt.slice_le z none none) hz, fun t' k => ⟨.str (Txt.slice z none none), H, I.tok k, ⟨t', rfl⟩, q⟩⟩)
  | int j uj => exact wpAny_getItem_str_slice (l := none) (u := some (j, uj)) (st := none) ⟨o, ho, hc, hd⟩ rfl (post_val_or_str ⟨Nat.le_trans (Txt.slice_le z none (some j)) hz, fun t' k => ⟨.str (Txt.slice z none (some j)), H, I.tok k, ⟨t', rfl⟩, q⟩⟩)
 | int i ui =>
  cases pu with
  | none => exact wpAny_getItem_str_slice (l := some (i, ui)) (u := none) (st := none) ⟨o, ho, hc, hd⟩ rfl (post_val_or_str ⟨Nat.le_trans (Txt.slice_le z (some i) none) hz, fun t' k => ⟨.str (Txt.slice z (some i) none), H, I.tok k, ⟨t', rfl⟩, q⟩⟩)
  | int j uj => exact wpAny_getItem_str_slice (l := some (i, ui)) (u := some (j, uj)) (st := none) ⟨o, ho, hc, hd⟩ rfl (post_val_or_str ⟨Nat.le_trans (Txt.slice_le z (some i) (some j)) hz, fun t' k => ⟨.str (Txt.slice z (some i) (some j)), H, I.tok k, ⟨t', rfl⟩, q⟩⟩)
def rSl (K : PySem.W.Frag) : V → Option Int → Option Int → Hp → VK → Prop := fun x lo hi H Q => rSlL K x lo hi H Q ∨ rSlS x lo hi H Q
theorem qqf : SlR X (rSl X.K) := lq0.or qqK
def rIndex : V → List V → Hp → VK → Prop := fun x vs H Q => match x, vs with
 | .str z, [.str y] => ∃ i r, Builtin.Str.occurrences z y 0 z.length 1 = i :: r ∧ Q (.int (i : Nat)) H
 | _, _ => False
theorem nqi {z y : Str} {H : Hp} {Q : VK} : (rIndex (.str z) [.str y] H Q) = (∃ i r, Builtin.Str.occurrences z y 0 z.length 1 = i :: r ∧ Q (.int (i : Nat)) H) := rfl
theorem kq0 : MtR X "str.index" rIndex := by
 intro pins s σ H x vs v us Q I rx rv h
 unfold rIndex at h
 split at h
 rotate_left
 ·exact h.elim
 rename_i z y
 obtain ⟨i, r, ho, q⟩ := h
 obtain ⟨t, rfl⟩ := rx
 obtain ⟨u, rfl, t', rfl⟩ := vals1 rv
 exact SC.index ho ⟨.int (i : Nat), H, I.tok _, ⟨_, rfl⟩, q⟩
theorem notTooLong {n : Nat} (h : n ≤ 1000000) : Builtin.Str.tooLong n = false := by
 unfold Builtin.Str.tooLong
 rw [sizeLine_eq]
 exact decide_eq_false (by omega)
def rUpper : V → List V → Hp → VK → Prop := fun x vs H Q => match x, vs with
 | .str z, [] => (∀ c ∈ z.cps.toList, c < 128) ∧ z.length ≤ 1000000 ∧ Q (.str ⟨z.cps.map up1⟩) H
 | _, _ => False
theorem rqi {z : Str} {H : Hp} {Q : VK} : (rUpper (.str z) [] H Q) = ((∀ c ∈ z.cps.toList, c < 128) ∧ z.length ≤ 1000000 ∧ Q (.str ⟨z.cps.map up1⟩) H) := rfl
def rLower : V → List V → Hp → VK → Prop := fun x vs H Q => match x, vs with
 | .str z, [] => (∀ c ∈ z.cps.toList, c < 128) ∧ z.length ≤ 1000000 ∧ Q (.str ⟨z.cps.map lo1⟩) H
 | _, _ => False
theorem rqe {z : Str} {H : Hp} {Q : VK} : (rLower (.str z) [] H Q) = ((∀ c ∈ z.cps.toList, c < 128) ∧ z.length ≤ 1000000 ∧ Q (.str ⟨z.cps.map lo1⟩) H) := rfl
def rAlnum : V → List V → Hp → VK → Prop := fun x vs H Q => match x, vs with
 | .str z, [] => Q (.bl (Txt.isalnum z)) H
 | _, _ => False
theorem qq0 {z : Str} {H : Hp} {Q : VK} : (rAlnum (.str z) [] H Q) = (Q (.bl (Txt.isalnum z)) H) := rfl
theorem lql {ys : List Str} : ∀ {us : List Value}, Vals (ys.map V.str) us → StrsAre us ys := by
 induction ys with
 | nil => intro us r; rw [List.map_nil] at r; cases r; exact .nil
 | cons y ys ih =>
  intro us r
  rw [List.map_cons] at r
  cases r with
  | cons r1 r2 =>
   obtain ⟨t, e⟩ := r1
   subst e
   exact .cons y t (ih r2)
def rJoin (K : PySem.W.Frag) : V → List V → Hp → VK → Prop := fun x vs H Q => ∃ z p ys, x = .str z ∧ vs = [.ref p] ∧ SqL K H p (ys.map V.str) ∧ (ys.map (·.length)).sum + ys.length * z.length ≤ 16777216 ∧ Q (.str (Txt.join z ys)) H
theorem pqa : MtR X "str.join" (rJoin X.K) := by
 intro pins s σ H x vs v us Q I rx rv h
 obtain ⟨z, p, ys, rfl, rfl, hq, hz, q⟩ := h
 obtain ⟨t, rfl⟩ := rx
 obtain ⟨u, rfl, ru⟩ := vals1 rv
 cases ru
 obtain ⟨its, r, pl, hl⟩ := I.list hq
 exact join_list pl.isList (by simpa using lql r) hz fun t' k => ⟨.str (Txt.join z ys), H, I.tok k, ⟨t', rfl⟩, q⟩
def rIsi (K : PySem.W.Frag) : List V → Hp → VK → Prop := fun vs H Q => ∃ x T t b, vs = [x, .ty T] ∧ TyOf K H x t ∧ PySem.W.kitOne K t (.type T) = some b ∧ Q (.bl b) H
theorem iqW : CallR X (.builtin "isinstance") (rIsi X.K) := by
 intro pins s σ H xs us Q I r h
 obtain ⟨x, T, t, b, rfl, ty, e, q⟩ := h
 obtain ⟨u, v, rfl, ru, rv⟩ := vals2 r
 cases (show v = Value.type T from rv)
 exact lq4 I ru ty e fun tk => ⟨.bl b, H, I.tok tk, rfl, q⟩
def rCatD : R2 := fun x y H Q => ∃ a b xs ys, x = .ref a ∧ y = .ref b ∧ H a = some (.tup xs) ∧ H b = some (.tup ys) ∧ xs.length + ys.length ≤ sizeLine ∧ ∀ p H', Same H H' → H' p = some (.tup (xs ++ ys)) → Q (.ref p) H'
theorem pqz : OpR X (binaryOp .Add) rCatD := by
 intro pins s σ H x y v u Q I rx ry h
 obtain ⟨a, b, xs, ys, rfl, rfl, ha, hb, hz, q⟩ := h
 by_cases hx : xs = []
 ·subst hx
  cases rx
  cases ry
  obtain ⟨its, r1, p1, _⟩ := I.tuple (SqT.of ha)
  obtain ⟨its2, r2, p2, _⟩ := I.tuple (SqT.of hb)
  cases r1
  obtain ⟨⟨cls, dd, data, sl⟩, ho, hc, n, hd⟩ := id p1
  obtain ⟨⟨cls2, dd2, data2, sl2⟩, ho2, hc2, n2, hd2⟩ := id p2
  simp only at hc hd hc2 hd2
  subst hc hd hc2 hd2
  exact concat_meets ⟨_, ho, rfl⟩ ⟨_, ho2, rfl⟩ noFill_tuple_add seq_tuple_add PySem.F.slot_tuple_add PySem.F.entry_tuple_add (PySem.F.args_tuple_add_2 _ _)
   (tuple_addW0 a b ([] : List Value).toArray its2.toArray n n2 dd dd2 sl sl2 rfl) ⟨ho, ho2, ⟨.ref b, H, I, rfl, q b H (Same.refl _) hb⟩⟩
 ·refine pqG pins s σ H _ _ v u Q I rx ry ⟨a, b, xs, ys, rfl, rfl, SqT.of ha, SqT.of hb, hx, hz, fun e => q a H (Same.refl _) (by rw [e, List.append_nil]; exact ha), fun _ p hp => q p _ (fun b o e => by rw [aqw (aqo e hp)]; exact e) aqk⟩
def rAddU (K : PySem.W.Frag) : R2 := fun x y H Q => match x, y with
 | .int i, .int j => Q (.int (i + j)) H
 | .str i, .str j => i.length + j.length ≤ sizeLine ∧ Q (.str (i ++ j)) H
 | .ref a, .ref b => (∃ xs zs, H a = some (.lst xs) ∧ H b = some (.lst zs) ∧ xs.length + zs.length ≤ sizeLine ∧ ∀ p, H p = none → Q (.ref p) (upd H p (.lst (xs ++ zs)))) ∨
   (∃ xs ys, H a = some (.tup xs) ∧ H b = some (.tup ys) ∧ xs.length + ys.length ≤ sizeLine ∧ ∀ p H', Same H H' → H' p = some (.tup (xs ++ ys)) → Q (.ref p) H')
 | _, _ => False
theorem mqC : OpR X (binaryOp .Add) (rAddU X.K) := by
 intro pins s σ H x y v u Q I rx ry h
 cases x with
 | int i =>
  cases y with
  | int j => exact qqN pins s σ H _ _ v u Q I rx ry ⟨i, j, rfl, rfl, h⟩
  | _ => exact h.elim
 | str i =>
  cases y with
  | str j => exact lqe pins s σ H _ _ v u Q I rx ry ⟨i, j, rfl, rfl, h.1, h.2⟩
  | _ => exact h.elim
 | ref a =>
  cases y with
  | ref b =>
   rcases h with ⟨xs, zs, h1, h2, h3, h4⟩ | ⟨xs, ys, h1, h2, h3, h4⟩
   ·exact qq5 pins s σ H _ _ v u Q I rx ry ⟨a, b, xs, zs, rfl, rfl, h1, h2, h3, h4⟩
   ·exact pqz pins s σ H _ _ v u Q I rx ry ⟨a, b, xs, ys, rfl, rfl, h1, h2, h3, h4⟩
  | _ => exact h.elim
 | _ => exact h.elim
theorem rqn {K : PySem.W.Frag} {i j : Int} {H : Hp} {Q : VK} : (rAddU K (.int i) (.int j) H Q) = (Q (.int (i + j)) H) := rfl
theorem pq6 {K : PySem.W.Frag} {i j : Str} {H : Hp} {Q : VK} : (rAddU K (.str i) (.str j) H Q) = (i.length + j.length ≤ sizeLine ∧ Q (.str (i ++ j)) H) := rfl
end
section
variable {X : Cx}
def rMulU : R2 := fun x y H Q => match x, y with
 | .int i, .int j => CMul i j ∧ Q (.int (i * j)) H
 | .str z, .int k => MulOk z k ∧ Q (.str (Txt.mul z k)) H
 | _, _ => False
theorem fqe : OpR X (binaryOp .Mult) rMulU := by
 intro pins s σ H x y v u Q I rx ry h
 cases x with
 | int i =>
  cases y with
  | int j => exact pq8 pins s σ H _ _ v u Q I rx ry ⟨i, j, rfl, rfl, h.1, h.2⟩
  | _ => exact h.elim
 | str z =>
  cases y with
  | int k =>
   obtain ⟨t, rfl⟩ := rx
   obtain ⟨t', rfl⟩ := ry
   exact SB.mul h.1 fun t' k' => ⟨.str (Txt.mul z k), H, I.tok k', ⟨t', rfl⟩, h.2⟩
  | _ => exact h.elim
 | _ => exact h.elim
theorem qqu {i j : Int} {H : Hp} {Q : VK} : (rMulU (.int i) (.int j) H Q) = (CMul i j ∧ Q (.int (i * j)) H) := rfl
theorem qqr {z : Str} {k : Int} {H : Hp} {Q : VK} : (rMulU (.str z) (.int k) H Q) = (MulOk z k ∧ Q (.str (Txt.mul z k)) H) := rfl
def rLenU (K : PySem.W.Frag) : List V → Hp → VK → Prop := fun xs H Q => match xs with
 | [.str z] => z.length ≤ sizeLine ∧ Q (.int z.length) H
 | [.ref p] => ∃ ys, (SqL K H p ys ∨ SqT K H p ys) ∧ Q (.int ys.length) H
 | _ => False
theorem lqW : CallR X (.builtin "len") (rLenU X.K) := by
 intro pins s σ H xs us Q I r h
 unfold rLenU at h
 split at h
 ·exact jqS pins s σ H _ us Q I r ⟨_, rfl, h.1, h.2⟩
 ·obtain ⟨ys, h1, h2⟩ := h
  exact jqs pins s σ H _ us Q I r ⟨_, ys, rfl, h1, h2⟩
 ·exact h.elim
theorem qqI {K : PySem.W.Frag} {z : Str} {H : Hp} {Q : VK} : (rLenU K [.str z] H Q) = (z.length ≤ sizeLine ∧ Q (.int z.length) H) := rfl
theorem rqk {K : PySem.W.Frag} {p : Addr} {H : Hp} {Q : VK} : (rLenU K [.ref p] H Q) = (∃ ys, (SqL K H p ys ∨ SqT K H p ys) ∧ Q (.int ys.length) H) := rfl
def rOrdU : List V → Hp → VK → Prop := fun xs H Q => match xs with
 | [.str z] => z.length = 1 ∧ Q (.int (z.cps.getD 0 0 : Nat)) H
 | _ => False
theorem jqn : CallR X (.builtin "ord") rOrdU := by
 intro pins s σ H xs us Q I r h
 unfold rOrdU at h
 split at h
 ·exact mq4 pins s σ H _ us Q I r ⟨_, rfl, h.1, h.2⟩
 ·exact h.elim
theorem qqc {c : Nat} {H : Hp} {Q : VK} : rOrdU [.str ⟨#[c]⟩] H Q ↔ Q (.int (c : Nat)) H := ⟨fun h => h.2, fun h => ⟨rfl, h⟩⟩
theorem jqB : bootBuiltins "str" = some (.type "str") := by decide +kernel
theorem pqj : bootBuiltins "bool" = some (.type "bool") := by decide +kernel
theorem eqC : bootBuiltins "tuple" = some (.type "tuple") := by decide +kernel
theorem kqu : bootBuiltins "ord" = some (.builtin "ord") := by decide +kernel
theorem aqp : bootBuiltins "isinstance" = some (.builtin "isinstance") := by decide +kernel
def rIntU : List V → Hp → VK → Prop := fun xs H Q => match xs with
 | [.int i] => Q (.int i) H
 | [.bl k] => Q (.int (if k then 1 else 0)) H
 | _ => False
theorem rqT {k : Bool} {H : Hp} {Q : VK} : (rIntU [.bl k] H Q) = (Q (.int (if k then 1 else 0)) H) := rfl
def rInU : R2 := fun x y H Q => match x, y with
 | .str i, .str j => Q (.bl (!(Builtin.Str.occurrences j i 0 j.length 1).isEmpty)) H
 | _, _ => False
theorem hqO : OpR X (compareOp .In) rInU := by
 intro pins s σ H x y v u Q I rx ry h
 cases x with
 | str i =>
  cases y with
  | str j => exact mqg pins s σ H _ _ v u Q I rx ry ⟨i, j, rfl, rfl, h⟩
  | _ => exact h.elim
 | _ => exact h.elim
def rNotInU : R2 := fun x y H Q => match x, y with
 | .str i, .str j => Q (.bl (!(!(Builtin.Str.occurrences j i 0 j.length 1).isEmpty))) H
 | _, _ => False
theorem qqA {c : Nat} {j : Str} {H : Hp} {Q : VK} : rInU (.str ⟨#[c]⟩) (.str j) H Q ↔ Q (.bl (decide (c ∈ j.cps.toList))) H := by
 show Q (.bl (!(Builtin.Str.occurrences j ⟨#[c]⟩ 0 j.length 1).isEmpty)) H ↔ _
 rw [StrLaws.found_one]
theorem mqL {c : Nat} {j : Str} {H : Hp} {Q : VK} : rNotInU (.str ⟨#[c]⟩) (.str j) H Q ↔ Q (.bl (!decide (c ∈ j.cps.toList))) H := by
 show Q (.bl (!(!(Builtin.Str.occurrences j ⟨#[c]⟩ 0 j.length 1).isEmpty))) H ↔ _
 rw [StrLaws.found_one]
def rIsN (neg : Bool) : R2 := fun x y H Q => y = .non ∧ Q (.bl (if neg then !decide (x = .non) else decide (x = .non))) H
theorem kqq : OpR X (compareOp .Is) (rIsN false) := fun pins s σ H x y v u Q I rx ry h => qqD pins s σ H x y v u Q I rx ry h
theorem rqK {x : V} {H : Hp} {Q : VK} : rIsN false x .non H Q ↔ Q (.bl (decide (x = .non))) H := ⟨fun h => h.2, fun h => ⟨rfl, h⟩⟩
theorem rqJ {x : V} {H : Hp} {Q : VK} : rIsN true x .non H Q ↔ Q (.bl (!decide (x = .non))) H := ⟨fun h => h.2, fun h => ⟨rfl, h⟩⟩
def kindV (x : V) (H : Hp) : Option String := match x with
 | .non => some "NoneType"
 | .bl _ => some "bool"
 | .int _ => some "int"
 | .str _ => some "str"
 | .ref a => match H a with
  | some (.lst _) => some "list"
  | some (.tup _) => some "tuple"
  | _ => none
 | _ => none
def subT (a b : String) : Bool := a == b || (a == "bool" && b == "int")
theorem dqC (K : PySem.W.Frag) : ∀ a ∈ ["NoneType", "bool", "int", "str", "list", "tuple"], ∀ b ∈ ["bool", "int", "str", "list", "tuple"], PySem.W.kitOne K (.type a) (.type b) = some (subT a b) := by
 intro a ha b hb
 simp only [List.mem_cons, List.not_mem_nil, or_false] at ha hb
 rcases ha with rfl | rfl | rfl | rfl | rfl | rfl <;> rcases hb with rfl | rfl | rfl | rfl | rfl <;> with_unfolding_all kernel_rfl
def rIsiU : List V → Hp → VK → Prop := fun vs H Q => match vs with
 | [x, .ty T] => ∃ k, kindV x H = some k ∧ T ∈ ["bool", "int", "str", "list", "tuple"] ∧ Q (.bl (subT k T)) H
 | _ => False
theorem cqQ : CallR X (.builtin "isinstance") rIsiU := by
 intro pins s σ H xs us Q I r h
 unfold rIsiU at h
 split at h
 ·rename_i x T
  obtain ⟨k, hk, hT, q⟩ := h
  have key : TyOf X.K H x (.type k) ∧ k ∈ ["NoneType", "bool", "int", "str", "list", "tuple"] := by
   unfold kindV at hk
   split at hk
   ·cases hk; exact ⟨.non, by decide⟩
   ·cases hk; exact ⟨.bl _, by decide⟩
   ·cases hk; exact ⟨.int _, by decide⟩
   ·cases hk; exact ⟨.str _, by decide⟩
   ·split at hk
    ·rename_i e; cases hk; exact ⟨.lst e, by decide⟩
    ·rename_i e; cases hk; exact ⟨.tup e, by decide⟩
    ·cases hk
   ·cases hk
  exact iqW pins s σ H _ us Q I r ⟨x, T, .type k, subT k T, rfl, key.1, dqC X.K k key.2 T hT, q⟩
 ·exact h.elim
end
section
variable {σ : St} {H : Hp} {Q : VK} {D : Ends} {K : PySem.W.Frag} {ta tb te : TE} {tt tu : TT} {t u : TS} {aa ab : TA} {v x y : V} {r r' : R2}
theorem rqc {i : Nat} : (tVar i σ H Q) = (∃ v, σ[i]? = some (some v) ∧ Q v H) := rfl
theorem rd_C : (tC v σ H Q) = (Q v H) := rfl
theorem qq9 : (tSeq t u D σ H) = (t { D with nx := u D } σ H) := rfl
theorem qqk {g : TG} : (tAsg te g D σ H) = (te σ H fun x H1 => g x σ H1 D.nx) := rfl
theorem pqn {i : Nat} {R : St → Hp → Prop} : (gName i v σ H R) = (R (σ.set i (some v)) H) := rfl
theorem qqM : (tIfS tt t u D σ H) = (tt σ H fun b H1 => if b = true then t D σ H1 else u D σ H1) := rfl
theorem pqL : (tNext D σ H) = (D.nx σ H) := rfl
theorem qqm : (tBreak D σ H) = (D.bk σ H) := rfl
theorem qq6 : (tRet te D σ H) = (te σ H D.rt) := rfl
theorem pqi : (tDrop te D σ H) = (te σ H fun _ H1 => D.nx σ H1) := rfl
theorem rqL : (tOp r ta tb σ H Q) = (ta σ H fun x H1 => tb σ H1 fun y H2 => r x y H2 Q) := rfl
theorem oqs {R : Bool → Hp → Prop} : (tTest te σ H R) = (te σ H fun x H' => ∃ k, x = .bl k ∧ R k H') := rfl
theorem rd_B {R : Bool → Hp → Prop} : (tB te σ H R) = (te σ H fun x H' => ∃ k, x = .bl k ∧ R k H') := rfl
theorem qqS {R : Bool → Hp → Prop} : (tAnd tt tu σ H R) = (tt σ H fun c H1 => if c = true then tu σ H1 R else R false H1) := rfl
theorem rqP {R : Bool → Hp → Prop} : (tOr tt tu σ H R) = (tt σ H fun c H1 => if c = true then R true H1 else tu σ H1 R) := rfl
theorem qqQ {R : Bool → Hp → Prop} : (tNot tt σ H R) = (tt σ H fun c H1 => R (!c) H1) := rfl
theorem oqX : (tAndV ta tb σ H Q) = (ta σ H fun x H1 => ∃ c, x = .bl c ∧ if c = true then tb σ H1 Q else Q (.bl false) H1) := rfl
theorem qq3 : (tOrV ta tb σ H Q) = (ta σ H fun x H1 => ∃ c, x = .bl c ∧ if c = true then Q (.bl true) H1 else tb σ H1 Q) := rfl
theorem oqK : (tNotV ta σ H Q) = (ta σ H fun x H1 => ∃ c, x = .bl c ∧ Q (.bl (!c)) H1) := rfl
theorem rqA : (tIf tt ta tb σ H Q) = (tt σ H fun c H1 => if c = true then ta σ H1 Q else tb σ H1 Q) := rfl
theorem nqK {tc : TE} : (tChain r r' ta tb tc σ H Q) = (ta σ H fun x H1 => tb σ H1 fun y H2 => r x y H2 fun z H3 => ∃ k, z = .bl k ∧ (if k = true then tc σ H3 fun w' H4 => r' y w' H4 Q else Q (.bl false) H3)) := rfl
theorem rqr {R : List V → Hp → Prop} : (tNil σ H R) = (R [] H) := rfl
theorem oqq {R : List V → Hp → Prop} : (tCons te aa σ H R) = (te σ H fun x H1 => aa σ H1 fun xs H2 => R (x :: xs) H2) := rfl
theorem qqt : (tLst aa σ H Q) = (aa σ H fun xs H1 => xs.length ≤ sizeLine ∧ ∀ p, H1 p = none → Q (.ref p) (upd H1 p (.lst xs))) := rfl
theorem rqh : (tTup aa σ H Q) = (aa σ H fun xs H1 => xs.length ≤ sizeLine ∧ ∀ p, H1 p = none → Q (.ref p) (upd H1 p (.tup xs))) := rfl
theorem pq0 {sp : Sp} {dvs : List V} {E : XK} : (tCall sp dvs E aa σ H Q) = (aa σ H fun vs H1 => sp (vs ++ dvs) H1 Q E) := rfl
theorem rqG {c : List V → Hp → VK → Prop} : (tCB c aa σ H Q) = (aa σ H fun vs H1 => c vs H1 Q) := rfl
theorem rqM {T : String} {m : V → List V → Hp → VK → Prop} : (tBM K T m te aa σ H Q) = (te σ H fun x H1 => tyV K T x H1 ∧ aa σ H1 fun xs H2 => m x xs H2 Q) := rfl
theorem qq8 {T : String} {m : V → List V → Hp → VK → Prop} : (tBM0 K T m te σ H Q) = (te σ H fun x H1 => tyV K T x H1 ∧ m x [] H1 Q) := rfl
theorem rqC {m : V → Option Int → Option Int → Hp → VK → Prop} {tl th : TO} : (tSl m te tl th σ H Q) = (te σ H fun x H1 => tl σ H1 fun l H2 => th σ H2 fun u H3 => m x l u H3 Q) := rfl
theorem mqx {R : Option Int → Hp → Prop} : (tNoPart σ H R) = (R none H) := rfl
theorem oq3 {R : Option Int → Hp → Prop} : (tPart te σ H R) = (te σ H fun x H1 => ∃ i, x = .int i ∧ R (some i) H1) := rfl
theorem nql {z : Str} : tyV K "str" (.str z) H ↔ True := ⟨fun _ => trivial, fun _ => rfl⟩
theorem rd_I {C : Int → Int → Prop} {g : Int → Int → V} {i j : Int} : rI C g (.int i) (.int j) H Q ↔ C i j ∧ Q (g i j) H :=
 ⟨fun ⟨_, _, h1, h2, h3⟩ => by cases h1; cases h2; exact h3, fun h => ⟨i, j, rfl, rfl, h⟩⟩
theorem rqE {g : Int → Int → V} {i j : Int} : rI0 g (.int i) (.int j) H Q ↔ Q (g i j) H :=
 ⟨fun ⟨_, _, h1, h2, h3⟩ => by cases h1; cases h2; exact h3, fun h => ⟨i, j, rfl, rfl, h⟩⟩
theorem pqJ {i j : Int} : rEq (.int i) (.int j) H Q ↔ Q (.bl (decide (i = j))) H := by
 unfold rEq scal; simp only [true_and, V.int.injEq]
theorem aqE {i j : Str} : rEq (.str i) (.str j) H Q ↔ Q (.bl (decide (i = j))) H := by
 unfold rEq scal; simp only [true_and, V.str.injEq]
theorem pqV {i j : Bool} : rEq (.bl i) (.bl j) H Q ↔ Q (.bl (decide (i = j))) H := by
 unfold rEq scal; simp only [true_and, V.bl.injEq]
theorem oqR {i j : Int} : rNe (.int i) (.int j) H Q ↔ Q (.bl (!decide (i = j))) H := by
 unfold rNe scal; simp only [true_and, V.int.injEq]
theorem kqm {i j : Str} : rNe (.str i) (.str j) H Q ↔ Q (.bl (!decide (i = j))) H := by
 unfold rNe scal; simp only [true_and, V.str.injEq]
theorem oqN {i j : Bool} : rNe (.bl i) (.bl j) H Q ↔ Q (.bl (!decide (i = j))) H := by
 unfold rNe scal; simp only [true_and, V.bl.injEq]
theorem pqH : rNe .non .non H Q ↔ Q (.bl false) H := ⟨fun h => h.2, fun h => ⟨rfl, h⟩⟩
theorem pqm {i : Str} : rNe (.str i) .non H Q ↔ Q (.bl true) H := ⟨fun h => h.2, fun h => ⟨rfl, h⟩⟩
theorem nq4 {i : Str} : rNe .non (.str i) H Q ↔ Q (.bl true) H := ⟨fun h => h.2, fun h => ⟨rfl, h⟩⟩
theorem oqG : rEq .non .non H Q ↔ Q (.bl true) H := ⟨fun h => h.2, fun h => ⟨rfl, h⟩⟩
theorem pqt {i : Str} : rEq (.str i) .non H Q ↔ Q (.bl false) H := ⟨fun h => h.2, fun h => ⟨rfl, h⟩⟩
theorem nqf {i : Str} : rEq .non (.str i) H Q ↔ Q (.bl false) H := ⟨fun h => h.2, fun h => ⟨rfl, h⟩⟩
theorem qqL {z : Str} {i : Int} : rIx K (.str z) (.int i) H Q ↔ ∃ c, z.length ≤ sizeLine ∧ atI z.cps.toList i = some c ∧ Q (.str ⟨#[c]⟩) H := by
 constructor
 ·rintro (⟨p, xs, j, v, h, _⟩ | ⟨p, xs, j, v, h, _⟩ | ⟨z', j, c, h1, h2, h3, h4, h5⟩)
  ·cases h
  ·cases h
  ·cases h1; cases h2; exact ⟨c, h3, h4, h5⟩
 ·rintro ⟨c, h3, h4, h5⟩
  exact .inr (.inr ⟨z, i, c, rfl, rfl, h3, h4, h5⟩)
theorem qqx {z : Str} {lo hi : Option Int} : rSl K (.str z) lo hi H Q ↔ z.length ≤ sizeLine ∧ Q (.str (Txt.slice z lo hi)) H := by
 constructor
 ·rintro (⟨a, xs, h, _⟩ | ⟨z', h1, h2, h3⟩)
  ·cases h
  ·cases h1; exact ⟨h2, h3⟩
 ·rintro ⟨h2, h3⟩
  exact .inr ⟨z, rfl, h2, h3⟩
end
section
variable {σ : St} {H : Hp} {Q : VK} {K : PySem.W.Frag}
theorem qqJ {a : Addr} {lo hi : Option Int} : rSl K (.ref a) lo hi H Q ↔ ∃ xs, SqL K H a xs ∧ ∀ p, H p = none → Q (.ref p) (upd H p (.lst (cutV xs lo hi))) := by
 constructor
 ·rintro (⟨a', xs, h, h2⟩ | ⟨z', h1, _⟩)
  ·cases h; exact ⟨xs, h2⟩
  ·cases h1
 ·rintro ⟨xs, h2⟩
  exact .inl ⟨a, xs, rfl, h2⟩
theorem qqF {p : Addr} {i : Int} : rIx K (.ref p) (.int i) H Q ↔ ∃ xs v, (SqL K H p xs ∨ SqT K H p xs) ∧ atI xs i = some v ∧ Q v H := by
 constructor
 ·rintro (⟨p', xs, j, v, h, h2, h3, h4⟩ | ⟨p', xs, j, v, h, h2, h3, h4⟩ | ⟨z', j, c, h1, _⟩)
  ·cases h; cases h2; exact ⟨xs, v, .inl h3, h4⟩
  ·cases h; cases h2; exact ⟨xs, v, .inr h3, h4⟩
  ·cases h1
 ·rintro ⟨xs, v, h | h, h2⟩
  ·exact .inl ⟨p, xs, i, v, rfl, rfl, h, h2⟩
  ·exact .inr (.inl ⟨p, xs, i, v, rfl, rfl, h, h2⟩)
theorem rql {a b : Addr} : rAddU K (.ref a) (.ref b) H Q ↔ (∃ xs zs, H a = some (.lst xs) ∧ H b = some (.lst zs) ∧ xs.length + zs.length ≤ sizeLine ∧ ∀ p, H p = none → Q (.ref p) (upd H p (.lst (xs ++ zs)))) ∨
   (∃ xs ys, H a = some (.tup xs) ∧ H b = some (.tup ys) ∧ xs.length + ys.length ≤ sizeLine ∧ ∀ p H', Same H H' → H' p = some (.tup (xs ++ ys)) → Q (.ref p) H') := Iff.rfl
theorem cx_K {CX : CXT} {P : Program} {w : World} {mg : Str → Option Value} {base : Heap} {N : List Str} {qual : Str} {scope : Scope} {f : Addr} {cd : Value} {A : Around} {outer : List Env} {s : Shared} {E : XK} :
  (cxOf CX P w K mg base N qual scope f cd A outer s H E).K = K := rfl
end
def LoopI (J : It) (g : TG) (tb : TS) (D : Ends) (σ : St) (H : Hp) : Prop := ∃ W : Nat → Nat → St → Hp → Prop, (∃ m, W 0 m σ H) ∧ ∀ i m σ H, W i m σ H →
 (J.stop i H ∧ D.nx σ H) ∨ (J.go i H ∧ ∃ N : St → Hp → Prop, (∀ σ' H', N σ' H' → ∃ m', m' < m ∧ W (i + 1) m' σ' H') ∧ ∀ x H', J.yld i H x H' → g x σ H' fun σ2 H2 => tb { D with nx := N, ct := N, bk := D.nx } σ2 H2)
section
variable {σ : St} {H : Hp} {D : Ends} {K : PySem.W.Frag} {te : TE} {g : TG} {tb : TS} {aa : TA}
theorem oqt : (tFor (iStr te) g tb D σ H) = (te σ H fun x H1 => ∃ z, x = .str z ∧ LoopI (Its z) g tb D σ H1) := rfl
theorem pq2 : (tFor (iList K te) g tb D σ H) = (te σ H fun x H1 => ∃ a, x = .ref a ∧ (∃ xs, SqL K H1 a xs) ∧ LoopI (Itl K a) g tb D σ H1) := rfl
theorem pqd : (tFor (iRng1 aa) g tb D σ H) = (aa σ H fun vs H1 => ∃ j : Int, vs = [.int j] ∧ -(2 ^ 62) ≤ j ∧ j < 2 ^ 62 ∧ LoopI (Itr 0 j.toNat) g tb D σ H1) := rfl
theorem eqX {lo : Int} {n : Nat} (Pv : Nat → St → Hp → Prop) (h0 : Pv 0 σ H)
  (hs : ∀ i σ H, i < n → Pv i σ H → g (.int (lo + i)) σ H fun σ2 H2 => tb { D with nx := Pv (i + 1), ct := Pv (i + 1), bk := D.nx } σ2 H2) (hd : ∀ σ H, Pv n σ H → D.nx σ H) : LoopI (Itr lo n) g tb D σ H := mqV Pv h0 hs hd
end
section
variable {prog : Program} {w : World} {A : Around} {R : Result → Shared → Prop} {s : Shared}
theorem gqv {elt target iter : Expr} {ifs : List Expr} {scope : Scope} {pos : Pos} {it acc : Value} {env : Env} (I : Nat → Shared → Prop)
  (turn : ∀ n s, I n s → wpAny (model prog w) A (pyNext it) (fun r s₁ => match r with
   | none => R (.ok .next) s₁
   | some v => wpAny (model prog w) A (letOwnedTupleGo target it v) (fun _ s₁' => wpAny (model prog w) A (assign target env v) (fun _ s₂ =>
     wpAny (model prog w) A (forIn ifs true fun c r => if r = true then do let ok ← isTrue c env (eval c env); pure (ForInStep.yield ok) else pure (ForInStep.yield r)) (fun ok s₃ =>
      if ok = true then wpAny (model prog w) A (eval elt env) (fun x s₄ =>
       wpAny (model prog w) A (call (.builtin "list.append") [acc, x]) (fun _ s₅ => ∃ m, m < n ∧ I m s₅) (fun _ _ => False) s₄) (fun _ _ => False) s₃
      else ∃ m, m < n ∧ I m s₃) (fun _ _ => False) s₂) (fun _ _ => False) s₁') (fun _ _ => False) s₁) (fun _ _ => False) s)
  (n : Nat) (h : I n s) : codeAny (model prog w) A (.compLoop (.ListComp elt [⟨target, iter, ifs, 0⟩] scope pos) 0 it acc env) R s := by
 refine codeAny_loop rfl I (fun n s hI => ?_) n h
 show wpAny _ A ((compTurn (.ListComp elt [⟨target, iter, ifs, 0⟩] scope pos) 0 it acc env).onRaise (fun x => do noteFrame x env; theTreesLotGoes x)) _ _ s
 refine wpAny_noted ?_
 rw [compTurn_list]
 refine wpAny_bind (wpAny_standAt (wpAny_bind (wpAny_mono (turn n s hI) (fun r s₁ h₁ => ?_) fun _ _ h' => h'.elim)))
 cases r with
 | none => exact wpAny_pure h₁
 | some v =>
  refine wpAny_bind (wpAny_mono h₁ (fun _ s₁' h₁' => wpAny_bind (wpAny_mono h₁' (fun _ s₂ h₂ => wpAny_bind (wpAny_mono h₂ (fun ok s₃ h₃ => ?_) fun _ _ h' => h'.elim)) fun _ _ h' => h'.elim)) fun _ _ h' => h'.elim)
  cases ok with
  | false => exact wpAny_pure ⟨rfl, h₃⟩
  | true =>
   exact wpAny_bind (wpAny_bind (wpAny_mono h₃ (fun x s₄ h₄ => wpAny_bind (wpAny_mono h₄ (fun _ s₅ h₅ => wpAny_pure (wpAny_pure ⟨rfl, h₅⟩)) fun _ _ h' => h'.elim)) fun _ _ h' => h'.elim))
end
def compCx (X : Cx) (N' : List Str) (scope : Scope) (cl : List (Str × Addr)) (s : Shared) (H : Hp) (fp : List Addr) : Cx :=
 { X with N := N', s₀ := s, H₀ := H, env := compEnvC scope cl s.heap.objs.size X.env, outer := X.stack, stack := X.stack, ex := fp, fn := fun _ => false, pn := [], xe := fun _ _ => False }
inductive Frees (X : Cx) (rs : Scope) (cl : List (Str × Addr)) : List Str → List Nat → Prop where
 | nil : Frees X rs cl [] []
 | cons {y : Str} {i : Nat} {fx : List Str} {fr : List Nat} (h1 : X.N[i]? = some y) (h2 : X.env.kindOf y = some .cell) (h3 : rs.names.lookup y = some .cell) (h4 : cl.lookup y = X.env.cells.lookup y) (r : Frees X rs cl fx fr) : Frees X rs cl (y :: fx) (i :: fr)
def frV (σ : St) (fr : List Nat) : St := fr.map fun i => (σ[i]?).getD none
theorem Frees.len {X : Cx} {rs : Scope} {cl : List (Str × Addr)} {fx : List Str} {fr : List Nat} (F : Frees X rs cl fx fr) : fr.length = fx.length := by
 induction F with
 | nil => rfl
 | cons _ _ _ _ _ ih => simp [ih]
theorem Frees.at {X : Cx} {rs : Scope} {cl : List (Str × Addr)} {σ : St} : ∀ {fx : List Str} {fr : List Nat}, Frees X rs cl fx fr → ∀ (j : Nat) (y : Str) (v : V), fx[j]? = some y → (frV σ fr)[j]? = some (some v) →
  ∃ i : Nat, X.N[i]? = some y ∧ σ[i]? = some (some v) ∧ X.env.kindOf y = some .cell ∧ rs.names.lookup y = some .cell ∧ cl.lookup y = X.env.cells.lookup y
 | _, _, .nil, j, y, v, h, _ => by simp at h
 | _, _, .cons (y := z) (i := i) h1 h2 h3 h4 r, 0, y, v, h, hv => by
  simp only [List.getElem?_cons_zero, Option.some.injEq] at h
  subst h
  simp only [frV, List.map_cons, List.getElem?_cons_zero, Option.some.injEq] at hv
  refine ⟨i, h1, ?_, h2, h3, h4⟩
  cases e : σ[i]? with
  | none => rw [e] at hv; cases hv
  | some o => rw [e] at hv; exact congrArg some hv
 | _, _, .cons h1 h2 h3 h4 r, j + 1, y, v, h, hv => by
  simp only [List.getElem?_cons_succ] at h
  simp only [frV, List.map_cons, List.getElem?_cons_succ] at hv
  exact r.at j y v h hv
theorem Frees.mem {X : Cx} {rs : Scope} {cl : List (Str × Addr)} : ∀ {fx : List Str} {fr : List Nat}, Frees X rs cl fx fr → ∀ y ∈ fx, X.env.kindOf y = some .cell ∧ cl.lookup y = X.env.cells.lookup y
 | _, _, .nil, y, h => by simp at h
 | _, _, .cons h1 h2 h3 h4 r, y, h => by
  rcases List.mem_cons.mp h with rfl | h
  ·exact ⟨h2, h4⟩
  ·exact r.mem y h
section
variable {X : Cx} {pins : List (Addr × Obj)} {σ : St} {H1 : Hp} {s3 : Shared} {x : Str} {fx : List Str} {fr : List Nat} {scope : Scope} {cl : List (Str × Addr)} {fp : List Addr}
theorem pqI (I : Inv X pins σ H1 s3) (hkind : scope.kind = .function) (hcl : ∀ y c, cl.lookup y = some c → X.env.cells.lookup y = some c)
  (F : Frees X (relabel scope X.env) cl fx fr) (hfx : ((relabel scope X.env).names.all fun p => if (p.2 == .cell || p.2 == .free) then fx.contains p.1 else true) = true)
  (ffp : ∀ b ∈ fp, FpOk X pins H1 b) (flt : ∀ b ∈ fp, b < s3.heap.objs.size) : (compCx X (x :: fx) scope cl s3 H1 fp).Ok where
 mod := I.ok.mod
 kind := hkind
 glob := I.ok.glob
 blt := I.ok.blt
 above := Nat.le_refl _
 inj := fun y z c h1 h2 => I.ok.inj y z c (hcl y c h1) (hcl z c h2)
 has := fun y h => by
  have h : (relabel scope X.env).names.lookup y = some .cell ∨ (relabel scope X.env).names.lookup y = some .free := h
  have key : y ∈ fx := by
   rcases h with h | h
   ·have q := List.all_eq_true.mp hfx _ (PySem.mem_of_lookup h)
    simpa using q
   ·have q := List.all_eq_true.mp hfx _ (PySem.mem_of_lookup h)
    simpa using q
  obtain ⟨k1, k2⟩ := F.mem y key
  obtain ⟨c, e⟩ := I.ok.has y (.inl k1)
  exact ⟨c, k2.trans e⟩
 cab := fun y c h => by cases (show false = true from h)
 hd := I.ok.hd
 frames := I.ok.frames
 stk := .inl rfl
 exf := fun b hb => ⟨Nat.ne_of_lt (flt b hb), fun y c e => (ffp b hb).2.2.2.2.1 y c (hcl y c e)⟩
 bs := I.bs
 bsz := Nat.le_trans I.ok.bsz I.sz
 noex := fun b o e hb => by
  rcases (ffp b hb).2.2.2.1 with z | z
  ·exact I.ok.noex b o e z
  ·exact absurd (Nat.lt_of_lt_of_le (Heap.lt_size (I.ok.bs b o e).1) z) (Nat.lt_irrefl _)
 exfs := fun b hb z => by
  rcases List.mem_cons.mp (I.stkSub b z) with q | q
  ·exact (ffp b hb).2.1 q
  ·exact (ffp b hb).2.2.1 q
 funs := I.stack
 frf := I.stkFree
theorem lqz (I : Inv X pins σ H1 s3) (hkind : scope.kind = .function) (hcl : ∀ y c, cl.lookup y = some c → X.env.cells.lookup y = some c)
  (F : Frees X (relabel scope X.env) cl fx fr) (hfx : ((relabel scope X.env).names.all fun p => if (p.2 == .cell || p.2 == .free) then fx.contains p.1 else true) = true)
  (ffp : ∀ b ∈ fp, FpOk X pins H1 b) (flt : ∀ b ∈ fp, b < s3.heap.objs.size) {h1 : Heap} {t : Nat} {m : Str → Option Value} (hn : h1.Ns s3.heap.objs.size m)
  (keep : ∀ b u, s3.heap.get? b = some u → h1.get? b = some u) : Inv (compCx X (x :: fx) scope cl s3 H1 fp) [] (none :: frV σ fr) H1 { s3 with heap := h1, toks := t } := by
 refine ⟨pqI I hkind hcl F hfx ffp flt, rfl, I.bare, Un.kept keep, ⟨m, hn, fun i y v e1 e2 e3 => ?_⟩, fun y c e => ?_, I.hok.fresh (Nat.le_refl _), fun y c e => I.freeC y c (hcl y c e), fun p hp => absurd (show p ∈ ([] : List (Addr × Obj)) from hp) (by simp), I.hok.kept keep, ?_⟩
 ·cases i with
  | zero => simp at e2
  | succ j =>
   obtain ⟨i0, k1, k2, k3, k4, k5⟩ := F.at (σ := σ) j y v (by simpa [compCx] using e1) (by simpa using e2)
   obtain ⟨m0, hn0, hl0⟩ := I.loc
   obtain ⟨u, r, l⟩ := hl0 i0 y v k1 k2 (.inr (.inl k3))
   refine ⟨u, r, ?_⟩
   rcases l with ⟨z, _⟩ | ⟨_, c, e, o, ho, hd⟩
   ·rw [k3] at z; cases z
   ·exact .inr ⟨.inl k4, c, k5.trans e, o, keep c o ho, hd⟩
 ·obtain ⟨v, o, ho, hd⟩ := I.cell y c (hcl y c e)
  exact ⟨v, o, keep c o ho, hd⟩
 ·show (none :: frV σ fr).length = (x :: fx).length
  simp [frV, F.len]
theorem jqJ {N' : List Str} {pins' : List (Addr × Obj)} {σ' : St} {H2 : Hp} {s' : Shared} {h' : Heap} (I : Inv X pins σ H1 s3) (J : Inv (compCx X N' scope cl s3 H1 fp) pins' σ' H2 s') (ffp : ∀ b ∈ fp, FpOk X pins H1 b)
  (sb : Heap.SameBut s3.heap.objs.size s'.heap h') : Inv X pins σ H2 { s' with heap := h' } := by
 have k : ∀ b u, b ≠ s3.heap.objs.size → s'.heap.get? b = some u → h'.get? b = some u := fun b u hb e => sb.extBut b u hb e
 have lt : ∀ b u, s3.heap.get? b = some u → b ≠ s3.heap.objs.size := fun b u e => Nat.ne_of_lt (Heap.lt_size e)
 have u : Un (frs X.stack) fp H1 H2 s3.heap s'.heap := J.base
 have u' : Un (frs X.stack) fp H1 H2 s3.heap h' :=
  ⟨fun b o q n hb hx => k b o (lt b o q) (u.keep b o q n hb hx), fun b o q n hb hx => by
    obtain ⟨sl, e⟩ := u.slot b o q n hb hx
    exact ⟨sl, k b _ (lt b o q) e⟩, u.free, fun b o q hx => by
    obtain ⟨o', e⟩ := u.there b o q hx
    exact ⟨o', k b _ (lt b o q) e⟩, u.tups, u.frzs, u.tbls⟩
 have nC : H2 s3.heap.objs.size = none := J.free
 have hok : HOk X.prog X.w H2 h' := fun b uo e => by
  refine (J.hok b uo e).stay (fun c v hc q => k c v ?_ q) (fun _ q => q) fun _ _ q => q
  rintro rfl
  rcases hc with z | z
  ·rw [← z, nC] at e; cases e
  ·rw [nC] at z; cases z
 have os : s'.os = s3.os := J.os
 have bare := J.bare
 obtain ⟨hh, g, d, t, os'⟩ := s'
 obtain rfl : os' = s3.os := os
 have fin := I.call (h' := h') (g' := g) (d' := d) (t' := t) (ch := fp) u' hok bare fun b hb => by
  obtain ⟨f0, f1, f2, f3, f4, f5⟩ := ffp b hb
  exact ⟨f3, f1, f4, f5⟩
 exact fin
end
def PF (X : Cx) (ifs : List Expr) (t : TT) : Prop :=
 ∀ (pins : List (Addr × Obj)) (s : Shared) (σ : St) (H : Hp) (Q : Bool → Hp → Prop), Inv X pins σ H s → t σ H Q →
  wpAny (model X.prog X.w) X.A (forIn ifs true fun c r => if r = true then do let ok ← isTrue c X.env (eval c X.env); pure (ForInStep.yield ok) else pure (ForInStep.yield r)) (TP X pins σ Q) X.xe s
def tYes : TT := fun _ H Q => Q true H
theorem hqR {X : Cx} : PF X [] tYes := fun _ _ _ H _ I h => wpAny_tests_nil ⟨H, I, h⟩
theorem qqT {X : Cx} {c : Expr} {t : TT} (h : PT X c t) : PF X [c] t := fun pins s σ H Q I q => wpAny_tests_one (h pins s σ H Q I q)
def CompI (J : It) (p : Addr) (fv : St) (tt : TT) (te : TE) (Q : VK) (H1 : Hp) : Prop :=
 ∃ W : Nat → Nat → List V → Hp → Prop, (∃ m, W 0 m [] (upd H1 p (.lst []))) ∧ ∀ i m ys H2, W i m ys H2 → H2 p = some (.lst ys) ∧
  ((J.stop i H2 ∧ Q (.ref p) H2) ∨ (J.go i H2 ∧ ys.length < sizeLine ∧ ∀ x H3, J.yld i H2 x H3 → tt (some x :: fv) H3 fun b H4 =>
   if b = true then te (some x :: fv) H4 fun y H5 => H5 p = some (.lst ys) ∧ ∃ m', m' < m ∧ W (i + 1) m' (ys ++ [y]) (upd H5 p (.lst (ys ++ [y])))
   else ∃ m', m' < m ∧ W (i + 1) m' ys H4))
def tComp (wi : TI) (fr : List Nat) (tt : TT) (te : TE) : TE := fun σ H Q => wi σ H fun J H1 => ∀ p, H1 p = none → CompI J p (frV σ fr) tt te Q H1
section
variable {X : Cx} {elt iter : Expr} {x : Str} {px pos : Pos} {ifs : List Expr} {scope : Scope} {cl : List (Str × Addr)} {fx : List Str} {fr : List Nat} {wi : TI} {tt : TT} {te : TE}
theorem lqt {pins : List (Addr × Obj)} {σ : St} {H3 : Hp} {s3 : Shared} {it p : Addr} {fp : List Addr} {tn : Nat → Heap → Prop} {J : It} {Q : VK} {W : Nat → Nat → List V → Hp → Prop} {m0 t : Nat} {h₁ : Heap} {m : Str → Option Value} {RR : Result → Shared → Prop}
  (hc : X.calm = true) (hkind : scope.kind = .function) (hx : scope.names.lookup x = some .local) (hnd : (x :: fx).Nodup)
  (hcl : ∀ y c, cl.lookup y = some c → X.env.cells.lookup y = some c) (F : Frees X (relabel scope X.env) cl fx fr)
  (hfx : ((relabel scope X.env).names.all fun p => if (p.2 == .cell || p.2 == .free) then fx.contains p.1 else true) = true)
  (ht : ∀ s H fp, PF (compCx X (x :: fx) scope cl s H fp) ifs tt) (he : ∀ s H fp, PE (compCx X (x :: fx) scope cl s H fp) elt te)
  (I3 : Inv X pins σ H3 s3) (T : Turn X.prog X.w X.K (.Name x px) J fp it tn) (st3 : tn 0 s3.heap) (ffp : ∀ b ∈ fp, FpOk X pins H3 b) (flt3 : ∀ b ∈ fp, b < s3.heap.objs.size)
  (w0 : W 0 m0 [] H3) (turn : ∀ i m ys H2, W i m ys H2 → H2 p = some (.lst ys) ∧
   ((J.stop i H2 ∧ Q (.ref p) H2) ∨ (J.go i H2 ∧ ys.length < sizeLine ∧ ∀ x H3, J.yld i H2 x H3 → tt (some x :: frV σ fr) H3 fun b H4 =>
    if b = true then te (some x :: frV σ fr) H4 fun y H5 => H5 p = some (.lst ys) ∧ ∃ m', m' < m ∧ W (i + 1) m' (ys ++ [y]) (upd H5 p (.lst (ys ++ [y])))
    else ∃ m', m' < m ∧ W (i + 1) m' ys H4)))
  (hns : h₁.Ns s3.heap.objs.size m) (keep1 : ∀ b u, s3.heap.get? b = some u → h₁.get? b = some u)
  (fin : ∀ s6 H5 o, Inv (compCx X (x :: fx) scope cl s3 H3 fp) [] (o :: frV σ fr) H5 s6 → Q (.ref p) H5 → RR (.ok .next) s6) :
  codeAny (model X.prog X.w) X.A (.compStart (.ListComp elt [⟨.Name x px, iter, ifs, 0⟩] scope pos) 0 (.ref it) (.ref p) (compEnvC scope cl s3.heap.objs.size X.env))
   RR { s3 with heap := h₁, toks := t } := by
 have I4 := lqz (x := x) (t := t) I3 hkind hcl F hfx ffp flt3 hns keep1
 have st4 : tn 0 h₁ := T.keep _ _ _ st3 fun b hb o e => keep1 b o e
 have fp0 : ∀ b ∈ fp, H3 b = none := fun b hb => (ffp b hb).1
 have hcal : (compCx X (x :: fx) scope cl s3 H3 fp).calm = true := hc
 have stat : ∀ {H' : Hp}, (∀ b ∈ fp, H' b = none) → ∀ b ∈ fp, FpOk (compCx X (x :: fx) scope cl s3 H3 fp) [] H' b := fun {H'} hn b hb => by
  obtain ⟨f0, f1, f2, f3, f4, f5⟩ := ffp b hb
  exact ⟨hn b hb, Nat.ne_of_lt (flt3 b hb), I4.ok.exfs b hb, .inl hb, fun y c e => f4 y c (hcl y c e), fun q hq => absurd (show q ∈ ([] : List (Addr × Obj)) from hq) (by simp)⟩
 have hxl : (relabel scope X.env).names.lookup x = some .local := lookup_relabel_local hx
 have pg : PG (compCx X (x :: fx) scope cl s3 H3 fp) (.Name x px) (gName 0) := dqM (i := 0) hnd rfl (.inl hxl) (.inr hxl)
 have loop : codeAny (model X.prog X.w) X.A (.compLoop (.ListComp elt [⟨.Name x px, iter, ifs, 0⟩] scope pos) 0 (.ref it) (.ref p) (compEnvC scope cl s3.heap.objs.size X.env))
    RR { s3 with heap := h₁, toks := t } := by
  refine gqv (fun n s' => ∃ i ys H' o, Inv (compCx X (x :: fx) scope cl s3 H3 fp) [] (o :: frV σ fr) H' s' ∧ tn i s'.heap ∧ (∀ b ∈ fp, H' b = none) ∧ W i n ys H') ?_ m0 ⟨0, [], _, none, I4, st4, fp0, w0⟩
  rintro n s5 ⟨i, ys, H5, o, I5, st5, fr5, w5⟩
  obtain ⟨hp5, alt⟩ := turn i n ys H5 w5
  rcases alt with ⟨stop, qn⟩ | ⟨go, hlen, step⟩
  ·refine thn (T.done (compCx X (x :: fx) scope cl s3 H3 fp) rfl rfl rfl hcal i [] s5 (o :: frV σ fr) H5 _ I5 (stat fr5) st5 stop) fun r s6 W' => ?_
   obtain ⟨hr, I6⟩ := W'
   subst hr
   exact fin s6 H5 o I6 qn
  ·refine thn (T.item (compCx X (x :: fx) scope cl s3 H3 fp) rfl rfl rfl hcal i [] s5 (o :: frV σ fr) H5 _ I5 (stat fr5) st5 go) fun r s6 W' => ?_
   obtain ⟨u, hr, h6⟩ := W'
   subst hr
   refine thn h6 fun _ s7 W' => ?_
   obtain ⟨y7, H7, I7, r7, yl7, st7, fr7⟩ := W'
   have I7' := I7.pinned (stat fr7) (T.obj _ _ st7)
   have back : ∀ {σ' : St} {H' : Hp} {s' : Shared}, Inv (compCx X (x :: fx) scope cl s3 H3 fp) ([] ++ pinsAt fp s7.heap) σ' H' s' → tn (i + 1) s'.heap ∧ ∀ b ∈ fp, H' b = none := fun {σ' H' s'} I' => by
    refine ⟨T.keep _ _ _ st7 fun b hb o e => (I'.pin (b, o) (List.mem_append_right _ (List.mem_append_right _ (cqA hb e)))).1, fun b hb => ?_⟩
    obtain ⟨o, e, d⟩ := T.obj _ _ st7 b hb
    exact (I'.pin (b, o) (List.mem_append_right _ (List.mem_append_right _ (cqA hb e)))).2.1
   refine thn (pg _ s7 _ H7 y7 u (fun σ' H' => σ' = some y7 :: frV σ fr ∧ H' = H7) I7' r7 ⟨rfl, rfl⟩) fun _ s8 W' => ?_
   obtain ⟨σ8, H8, I8, e8, e8'⟩ := W'
   subst e8 e8'
   refine thn (ht s3 H3 fp _ s8 _ _ _ I8 (step y7 _ yl7)) fun b s9 W' => ?_
   obtain ⟨H9, I9, q9⟩ := W'
   cases b with
   | false =>
    rw [if_neg Bool.false_ne_true] at q9 ⊢
    obtain ⟨m', hm, w9⟩ := q9
    exact ⟨m', hm, i + 1, ys, H9, some y7, I9.unpinned, (back I9).1, (back I9).2, w9⟩
   | true =>
    rw [if_pos rfl] at q9 ⊢
    refine thn (he s3 H3 fp _ s9 _ H9 _ I9 q9) fun u10 s10 W' => ?_
    obtain ⟨y10, H10, I10, r10, hp10, m', hm, w10⟩ := W'
    refine thn (fqO _ s10 _ H10 (.ref p) [y10] (.ref p) [u10] (fun _ H' => H' = upd H10 p (.lst (ys ++ [y10]))) I10 rfl (.cons r10 .nil) ⟨p, ys, y10, rfl, rfl, hp10, hlen, rfl⟩) fun _ s11 W' => ?_
    obtain ⟨_, H11, I11, _, e11⟩ := W'
    subst e11
    exact ⟨m', hm, i + 1, ys ++ [y10], _, some y7, I11.unpinned, (back I11).1, (back I11).2, w10⟩
 exact codeAny_compStart_list loop (T.self _ 0 _ _ _ st4 loop)
theorem fqm (hc : X.calm = true) (hclos : closureFor scope X.env = pure cl) (hcell : ∀ y ∈ scope.names, y.2 ≠ .cell) (hkind : scope.kind = .function)
  (hnames : ∀ y ∈ scope.names, y.2 = .local → scope.names.lookup y.1 = some .local) (hx : scope.names.lookup x = some .local) (hnd : (x :: fx).Nodup)
  (hk : (cl.all fun q => fx.contains q.1) = true) (F : Frees X (relabel scope X.env) cl fx fr)
  (hfx : ((relabel scope X.env).names.all fun p => if (p.2 == .cell || p.2 == .free) then fx.contains p.1 else true) = true)
  (hi : PI X (.Name x px) iter wi) (ht : ∀ s H fp, PF (compCx X (x :: fx) scope cl s H fp) ifs tt) (he : ∀ s H fp, PE (compCx X (x :: fx) scope cl s H fp) elt te)
  (hs : ∀ x, foldedSetIterable iter X.env x = pure x := by intro _; rfl) :
  PE X (.ListComp elt [⟨.Name x px, iter, ifs, 0⟩] scope pos) (tComp wi fr tt te) := by
 intro pins s σ H Q I h
 have hcl : ∀ y c, cl.lookup y = some c → X.env.cells.lookup y = some c := fun y c e => by
  have q := List.all_eq_true.mp hk _ (PySem.mem_of_lookup e)
  rw [← (F.mem y (by simpa using q)).2]
  exact e
 rw [eval_ListComp]
 refine wpAny_comprehension_free (use := none) rfl hs hclos hkind hnames ?_
 refine thn (hi pins s σ H _ I h) fun v s1 h1 => thn h1 fun itv s2 h2 => ?_
 obtain ⟨it, fp, tn, J, H2, e, I2, T, st2, f2, q2⟩ := h2
 subst e
 have hp0 : H2 s2.heap.objs.size = none := I2.hok.fresh (Nat.le_refl _)
 obtain ⟨W, ⟨m0, w0⟩, turn⟩ := q2 _ hp0
 have flt : ∀ b ∈ fp, b < s2.heap.objs.size := fun b hb => by
  obtain ⟨o, e, _⟩ := T.obj _ _ st2 b hb
  exact Heap.lt_size e
 refine wpAny_newObj_type (wpAny_newFunctionEnv hcell (by intro y hy; simp at hy) (fun h₁ hns₁ hsb₁ => ?_) hkind)
 dsimp only at hns₁ hsb₁ ⊢
 have hlay : ∀ b u, s2.heap.get? b = some u → (s2.heap.push { cls := .type "list", dict := none, data := .seq ([] : List Value).toArray }).get? b = some u := fun b u e => Heap.get?_push_of_some _ e
 have hnew : (s2.heap.push { cls := .type "list", dict := none, data := .seq ([] : List Value).toArray }).get? s2.heap.objs.size = some { cls := .type "list", dict := none, data := .seq ([] : List Value).toArray } := Heap.get?_push_size _ rfl
 have hsz : (s2.heap.push { cls := .type "list", dict := none, data := .seq ([] : List Value).toArray }).objs.size = s2.heap.objs.size + 1 := Heap.size_push _ _
 generalize hHH : s2.heap.push { cls := .type "list", dict := none, data := .seq ([] : List Value).toArray } = HH at hns₁ hsb₁ hlay hnew hsz ⊢
 have I3 : Inv X pins σ (upd H2 s2.heap.objs.size (.lst [])) { s2 with heap := HH, toks := s2.toks } :=
  I2.laid (t' := s2.toks) (o := .lst []) hlay (Nat.le_refl _) ⟨Nat.zero_le _, [], 0, .nil, hnew⟩
 have ffp : ∀ b ∈ fp, FpOk X pins (upd H2 s2.heap.objs.size (.lst [])) b := fun b hb => by
  obtain ⟨f0, fr'⟩ := f2 b hb
  exact ⟨by rw [aqw (Nat.ne_of_lt (flt b hb))]; exact f0, fr'⟩
 have keep1 : ∀ b u, HH.get? b = some u → h₁.get? b = some u := fun b u e => hsb₁.extBut b u (Nat.ne_of_lt (Heap.lt_size e)) (Heap.get?_push_of_some _ e)
 exact lqt (s3 := { s2 with heap := HH, toks := s2.toks }) hc hkind hx hnd hcl F hfx ht he I3 T (T.keep _ _ _ st2 fun b hb o e => hlay b o e) ffp (fun b hb => by show b < HH.objs.size; rw [hsz]; exact Nat.lt_succ_of_lt (flt b hb)) w0 turn hns₁ keep1 fun s6 H5 o I6 qn => by
  obtain ⟨m, hn6, _⟩ := id I6.loc
  exact ⟨m, hn6, fun h' sb => ⟨.ref _, H5, jqJ I3 I6 ffp sb, rfl, qn⟩⟩
end
section
variable {p : Addr} {fv : St} {te : TE} {Q : VK} {H1 : Hp}
theorem nqD {z : Str} (hz : z.length ≤ sizeLine) (hp : H1 p = none) (f : Nat → V)
  (he : ∀ c, c ∈ z.cps.toList → ∀ (H' : Hp) (R : VK), (∀ H'', Same H' H'' → R (f c) H'') → te (some (.str ⟨#[c]⟩) :: fv) H' R)
  (hQ : ∀ H', Same H1 H' → H' p = some (.lst (z.cps.toList.map f)) → Q (.ref p) H') : CompI (Its z) p fv tYes te Q H1 := by
 have hl : z.cps.toList.length = z.length := by simp [Str.length]
 refine ⟨fun i m ys H2 => m = z.length - i ∧ i ≤ z.length ∧ ys = (z.cps.toList.take i).map f ∧ H2 p = some (.lst ys) ∧ Same H1 H2, ⟨z.length, by simp, Nat.zero_le _, by simp, aqk, fun b o e => by rw [aqw (aqo e hp)]; exact e⟩, ?_⟩
 rintro i m ys H2 ⟨rfl, hi, rfl, hp2, sm⟩
 refine ⟨hp2, ?_⟩
 by_cases hlt : i < z.length
 ·refine .inr ⟨hlt, ?_, fun x H3 y => ?_⟩
  ·rw [List.length_map, List.length_take]; omega
  ·obtain ⟨rfl, c, hc, rfl⟩ := y
   unfold tYes
   dsimp only
   rw [if_pos rfl]
   refine he c (List.mem_of_getElem? hc) _ _ fun H5 s5 => ⟨s5 _ _ hp2, z.length - (i + 1), by omega, rfl, hlt, ?_, aqk, fun b o e => ?_⟩
   ·rw [List.take_add_one, hc, List.map_append]; rfl
   ·rw [aqw (aqo e hp)]; exact s5 _ _ (sm _ _ e)
 ·have e : i = z.length := by omega
  subst e
  refine .inl ⟨Nat.le_refl _, hQ H2 sm ?_⟩
  rw [hp2, ← hl, List.take_length]
end
section
variable {σ : St} {H : Hp} {Q : VK} {K : PySem.W.Frag} {tl te : TE} {tt : TT} {fr : List Nat}
theorem pqS : frV σ [] = [] := rfl
theorem nqJ {i : Nat} {r : List Nat} : frV σ (i :: r) = (σ[i]?).getD none :: frV σ r := rfl
theorem rqa {z : Str} {p : Addr} : rJoin K (.str z) [.ref p] H Q ↔ ∃ ys : List Str, SqL K H p (ys.map V.str) ∧ (ys.map (·.length)).sum + ys.length * z.length ≤ 16777216 ∧ Q (.str (Txt.join z ys)) H := by
 constructor
 ·rintro ⟨z', p', ys, h1, h2, h3⟩
  cases h1; cases h2
  exact ⟨ys, h3⟩
 ·rintro ⟨ys, h⟩
  exact ⟨z, p, ys, rfl, rfl, h⟩
theorem nqZ : (tComp (iStr tl) fr tt te σ H Q) = (tl σ H fun x H1 => ∃ z, x = .str z ∧ ∀ p, H1 p = none → CompI (Its z) p (frV σ fr) tt te Q H1) := rfl
theorem nqB : (tComp (iList K tl) fr tt te σ H Q) = (tl σ H fun x H1 => ∃ a, x = .ref a ∧ (∃ xs, SqL K H1 a xs) ∧ ∀ p, H1 p = none → CompI (Itl K a) p (frV σ fr) tt te Q H1) := rfl
end
section
variable {X : Cx} {K : PySem.W.Frag}
theorem fqs (h : X.K = K) : OpR X (binaryOp .Add) (rAddU K) := by subst h; exact mqC
theorem aqh (h : X.K = K) : IxR X (rIx K) := by subst h; exact qqw
theorem hqk (h : X.K = K) : SlR X (rSl K) := by subst h; exact qqf
theorem aqI (h : X.K = K) : CallR X (.builtin "len") (rLenU K) := by subst h; exact lqW
theorem iqO (h : X.K = K) : MtR X "str.join" (rJoin K) := by subst h; exact pqa
theorem kqJ {tg l : Expr} {tl : TE} (h : X.K = K) (hl : PE X l tl) : PI X tg l (iList K tl) := by subst h; exact oqU hl
variable {o e : Expr} {es : List Expr} {to : TE} {t : TA} {name : Str} {apos cpos : Pos} {T id : String} {r : V → List V → Hp → VK → Prop}
theorem cqC (h : X.K = K) (pa : PlainAttrs T) (slot : Slot T name id) (hty : typeOf (.builtin id) = pure (.type "method_descriptor")) (hm : MtR X id r) (ho : PE X o to) (ha : PA X (e :: es) t)
  (hbase : attributeBase o name X.env (eval o X.env) = eval o X.env := by rfl)
  (hfew : ((backTo cpos (starEach (e :: es) X.env)).all (fun x => !x.1) && (backToKw cpos (keywordEach [] X.env)).all (fun x => x.1.isSome)
   && decide ((e :: es).length + ([] : List Keyword).length + (if ([] : List Keyword).isEmpty then 0 else 1) < 30)) = true := by rfl)
  (hline : (apos.endLine == cpos.line) = true := by rfl) (hs : starEach (e :: es) X.env = (false, eval e X.env) :: starEach es X.env := by rfl) (hplain : (backTo cpos (starEach es X.env)).any (·.1) = false := by rfl) :
  PE X (.Call (.Attribute o name apos) (e :: es) [] cpos) (tBM K T r to t) := by
 subst h; exact rqO pa slot hty hm ho ha hbase hfew hline hs hplain
end
structure FunD (K : PySem.W.Frag) (x qual : Str) (st : Stmt) (f : Addr) (fd : FuncData) (T : Addr) : Prop where
 ex : ∃ (oc : Value) (od : Option Addr) (kV doc pm : Value) (an : Option Addr) (cdv ct : Value) (osl : Array (Option Value)),
  fd = PySem.W.fnOf x qual (defArgs st) (defBody st) (defScope st) (.ref T) kV doc pm an cdv ct ∧ K.lookup f = some ⟨oc, od, .func fd, osl⟩ ∧ PySem.W.codeIn K cdv qual = true
 kp : PySem.W.keepIn K (.ref f) = true
section
variable {P : Program} {w : World} {K : PySem.W.Frag} {mg : Str → Option Value} {base : Heap}
theorem FunD.ok {x qual : Str} {st : Stmt} {f T : Addr} {fd : FuncData} {N ps : List Str} {k : Nat} {sp : Sp} (F : FunD K x qual st f fd T) (S : FnScope N ps (defScope st)) (len : ∀ vs H Q E, sp vs H Q E → vs.length = ps.length)
  (hbody : ∀ (cdv : Value) (A : Around) (outer : List Env) (s : Shared) (H : Hp) (vs : List V) (Q : VK) (E : XK), Room k (A.deeper (envOfC qual (defScope st) s.heap.objs.size f cdv)) → sp vs H Q E →
   ∃ t, PSs (cxOf CX0 P w K mg base N qual (defScope st) f cdv A outer s H E).nox (defBody st) t ∧ t { nx := fun _ H' => Q .non H', rt := Q } (start N vs) H) : FnOk P w K mg base CX0 (k + 1) f fd ps sp := by
 obtain ⟨oc, od, kV, doc, pm, an, cdv, ct, osl, rfl, lk, hcd⟩ := F.ex
 refine pqk lk hcd S len fun A outer s H vs Q E hr hsp => ?_
 obtain ⟨t, h, q⟩ := hbody cdv A outer s H vs Q E hr hsp
 exact ⟨t, h.nox, q⟩
theorem FunD.binds {x qual : Str} {st : Stmt} {f T : Addr} {fd : FuncData} {ps : List Str} {ds : List Value} {oc : Value} {od : Option Addr} {items : Array Value} {n : Nat} {sl : Array (Option Value)} (F : FunD K x qual st f fd T) (hT : K.lookup T = some ⟨oc, od, .seq items n, sl⟩)
  (h : ∀ (kV doc pm : Value) (an : Option Addr) (cdv ct : Value) (us : List Value), (us ++ ds).length = ps.length → ∃ k : Option (Array Value) → Sem (List (Str × Value)),
   bindArgs (PySem.W.fnOf x qual (defArgs st) (defBody st) (defScope st) (.ref T) kV doc pm an cdv ct) ⟨us, []⟩ = seqItems? (.ref T) >>= k ∧ k (some items) = pure (ps.zip (us ++ ds))) : Binds K fd ps ds := by
 obtain ⟨oc', od', kV, doc, pm, an, cdv, ct, osl, rfl, lk, hcd⟩ := F.ex
 intro s us X hl
 obtain ⟨k, h1, h2⟩ := h kV doc pm an cdv ct us hl
 exact BindsTo.of_defaults (T := T) rfl (X T _ hT) rfl h1 h2
theorem pqF {x qual : Str} {st : Stmt} {f T : Addr} {oc : Value} {od an : Option Addr} {osl : Array (Option Value)} {kV doc pm cdv ct : Value} (l : K.lookup f = some ⟨oc, od, .func (PySem.W.fnOf x qual (defArgs st) (defBody st) (defScope st) (.ref T) kV doc pm an cdv ct), osl⟩)
  (c : PySem.W.codeIn K cdv qual = true) (k : PySem.W.keepIn K (.ref f) = true) : FunD K x qual st f (PySem.W.fnOf x qual (defArgs st) (defBody st) (defScope st) (.ref T) kV doc pm an cdv ct) T := ⟨⟨oc, od, kV, doc, pm, an, cdv, ct, osl, rfl, l, c⟩, k⟩
end
theorem rqm {us : List Value} {d : Value} (h : (us ++ [d]).length = 2) : ∃ x, us = [x] := by
 match us, h with
 | [x], _ => exact ⟨x, rfl⟩
 | [], h => simp at h
 | _ :: _ :: _, h => simp at h
theorem pqO {c : TT} {tb : TS} {D : Ends} {σ : St} {H : Hp} (W : Nat → St → Hp → Prop) (m0 : Nat) (h0 : W m0 σ H)
  (hs : ∀ m σ H, W m σ H → c σ H fun b H1 => if b = true then ∃ N : St → Hp → Prop, (∀ σ' H', N σ' H' → ∃ m', m' < m ∧ W m' σ' H') ∧ tb { D with nx := N, ct := N, bk := D.nx } σ H1 else D.nx σ H1) : tWhile c tb D σ H := ⟨W, ⟨m0, h0⟩, hs⟩
section
variable {σ : St} {H : Hp} {Q : VK}
theorem rqS {r : V → Hp → VK → Prop} {ta : TE} : (tUn r ta σ H Q) = (ta σ H fun x H1 => r x H1 Q) := rfl
theorem rd_U {g : Int → V} {i : Int} : rU g (.int i) H Q ↔ Q (g i) H := ⟨fun ⟨_, h1, h2⟩ => by cases h1; exact h2, fun h => ⟨i, rfl, h⟩⟩
theorem qqh {l : Addr} {y : V} : rAppend (.ref l) [y] H Q ↔ ∃ xs, H l = some (.lst xs) ∧ xs.length < sizeLine ∧ Q .non (upd H l (.lst (xs ++ [y]))) := by
 constructor
 ·rintro ⟨l', xs, y', h1, h2, h3⟩
  cases h1; cases h2
  exact ⟨xs, h3⟩
 ·rintro ⟨xs, h⟩
  exact ⟨l, xs, y, rfl, rfl, h⟩
theorem oq8 {K : PySem.W.Frag} {p : Addr} : tyV K "list" (.ref p) H ↔ ∃ xs, SqL K H p xs := by
 constructor
 ·rintro (⟨_, h⟩ | ⟨h, _⟩ | ⟨h, _⟩ | ⟨h, _⟩)
  ·exact h
  ·exact absurd h (by decide)
  ·exact absurd h (by decide)
  ·exact absurd h (by decide)
 ·intro h; exact .inl ⟨rfl, h⟩
end
mutual
inductive Is (H : Hp) : PyData → V → Prop
 | non : Is H .none .non
 | bl (b : Bool) : Is H (.bool b) (.bl b)
 | int (i : Int) : Is H (.int i) (.int i)
 | str (x : Str) : Is H (.str x) (.str x)
 | lst {p : Addr} {xs : List V} {ds : List PyData} : H p = some (.lst xs) → IsAll H ds xs → Is H (.list ds) (.ref p)
 | tup {p : Addr} {xs : List V} {ds : List PyData} : H p = some (.tup xs) → IsAll H ds xs → Is H (.tuple ds) (.ref p)
inductive IsAll (H : Hp) : List PyData → List V → Prop
 | nil : IsAll H [] []
 | cons {d : PyData} {x : V} {ds : List PyData} {xs : List V} : Is H d x → IsAll H ds xs → IsAll H (d :: ds) (x :: xs)
end
mutual
theorem Is.mono {H H' : Hp} (sm : Same H H') : ∀ {d : PyData} {x : V}, Is H d x → Is H' d x
 | _, _, .non => .non
 | _, _, .bl b => .bl b
 | _, _, .int i => .int i
 | _, _, .str x => .str x
 | _, _, .lst h r => .lst (sm _ _ h) (IsAll.mono sm r)
 | _, _, .tup h r => .tup (sm _ _ h) (IsAll.mono sm r)
theorem IsAll.mono {H H' : Hp} (sm : Same H H') : ∀ {ds : List PyData} {xs : List V}, IsAll H ds xs → IsAll H' ds xs
 | _, _, .nil => .nil
 | _, _, .cons h r => .cons (Is.mono sm h) (IsAll.mono sm r)
end
theorem IsAll.length {H : Hp} : ∀ {ds : List PyData} {xs : List V}, IsAll H ds xs → ds.length = xs.length
 | _, _, .nil => rfl
 | _, _, .cons _ r => by rw [List.length_cons, List.length_cons, IsAll.length r]
section
variable {X : Cx} {pins : List (Addr × Obj)} {σ : St} {H : Hp} {s : Shared}
mutual
theorem Is.reads (I : Inv X pins σ H s) : ∀ {d : PyData} {x : V} {v : Value}, Is H d x → RelV x v → ∃ as, Reads s.heap v d as
 | _, _, _, .non, r => by cases r; exact ⟨_, .none⟩
 | _, _, _, .bl b, r => by cases r; exact ⟨_, .bool b⟩
 | _, _, _, .int i, r => by obtain ⟨t, rfl⟩ := r; exact ⟨_, .int i t⟩
 | _, _, _, .str x, r => by obtain ⟨t, rfl⟩ := r; exact ⟨_, .str x t⟩
 | _, _, _, .lst h q, r => by
  cases r
  obtain ⟨its, vs, ⟨o, n, e, c, _, dt⟩, _⟩ := I.list (SqL.of h)
  obtain ⟨as, ra⟩ := IsAll.reads I q vs
  exact ⟨_, .list e c dt (by simpa using ra)⟩
 | _, _, _, .tup h q, r => by
  cases r
  obtain ⟨its, vs, ⟨o, e, c, n, dt⟩, _⟩ := I.tuple (SqT.of h)
  obtain ⟨as, ra⟩ := IsAll.reads I q vs
  exact ⟨_, .tuple e c dt (by simpa using ra)⟩
theorem IsAll.reads (I : Inv X pins σ H s) : ∀ {ds : List PyData} {xs : List V} {vs : List Value}, IsAll H ds xs → Vals xs vs → ∃ as, ReadsAll s.heap vs ds as
 | _, _, _, .nil, r => by cases r; exact ⟨_, .nil⟩
 | _, _, _, .cons q t, r => by
  cases r with
  | cons r1 r2 =>
   obtain ⟨as, h1⟩ := Is.reads I q r1
   obtain ⟨bs, h2⟩ := IsAll.reads I t r2
   exact ⟨_, .cons h1 h2⟩
end
def rEqD : R2 := fun x y H Q => ∃ d e, Is H d x ∧ Is H e y ∧ SeqAt.shaped d = true ∧ SeqAt.shaped e = true ∧ Q (.bl (PyData.eqv d e)) H
def rNeD : R2 := fun x y H Q => ∃ d e, Is H d x ∧ Is H e y ∧ SeqAt.shaped d = true ∧ SeqAt.shaped e = true ∧ Q (.bl (!PyData.eqv d e)) H
theorem oqe (hu : X.A.units + 64 < cLine) : OpR X (compareOp .Eq) rEqD := by
 intro pins s σ H x y v u Q I rx ry h
 obtain ⟨d, e, hx, hy, sx, sy, q⟩ := h
 obtain ⟨as, ra⟩ := hx.reads I rx
 obtain ⟨bs, rb⟩ := hy.reads I ry
 exact eq_dataH ra rb sx sy hu ⟨.bl _, H, I, rfl, q⟩
theorem kqW (hu : X.A.units + 64 < cLine) : OpR X (compareOp .NotEq) rNeD := by
 intro pins s σ H x y v u Q I rx ry h
 obtain ⟨d, e, hx, hy, sx, sy, q⟩ := h
 obtain ⟨as, ra⟩ := hx.reads I rx
 obtain ⟨bs, rb⟩ := hy.reads I ry
 exact ne_dataH ra rb sx sy hu ⟨.bl _, H, I, rfl, q⟩
end
mutual
inductive IsT (H : Hp) : PyData → V → Prop
 | non : IsT H .none .non
 | bl (b : Bool) : IsT H (.bool b) (.bl b)
 | int (i : Int) : IsT H (.int i) (.int i)
 | str (x : Str) : IsT H (.str x) (.str x)
 | tup {p : Addr} {xs : List V} {ds : List PyData} : H p = some (.tup xs) → IsTAll H ds xs → IsT H (.tuple ds) (.ref p)
inductive IsTAll (H : Hp) : List PyData → List V → Prop
 | nil : IsTAll H [] []
 | cons {d : PyData} {x : V} {ds : List PyData} {xs : List V} : IsT H d x → IsTAll H ds xs → IsTAll H (d :: ds) (x :: xs)
end
def SameT (H H' : Hp) : Prop := ∀ b xs, H b = some (.tup xs) → H' b = some (.tup xs)
theorem Same.toT {H H' : Hp} (h : Same H H') : SameT H H' := fun b xs e => h b _ e
theorem mqt {H : Hp} {p : Addr} {xs : List V} {o : HO} (h : H p = some (.lst xs)) : SameT H (upd H p o) := fun b ys e => by
 rw [aqw (rqU e h (by intro z; cases z))]; exact e
mutual
theorem IsT.mono {H H' : Hp} (sm : SameT H H') : ∀ {d : PyData} {x : V}, IsT H d x → IsT H' d x
 | _, _, .non => .non
 | _, _, .bl b => .bl b
 | _, _, .int i => .int i
 | _, _, .str x => .str x
 | _, _, .tup h r => .tup (sm _ _ h) (IsTAll.mono sm r)
theorem IsTAll.mono {H H' : Hp} (sm : SameT H H') : ∀ {ds : List PyData} {xs : List V}, IsTAll H ds xs → IsTAll H' ds xs
 | _, _, .nil => .nil
 | _, _, .cons h r => .cons (IsT.mono sm h) (IsTAll.mono sm r)
end
mutual
theorem IsT.is {H : Hp} : ∀ {d : PyData} {x : V}, IsT H d x → Is H d x
 | _, _, .non => .non
 | _, _, .bl b => .bl b
 | _, _, .int i => .int i
 | _, _, .str x => .str x
 | _, _, .tup h r => .tup h (IsTAll.is r)
theorem IsTAll.is {H : Hp} : ∀ {ds : List PyData} {xs : List V}, IsTAll H ds xs → IsAll H ds xs
 | _, _, .nil => .nil
 | _, _, .cons h r => .cons (IsT.is h) (IsTAll.is r)
end
theorem IsTAll.length {H : Hp} {ds : List PyData} {xs : List V} (h : IsTAll H ds xs) : ds.length = xs.length := h.is.length
section
variable {p : Addr} {fv : St} {te : TE} {Q : VK} {H1 : Hp}
inductive All2 (R : V → V → Hp → Prop) (H : Hp) : List V → List V → Prop
 | nil : All2 R H [] []
 | cons {x y : V} {xs ys : List V} : R x y H → All2 R H xs ys → All2 R H (x :: xs) (y :: ys)
theorem All2.mono {R : V → V → Hp → Prop} (hm : ∀ x y H H', SameT H H' → R x y H → R x y H') {H H' : Hp} (sm : SameT H H') : ∀ {xs ys : List V}, All2 R H xs ys → All2 R H' xs ys
 | _, _, .nil => .nil
 | _, _, .cons h t => .cons (hm _ _ _ _ sm h) (t.mono hm sm)
theorem All2.snoc {R : V → V → Hp → Prop} {H : Hp} {x y : V} (h : R x y H) : ∀ {xs ys : List V}, All2 R H xs ys → All2 R H (xs ++ [x]) (ys ++ [y])
 | _, _, .nil => .cons h .nil
 | _, _, .cons q t => .cons q (t.snoc h)
theorem All2.length {R : V → V → Hp → Prop} {H : Hp} : ∀ {xs ys : List V}, All2 R H xs ys → xs.length = ys.length
 | _, _, .nil => rfl
 | _, _, .cons _ t => by rw [List.length_cons, List.length_cons, t.length]
theorem iqd {K : PySem.W.Frag} {a : Addr} {xs : List V} (hxs : SqL K H1 a xs) (hlen : xs.length ≤ sizeLine) (hp : H1 p = none) (R : V → V → Hp → Prop) (hm : ∀ x y H H', SameT H H' → R x y H → R x y H')
  (he : ∀ x, x ∈ xs → ∀ (H' : Hp) (T : VK), Same H1 H' → (∀ y H'', Same H' H'' → R x y H'' → T y H'') → te (some x :: fv) H' T)
  (hQ : ∀ ys H', Same H1 H' → All2 R H' xs ys → H' p = some (.lst ys) → Q (.ref p) H') : CompI (Itl K a) p fv tYes te Q H1 := by
 refine ⟨fun i m ys H2 => m = xs.length - i ∧ i ≤ xs.length ∧ All2 R H2 (xs.take i) ys ∧ H2 p = some (.lst ys) ∧ Same H1 H2, ⟨xs.length, by simp, Nat.zero_le _, by rw [List.take_zero]; exact .nil, aqk, fun b o e => by rw [aqw (aqo e hp)]; exact e⟩, ?_⟩
 rintro i m ys H2 ⟨rfl, hi, hys, hp2, sm⟩
 refine ⟨hp2, ?_⟩
 have q := sm.seq hxs
 have hl := hys.length
 rw [List.length_take] at hl
 by_cases hlt : i < xs.length
 ·refine .inr ⟨⟨xs, xs[i], q, by simp [hlt]⟩, by omega, fun x H3 y => ?_⟩
  obtain ⟨rfl, y⟩ := y
  have hc := y xs q
  unfold tYes
  dsimp only
  rw [if_pos rfl]
  refine he x (List.mem_of_getElem? hc) _ _ sm fun y H5 s5 hr => ⟨s5 _ _ hp2, xs.length - (i + 1), by omega, rfl, hlt, ?_, aqk, fun b o e => ?_⟩
  ·rw [List.take_add_one, hc]
   exact ((hys.mono hm s5.toT).snoc hr).mono hm (mqt (s5 _ _ hp2))
  ·rw [aqw (aqo e hp)]; exact s5 _ _ (sm _ _ e)
 ·have e : i = xs.length := by omega
  subst e
  refine .inl ⟨⟨xs, q, Nat.le_refl _⟩, hQ ys H2 sm ?_ hp2⟩
  rw [List.take_length] at hys
  exact hys
end
section
variable {X : Cx}
def rAllB (K : PySem.W.Frag) : List V → Hp → VK → Prop := fun vs H Q => ∃ (p : Addr) (bs : List Bool), vs = [.ref p] ∧ SqL K H p (bs.map V.bl) ∧ Q (.bl (bs.all id)) H
def rAnyB (K : PySem.W.Frag) : List V → Hp → VK → Prop := fun vs H Q => ∃ (p : Addr) (bs : List Bool), vs = [.ref p] ∧ SqL K H p (bs.map V.bl) ∧ Q (.bl (bs.any id)) H
theorem nqR {bs : List Bool} : ∀ {us : List Value}, Vals (bs.map V.bl) us → ∀ (i : Nat) (v : Value), us[i]? = some v → ∃ b, bs[i]? = some b ∧ v = .bool b := by
 induction bs with
 | nil => intro us r i v h; rw [List.map_nil] at r; cases r; simp at h
 | cons b bs ih =>
  intro us r i v h
  rw [List.map_cons] at r
  cases r with
  | cons r1 r2 =>
   cases i with
   | zero => simp at h; subst h; exact ⟨b, rfl, r1⟩
   | succ i =>
    obtain ⟨c, h1, h2⟩ := ih r2 i v (by simpa using h)
    exact ⟨c, by simpa using h1, h2⟩
theorem mqq (hc : X.calm = true) : CallR X (.builtin "all") (rAllB X.K) := by
 intro pins s σ H xs us Q I r h
 obtain ⟨p, bs, rfl, hq, q⟩ := h
 obtain ⟨u, rfl, ru⟩ := vals1 r
 cases ru
 obtain ⟨its, vs, pl, hl⟩ := I.list hq
 have hI := pl.isList
 have hlt : p < s.heap.objs.size := by obtain ⟨_, e, _⟩ := hI; exact Heap.lt_size e
 refine call_all_walk (wpAny_pyIter_list hI ?_)
 refine ⟨s.heap.objs.size, [s.heap.objs.size, p], [s.heap.objs.size], its.toArray.size, _, _, fun i => (bs[i]?).getD true, rfl, Walks.list (A := X.A.in1) (I.ok.hd hc) _ p (Nat.ne_of_lt hlt) its.toArray,
  ⟨⟨_, Heap.get?_push_size _ rfl, rfl, rfl⟩, hI.push _⟩, fun i v s' Q' E' hP hQ => ?_, fun h' tk hk => ?_⟩
 ·obtain ⟨b, e, rfl⟩ := nqR vs i v (by simpa using hP)
  simp only [e, Option.getD_some] at hQ
  exact wpAny_truthy_bool hQ
 ·have hbl := vs.length
  rw [List.length_map] at hbl
  have e : ((List.range its.toArray.size).all fun i => (bs[i]?).getD true) = bs.all id := by
   rw [List.size_toArray, ← hbl]; exact PyProof.Rows.LSm.range_all bs
  exact ⟨.bl _, H, I.kept (t' := tk) (PyProof.Rows.LSm.kept_iter hk), rfl, by rw [e]; exact q⟩
variable {K : PySem.W.Frag}
theorem hqh (h : X.K = K) (hc : X.calm = true) : CallR X (.builtin "all") (rAllB K) := by subst h; exact mqq hc
def rListU (K : PySem.W.Frag) : List V → Hp → VK → Prop := fun xs H Q => ∃ p ys, xs = [.ref p] ∧ (SqL K H p ys ∨ SqT K H p ys) ∧ ∀ l, H l = none → Q (.ref l) (upd H l (.lst ys))
def rTupleU (K : PySem.W.Frag) : List V → Hp → VK → Prop := fun xs H Q => ∃ p ys, xs = [.ref p] ∧ ((SqL K H p ys ∧ ∀ l, H l = none → Q (.ref l) (upd H l (.tup ys))) ∨ (SqT K H p ys ∧ Q (.ref p) H))
theorem iqj {tg l : Expr} {tl : TE} (h : X.K = K) (hl : PE X l tl) : PI X tg l (iTup K tl) := by subst h; exact qqp hl
end
section
variable {H : Hp} {Q : VK} {K : PySem.W.Frag}
theorem oqY {x : V} {T : String} : (rIsiU [x, .ty T] H Q) = (∃ k, kindV x H = some k ∧ T ∈ ["bool", "int", "str", "list", "tuple"] ∧ Q (.bl (subT k T)) H) := rfl
theorem eqT : kindV .non H = some "NoneType" := rfl
theorem fq9 {b : Bool} : kindV (.bl b) H = some "bool" := rfl
theorem eqM {i : Int} : kindV (.int i) H = some "int" := rfl
theorem eqG {x : Str} : kindV (.str x) H = some "str" := rfl
theorem dqZ {p : Addr} {xs : List V} (h : H p = some (.lst xs)) : kindV (.ref p) H = some "list" := by simp only [kindV, h]
theorem dqD {p : Addr} {xs : List V} (h : H p = some (.tup xs)) : kindV (.ref p) H = some "tuple" := by simp only [kindV, h]
theorem lqS : ("bool" ∈ ["bool", "int", "str", "list", "tuple"]) = True := by simp
theorem nq7 : ("int" ∈ ["bool", "int", "str", "list", "tuple"]) = True := by simp
theorem mq2 : ("str" ∈ ["bool", "int", "str", "list", "tuple"]) = True := by simp
theorem lq6 : ("list" ∈ ["bool", "int", "str", "list", "tuple"]) = True := by simp
theorem lqf : ("tuple" ∈ ["bool", "int", "str", "list", "tuple"]) = True := by simp
theorem gqm : subT "NoneType" "bool" = false := by decide
theorem gqI : subT "NoneType" "int" = false := by decide
theorem gqG : subT "NoneType" "str" = false := by decide
theorem gqj : subT "NoneType" "list" = false := by decide
theorem fqR : subT "NoneType" "tuple" = false := by decide
theorem iqu : subT "bool" "bool" = true := by decide
theorem jqy : subT "bool" "int" = true := by decide
theorem jqA : subT "bool" "str" = false := by decide
theorem iqH : subT "bool" "list" = false := by decide
theorem hqU : subT "bool" "tuple" = false := by decide
theorem iq5 : subT "int" "bool" = false := by decide
theorem jq9 : subT "int" "int" = true := by decide
theorem kqf : subT "int" "str" = false := by decide
theorem jqE : subT "int" "list" = false := by decide
theorem iqQ : subT "int" "tuple" = false := by decide
theorem jqc : subT "str" "bool" = false := by decide
theorem kqd : subT "str" "int" = false := by decide
theorem kqh : subT "str" "str" = true := by decide
theorem jqu : subT "str" "list" = false := by decide
theorem iqT : subT "str" "tuple" = false := by decide
theorem iqA : subT "list" "bool" = false := by decide
theorem jqg : subT "list" "int" = false := by decide
theorem iq0 : subT "list" "str" = false := by decide
theorem iqM : subT "list" "list" = true := by decide
theorem hqY : subT "list" "tuple" = false := by decide
theorem hqT : subT "tuple" "bool" = false := by decide
theorem iqw : subT "tuple" "int" = false := by decide
theorem iqk : subT "tuple" "str" = false := by decide
theorem hqX : subT "tuple" "list" = false := by decide
theorem hqd : subT "tuple" "tuple" = true := by decide
theorem pqc {n : Nat} {t : TGs} {v : V} {σ : St} {R : St → Hp → Prop} : (gTup K n t v σ H R) = (∃ a xs, v = .ref a ∧ SqT K H a xs ∧ xs.length = n ∧ t xs σ H R) := rfl
theorem nq8 {t : TG} {u : TGs} {vs : List V} {σ : St} {R : St → Hp → Prop} : (gCons t u vs σ H R) = (∃ v r, vs = v :: r ∧ t v σ H fun σ' H' => u r σ' H' R) := rfl
theorem pqb {vs : List V} {σ : St} {R : St → Hp → Prop} : (gNil vs σ H R) = (vs = [] ∧ R σ H) := rfl
theorem oqz {to ti : TE} {t : TSet} {v : V} {σ : St} {R : St → Hp → Prop} : (gSub to ti t v σ H R) = (to σ H fun o H1 => ti σ H1 fun i H2 => t o i v H2 fun H3 => R σ H3) := rfl
theorem pqZ {p : Addr} {k : Int} {v : V} {R : Hp → Prop} : rSetL (.ref p) (.int k) v H R ↔ ∃ xs j, H p = some (.lst xs) ∧ ixN xs.length k = some j ∧ R (upd H p (.lst (xs.set j v))) := by
 constructor
 ·rintro ⟨p', xs, k', j, h1, h2, h3⟩; cases h1; cases h2; exact ⟨xs, j, h3⟩
 ·rintro ⟨xs, j, h⟩; exact ⟨p, xs, k, j, rfl, rfl, h⟩
end
section
variable {X : Cx} {K : PySem.W.Frag}
theorem pqh {es : List Expr} {k : Nat} {t : TGs} {n : Nat} {pos : Pos} (h : X.K = K) (hc : X.calm = true) (hg : PGs X es t)
  (hn : (assignEach es X.env).length = n := by rfl) (hst : (assignEach es X.env).findIdx? (·.1) = none := by rfl) : PG X (.Tuple es k pos) (gTup K n t) := by
 subst h; exact oql hc hg hn hst
end
def SameBut (p : Addr) (H H' : Hp) : Prop := ∀ b o, b ≠ p → H b = some o → H' b = some o
theorem SameBut.refl (p : Addr) (H : Hp) : SameBut p H H := fun _ _ _ e => e
theorem SameBut.trans {p : Addr} {H H' H'' : Hp} (h : SameBut p H H') (h' : SameBut p H' H'') : SameBut p H H'' := fun b o n e => h' b o n (h b o n e)
theorem Same.but {p : Addr} {H H' : Hp} (h : Same H H') : SameBut p H H' := fun b o _ e => h b o e
theorem hqS {p : Addr} {H : Hp} {o : HO} : SameBut p H (upd H p o) := fun b u n e => by rw [aqw n]; exact e
theorem SameBut.same {p : Addr} {H H' : Hp} (h : SameBut p H H') (hp : H p = none) : Same H H' := fun b o e => h b o (aqo e hp) e
section
variable {p : Addr} {fv : St} {te : TE} {Q : VK} {H1 : Hp} {K : PySem.W.Frag}
theorem Same.tup {H H' : Hp} {a : Addr} {xs : List V} (e : Same H H') (h : SqT K H a xs) : SqT K H' a xs := by
 rcases h with (h | ⟨o, h⟩) | h
 ·exact .inl (.inl (e _ _ h))
 ·exact .inl (.inr ⟨o, e _ _ h⟩)
 ·exact .inr h
variable {σ : St} {H : Hp} {tl : TE} {tt : TT} {fr : List Nat} {g : TG} {tb : TS} {D : Ends}
theorem nqW : (tComp (iTup K tl) fr tt te σ H Q) = (tl σ H fun x H1 => ∃ a, x = .ref a ∧ (∃ xs, SqT K H1 a xs) ∧ ∀ p, H1 p = none → CompI (Itt K a) p (frV σ fr) tt te Q H1) := rfl
theorem oqA : (tFor (iTup K te) g tb D σ H) = (te σ H fun x H1 => ∃ a, x = .ref a ∧ (∃ xs, SqT K H1 a xs) ∧ LoopI (Itt K a) g tb D σ H1) := rfl
theorem mqU {a : Addr} : rAllB K [.ref a] H Q ↔ ∃ bs : List Bool, SqL K H a (bs.map V.bl) ∧ Q (.bl (bs.all id)) H := by
 constructor
 ·rintro ⟨p, bs, h1, h2⟩; cases h1; exact ⟨bs, h2⟩
 ·rintro ⟨bs, h⟩; exact ⟨a, bs, rfl, h⟩
theorem pq4 {a : Addr} : rAnyB K [.ref a] H Q ↔ ∃ bs : List Bool, SqL K H a (bs.map V.bl) ∧ Q (.bl (bs.any id)) H := by
 constructor
 ·rintro ⟨p, bs, h1, h2⟩; cases h1; exact ⟨bs, h2⟩
 ·rintro ⟨bs, h⟩; exact ⟨a, bs, rfl, h⟩
theorem qq4 {a : Addr} : rListU K [.ref a] H Q ↔ ∃ ys, (SqL K H a ys ∨ SqT K H a ys) ∧ ∀ l, H l = none → Q (.ref l) (upd H l (.lst ys)) := by
 constructor
 ·rintro ⟨p, bs, h1, h2⟩; cases h1; exact ⟨bs, h2⟩
 ·rintro ⟨bs, h⟩; exact ⟨a, bs, rfl, h⟩
theorem qq2 {a : Addr} : rTupleU K [.ref a] H Q ↔ ∃ ys, (SqL K H a ys ∧ ∀ l, H l = none → Q (.ref l) (upd H l (.tup ys))) ∨ (SqT K H a ys ∧ Q (.ref a) H) := by
 constructor
 ·rintro ⟨p, bs, h1, h2⟩; cases h1; exact ⟨bs, h2⟩
 ·rintro ⟨bs, h⟩; exact ⟨a, bs, rfl, h⟩
theorem oq2 {a : Addr} {lo hi : Option Int} : rSlT K (.ref a) lo hi H Q ↔ ∃ xs, SqT K H a xs ∧ ¬ (HT.sIx xs.length 0 lo = 0 ∧ HT.sIx xs.length xs.length hi = xs.length) ∧ ∀ p, H p = none → Q (.ref p) (upd H p (.tup (cutV xs lo hi))) := by
 constructor
 ·rintro ⟨p, bs, h1, h2⟩; cases h1; exact ⟨bs, h2⟩
 ·rintro ⟨bs, h⟩; exact ⟨a, bs, rfl, h⟩
end
def tCut (t u : TS) : TS := fun D σ H => ∃ P : St → Hp → Prop, t { D with nx := P } σ H ∧ ∀ σ' H', P σ' H' → u D σ' H'
section
variable {X : Cx} {st : Stmt} {rest : List Stmt} {t u : TS}
theorem aqJ (h1 : PS X st t) (h2 : PSs X rest u) : PSs X (st :: rest) (tCut t u) := by
 intro pins s σ H D I h
 obtain ⟨P, h, hu⟩ := h
 refine wpAny_execs_cons (thn (h1 pins s σ H { D with nx := P } I h) fun f s1 q => ?_)
 cases f with
 | next =>
  obtain ⟨σ', H', I', q⟩ := q
  exact h2 pins s1 σ' H' D I' (hu _ _ q)
 | ret v => exact q
 | brk => exact q
 | cont => exact q
def Later (u : TS) (D : Ends) (σ : St) (H : Hp) : Prop := u D σ H
theorem nqy {D : Ends} {x : Option V} {σ : St} {H : Hp} : (Later u D (x :: σ) H) = (u D (x :: σ) H) := rfl
theorem qqi {D : Ends} {σ : St} {H : Hp} : (tCut t u D σ H) = (∃ P : St → Hp → Prop, t { D with nx := P } σ H ∧ ∀ σ' H', P σ' H' → Later u D σ' H') := rfl
end
theorem aqG {H : Hp} {p : Addr} {o : HO} (hp : H p = none) : Same H (upd H p o) := fun b u e => by rw [aqw (aqo e hp)]; exact e
def tTupS (t : TA) : TE := fun σ H Q => t σ H fun xs H1 => xs.length ≤ sizeLine ∧ ∀ p H', H1 p = none → Same H1 H' → H' p = some (.tup xs) → Q (.ref p) H'
def tLstS (t : TA) : TE := fun σ H Q => t σ H fun xs H1 => xs.length ≤ sizeLine ∧ ∀ p H', H1 p = none → Same H1 H' → H' p = some (.lst xs) → Q (.ref p) H'
section
variable {X : Cx} {es : List Expr} {t : TA} {pos : Pos} {K : PySem.W.Frag}
theorem aqV {x1} (h : PA X es t) : PE X (.Tuple es x1 pos) (tTupS t) := by
 intro pins s σ H Q I hq
 refine wpAny_Tuple_spliced (thn (h pos pins s σ H _ I hq) fun us s1 ⟨xs, H1, I1, r, z, q⟩ => ⟨by rw [← r.length]; exact z, ?_⟩)
 have hf : H1 s1.heap.objs.size = none := I1.hok.fresh (Nat.le_refl _)
 refine ⟨.ref s1.heap.objs.size, upd H1 s1.heap.objs.size (.tup xs), I1.laid (t' := s1.toks) (fun b u e => Heap.get?_push_of_some _ e) (Nat.le_refl _) ?_, rfl, q _ _ hf (aqG hf) aqk⟩
 exact ⟨z, us, r, ⟨_, Heap.get?_push_size _ rfl, rfl, _, rfl⟩⟩
theorem aqU (h : PA X es t) : PE X (.List es pos) (tLstS t) := by
 intro pins s σ H Q I hq
 refine wpAny_List_spliced (thn (h pos pins s σ H _ I hq) fun us s1 ⟨xs, H1, I1, r, z, q⟩ => ⟨by rw [← r.length]; exact z, ?_⟩)
 have hf : H1 s1.heap.objs.size = none := I1.hok.fresh (Nat.le_refl _)
 refine ⟨.ref s1.heap.objs.size, upd H1 s1.heap.objs.size (.lst xs), I1.laid (t' := s1.toks) (fun b u e => Heap.get?_push_of_some _ e) (Nat.le_refl _) ?_, rfl, q _ _ hf (aqG hf) aqk⟩
 exact ⟨z, us, 0, r, Heap.get?_push_size _ rfl⟩
def rAddS (K : PySem.W.Frag) : R2 := fun x y H Q => match x, y with
 | .int i, .int j => Q (.int (i + j)) H
 | .str i, .str j => i.length + j.length ≤ sizeLine ∧ Q (.str (i ++ j)) H
 | .ref a, .ref b => (∃ xs zs, H a = some (.lst xs) ∧ H b = some (.lst zs) ∧ xs.length + zs.length ≤ sizeLine ∧ ∀ p H', H p = none → Same H H' → H' p = some (.lst (xs ++ zs)) → Q (.ref p) H') ∨
   (∃ xs ys, H a = some (.tup xs) ∧ H b = some (.tup ys) ∧ xs.length + ys.length ≤ sizeLine ∧ ∀ p H', Same H H' → H' p = some (.tup (xs ++ ys)) → Q (.ref p) H')
 | _, _ => False
theorem aqi : OpR X (binaryOp .Add) (rAddS K) := by
 intro pins s σ H x y v u Q I rx ry h
 refine mqC pins s σ H x y v u Q I rx ry ?_
 cases x with
 | int i =>
  cases y with
  | int j => exact h
  | _ => exact h.elim
 | str i =>
  cases y with
  | str j => exact h
  | _ => exact h.elim
 | ref a =>
  cases y with
  | ref b =>
   rcases h with ⟨xs, zs, h1, h2, h3, h4⟩ | h
   ·exact .inl ⟨xs, zs, h1, h2, h3, fun p hp => h4 p _ hp (aqG hp) aqk⟩
   ·exact .inr h
  | _ => exact h.elim
 | _ => exact h.elim
def rListS (K : PySem.W.Frag) : List V → Hp → VK → Prop := fun xs H Q => ∃ p ys, xs = [.ref p] ∧ (SqL K H p ys ∨ SqT K H p ys) ∧ ∀ l H', H l = none → Same H H' → H' l = some (.lst ys) → Q (.ref l) H'
def rTupleS (K : PySem.W.Frag) : List V → Hp → VK → Prop := fun xs H Q => ∃ p ys, xs = [.ref p] ∧ (SqL K H p ys ∨ H p = some (.tup ys)) ∧ ∀ l H', Same H H' → H' l = some (.tup ys) → Q (.ref l) H'
theorem fqq (h : X.K = K) : CallR X (.type "tuple") (rTupleS K) := by
 subst h
 intro pins s σ H xs us Q I r h
 obtain ⟨p, ys, h1, h2, h3⟩ := h
 rcases h2 with h2 | h2
 ·exact fqK pins s σ H xs us Q I r ⟨p, ys, h1, .inl ⟨h2, fun l hl => h3 l _ (aqG hl) aqk⟩⟩
 ·exact fqK pins s σ H xs us Q I r ⟨p, ys, h1, .inr ⟨SqT.of h2, h3 p H (Same.refl _) h2⟩⟩
def rSlS2 (K : PySem.W.Frag) : V → Option Int → Option Int → Hp → VK → Prop := fun x lo hi H Q => ∃ a xs, x = .ref a ∧ SqT K H a xs ∧
 ¬ (HT.sIx xs.length 0 lo = 0 ∧ HT.sIx xs.length xs.length hi = xs.length) ∧ ∀ p H', H p = none → Same H H' → H' p = some (.tup (cutV xs lo hi)) → Q (.ref p) H'
end
section
variable {σ : St} {H : Hp} {Q : VK} {K : PySem.W.Frag} {aa : TA}
theorem pq1 : (tTupS aa σ H Q) = (aa σ H fun xs H1 => xs.length ≤ sizeLine ∧ ∀ p H', H1 p = none → Same H1 H' → H' p = some (.tup xs) → Q (.ref p) H') := rfl
theorem oqZ : (tLstS aa σ H Q) = (aa σ H fun xs H1 => xs.length ≤ sizeLine ∧ ∀ p H', H1 p = none → Same H1 H' → H' p = some (.lst xs) → Q (.ref p) H') := rfl
theorem oqy {i j : Int} : (rAddS K (.int i) (.int j) H Q) = (Q (.int (i + j)) H) := rfl
theorem hqH {i j : Str} : (rAddS K (.str i) (.str j) H Q) = (i.length + j.length ≤ sizeLine ∧ Q (.str (i ++ j)) H) := rfl
theorem pqP {a : Addr} : rListS K [.ref a] H Q ↔ ∃ ys, (SqL K H a ys ∨ SqT K H a ys) ∧ ∀ l H', H l = none → Same H H' → H' l = some (.lst ys) → Q (.ref l) H' := by
 constructor
 ·rintro ⟨p, bs, h1, h2⟩; cases h1; exact ⟨bs, h2⟩
 ·rintro ⟨bs, h⟩; exact ⟨a, bs, rfl, h⟩
theorem pqB {a : Addr} : rTupleS K [.ref a] H Q ↔ ∃ ys, (SqL K H a ys ∨ H a = some (.tup ys)) ∧ ∀ l H', Same H H' → H' l = some (.tup ys) → Q (.ref l) H' := by
 constructor
 ·rintro ⟨p, bs, h1, h2⟩; cases h1; exact ⟨bs, h2⟩
 ·rintro ⟨bs, h⟩; exact ⟨a, bs, rfl, h⟩
theorem pqx {a : Addr} {lo hi : Option Int} : rSlS2 K (.ref a) lo hi H Q ↔ ∃ xs, SqT K H a xs ∧ ¬ (HT.sIx xs.length 0 lo = 0 ∧ HT.sIx xs.length xs.length hi = xs.length) ∧ ∀ p H', H p = none → Same H H' → H' p = some (.tup (cutV xs lo hi)) → Q (.ref p) H' := by
 constructor
 ·rintro ⟨p, bs, h1, h2⟩; cases h1; exact ⟨bs, h2⟩
 ·rintro ⟨bs, h⟩; exact ⟨a, bs, rfl, h⟩
end
def rSlLS (K : PySem.W.Frag) : V → Option Int → Option Int → Hp → VK → Prop := fun x lo hi H Q => ∃ a xs, x = .ref a ∧ SqL K H a xs ∧ ∀ p H', H p = none → Same H H' → H' p = some (.lst (cutV xs lo hi)) → Q (.ref p) H'
theorem fqL {X : Cx} {K : PySem.W.Frag} (h : X.K = K) : SlR X (rSlLS K) := by
 subst h
 intro pins s σ H x v vl vu lo hi sl Q I rx hs pl pu h
 obtain ⟨a, xs, h1, h2, h3⟩ := h
 exact lq0 pins s σ H x v vl vu lo hi sl Q I rx hs pl pu ⟨a, xs, h1, h2, fun p hp => h3 p _ hp (aqG hp) aqk⟩
theorem nq5 {K : PySem.W.Frag} {H : Hp} {Q : VK} {a : Addr} {lo hi : Option Int} : rSlLS K (.ref a) lo hi H Q ↔ ∃ xs, SqL K H a xs ∧ ∀ p H', H p = none → Same H H' → H' p = some (.lst (cutV xs lo hi)) → Q (.ref p) H' := by
 constructor
 ·rintro ⟨p, bs, h1, h2⟩; cases h1; exact ⟨bs, h2⟩
 ·rintro ⟨bs, h⟩; exact ⟨a, bs, rfl, h⟩
def rIsB (neg : Bool) : R2 := fun x y H Q => match x, y with
 | .bl b, .bl c => Q (.bl (if neg then !decide (b = c) else decide (b = c))) H
 | _, _ => False
theorem rqz {b c : Bool} {H : Hp} {Q : VK} : (rIsB false (.bl b) (.bl c) H Q) = (Q (.bl (decide (b = c))) H) := rfl
end L2
namespace Wm
open PySem L2
def isSg (c : Nat) : Bool := decide (32 ≤ c) && decide (c ≤ 126) && !decide (c = 37)
def SG : List Nat := (List.range 127).filter isSg
def hexd (n : Nat) : Nat := if n < 10 then 48 + n else 87 + n
def fig (a : Nat) : Option Nat := if 48 ≤ a ∧ a ≤ 57 then some (a - 48) else if 97 ≤ a ∧ a ≤ 102 then some (a - 87) else if 65 ≤ a ∧ a ≤ 70 then some (a - 55) else none
def figV (a : Nat) : V := match fig a with | some n => .int (n : Nat) | none => .non
abbrev one (c : Nat) : V := .str ⟨#[c]⟩
def sgV (n : Nat) : V := if isSg n then one n else .non
def signOf (a b : Nat) : V := match fig a, fig b with | some h, some l => sgV (h * 16 + l) | _, _ => .non
def signOfL : List Nat → V
 | [a, b] => signOf a b
 | _ => .non
theorem oqb {c : Nat} : c ∈ SG ↔ isSg c = true := by
 unfold SG
 rw [List.mem_filter, List.mem_range]
 constructor
 ·exact fun h => h.2
 ·intro h
  refine ⟨?_, h⟩
  simp only [isSg, Bool.and_eq_true, decide_eq_true_eq] at h
  omega
theorem dqV {c : Nat} (h : isSg c = true) : 32 ≤ c ∧ c ≤ 126 ∧ c ≠ 37 := by
 simp only [isSg, Bool.and_eq_true, decide_eq_true_eq, Bool.not_eq_true', decide_eq_false_iff_not] at h
 omega
theorem nqn : ∀ a, a < 128 → a ∈ (Str.ofString "0123456789abcdef").cps.toList →
  Builtin.Str.occurrences (Str.ofString "0123456789abcdef") ⟨#[a]⟩ 0 (Str.ofString "0123456789abcdef").length 1 = [(fig a).getD 0] ∧ (fig a).isSome = true := by decide +kernel
theorem nqQ : ∀ a, a < 128 → ¬ a ∈ (Str.ofString "0123456789abcdef").cps.toList → a ∈ (Str.ofString "0123456789ABCDEF").cps.toList →
  Builtin.Str.occurrences (Str.ofString "0123456789ABCDEF") ⟨#[a]⟩ 0 (Str.ofString "0123456789ABCDEF").length 1 = [(fig a).getD 0] ∧ (fig a).isSome = true := by decide +kernel
theorem rqQ : ∀ a, a < 128 → ¬ a ∈ (Str.ofString "0123456789abcdef").cps.toList → ¬ a ∈ (Str.ofString "0123456789ABCDEF").cps.toList → fig a = none := by decide +kernel
theorem nqx : ∀ n, n < 127 → isSg n = true → (Str.ofString " !\"#$&'()*+,-./0123456789:;<=>?@ABCDEFGHIJKLMNOPQRSTUVWXYZ[\\]^_`abcdefghijklmnopqrstuvwxyz{|}~").cps.toList[n - 32 - (if 37 < n then 1 else 0)]? = some n := by decide +kernel
theorem jqC : (Str.ofString " !\"#$&'()*+,-./0123456789:;<=>?@ABCDEFGHIJKLMNOPQRSTUVWXYZ[\\]^_`abcdefghijklmnopqrstuvwxyz{|}~").length ≤ sizeLine := by decide +kernel
theorem oqd : SG.length = 94 := by decide +kernel
theorem jqD (l : List Nat) (a : Nat) : ∀ k, ((List.range k).map fun j => a + j).filterMap (fun i => l[i]?) = (l.drop a).take k
 | 0 => by simp
 | k + 1 => by
  rw [List.range_succ, List.map_append, List.filterMap_append, jqD l a k, List.take_add_one, List.getElem?_drop]
  simp only [List.map_cons, List.map_nil]
  cases e : l[a + k]? with
  | none => simp [e]
  | some c => simp [e]
def clipI (n : Nat) (v : Int) : Nat := (max 0 (min (if v < 0 then v + n else v) n)).toNat
theorem nqL (a b : Nat) : sliceRange (a : Int) (b : Int) 1 = (List.range (b - a)).map fun j => a + j := by
 unfold sliceRange
 have h1 : (1 : Int) > 0 := by decide
 simp only [h1, if_true, Int.one_mul, Int.ediv_one]
 have e : (if (a : Int) < (b : Int) then (b : Int) - (a : Int) + 1 - 1 else 0).toNat = b - a := by split <;> omega
 rw [e]
 apply List.map_congr_left
 intro j _
 omega
theorem kqb (lo hi : Option Int) (n : Nat) : Builtin.Str.strSliceIndices lo hi 1 n = (List.range ((hi.elim n (clipI n)) - (lo.elim 0 (clipI n)))).map fun j => (lo.elim 0 (clipI n)) + j := by
 unfold Builtin.Str.strSliceIndices
 have h1 : (1 : Int) > 0 := by decide
 simp only [h1, if_true]
 rw [← nqL]
 congr 1
 ·cases lo with
  | none => rfl
  | some v => simp only [Option.elim_some, clipI]; omega
 ·cases hi with
  | none => rfl
  | some v => simp only [Option.elim_some, clipI]; omega
theorem jqG (l : List Nat) (lo hi : Option Int) : Txt.slice (⟨l.toArray⟩ : Str) lo hi = ⟨((l.drop (lo.elim 0 (clipI l.length))).take ((hi.elim l.length (clipI l.length)) - (lo.elim 0 (clipI l.length)))).toArray⟩ := by
 have hl : (⟨l.toArray⟩ : Str).length = l.length := by simp [Str.length]
 have hb : hi.elim l.length (clipI l.length) ≤ l.length := by
  cases hi with
  | none => exact Nat.le_refl _
  | some v => simp only [Option.elim_some, clipI]; omega
 have hb' : lo.elim 0 (clipI l.length) ≤ l.length := by
  cases lo with
  | none => exact Nat.zero_le _
  | some v => simp only [Option.elim_some, clipI]; omega
 have ef : (fun i : Nat => (⟨l.toArray⟩ : Str).cps[i]?) = fun i => l[i]? := by funext i; simp
 unfold Txt.slice
 rw [hl, kqb, ef]
 split
 ·rename_i h
  simp only [List.length_map, List.length_range, beq_self_eq_true, Bool.true_and, beq_iff_eq] at h
  have e1 : lo.elim 0 (clipI l.length) = 0 := by omega
  have e2 : hi.elim l.length (clipI l.length) = l.length := by omega
  rw [e1, e2]
  simp
 ·rw [jqD l (lo.elim 0 (clipI l.length)) ((hi.elim l.length (clipI l.length)) - (lo.elim 0 (clipI l.length)))]
theorem kqz (n k : Nat) : clipI n (k : Int) = min k n := by unfold clipI; split <;> omega
theorem lqr (l : List Nat) (k : Nat) : Txt.slice (⟨l.toArray⟩ : Str) (some (k : Int)) none = ⟨(l.drop k).toArray⟩ := by
 rw [jqG]
 simp only [Option.elim_some, Option.elim_none, kqz]
 by_cases h : k ≤ l.length
 ·rw [Nat.min_eq_left h, List.take_of_length_le (by simp)]
 ·rw [Nat.min_eq_right (by omega), List.drop_eq_nil_of_le (Nat.le_refl _), List.drop_eq_nil_of_le (by omega)]
  simp
theorem jqa (l : List Nat) (i j : Nat) : Txt.slice (⟨l.toArray⟩ : Str) (some (i : Int)) (some (j : Int)) = ⟨((l.drop i).take (j - i)).toArray⟩ := by
 rw [jqG]
 simp only [Option.elim_some, kqz]
 by_cases h : i ≤ l.length
 ·rw [Nat.min_eq_left h]
  by_cases h2 : j ≤ l.length
  ·rw [Nat.min_eq_left h2]
  ·rw [Nat.min_eq_right (by omega : l.length ≤ j), List.take_of_length_le (by simp), List.take_of_length_le (by simp; omega)]
 ·rw [Nat.min_eq_right (by omega : l.length ≤ i), List.drop_eq_nil_of_le (Nat.le_refl _), List.drop_eq_nil_of_le (by omega)]
  simp
theorem pq9 : Str.ofString "" = ⟨([] : List Nat).toArray⟩ := by decide +kernel
theorem nqV (ys : List Str) : Txt.join (⟨([] : List Nat).toArray⟩ : Str) ys = ⟨(ys.flatMap fun y => y.cps.toList).toArray⟩ := by
 show Builtin.Str.glued _ _ = _
 rw [StrLaws.glued_eq_join]
 induction ys with
 | nil => rfl
 | cons y r ih =>
  cases r with
  | nil =>
   show y = _
   simp
  | cons z r =>
   show y ++ (⟨#[]⟩ : Str) ++ Str.join ⟨#[]⟩ (z :: r) = _
   rw [ih]
   show Str.mk (y.cps ++ #[] ++ _) = _
   simp [List.flatMap_cons]
theorem cql (l m : List Nat) : ((⟨l.toArray⟩ : Str) ++ (⟨m.toArray⟩ : Str)) = ⟨(l ++ m).toArray⟩ := by
 show Str.mk (l.toArray ++ m.toArray) = _
 simp
theorem cqr {l m : List Nat} : ((⟨l.toArray⟩ : Str) = ⟨m.toArray⟩) ↔ l = m := by
 constructor
 ·intro h; injection h with h; injection h
 ·rintro rfl; rfl
theorem aq8 (l : List Nat) : (⟨l.toArray⟩ : Str).length = l.length := by simp [Str.length]
theorem mq0 : Str.ofString "~" = ⟨[126].toArray⟩ := by decide +kernel
theorem oqH (l : List Nat) : Txt.slice (⟨l.toArray⟩ : Str) (some 1) none = ⟨(l.drop 1).toArray⟩ := lqr l 1
theorem eqs {a n : Nat} (h : fig a = some n) : figV a = .int (n : Nat) := by unfold figV; rw [h]
theorem hqw {a : Nat} (h : fig a = none) : figV a = .non := by unfold figV; rw [h]
theorem pqy {n : Nat} (h : isSg n = true) : sgV n = one n := by unfold sgV; rw [if_pos h]
theorem lqI {n : Nat} (h : ¬ isSg n = true) : sgV n = .non := by unfold sgV; rw [if_neg h]
theorem oqE {n : Nat} (h1 : 32 ≤ n) (h2 : n ≤ 126) (h3 : n ≠ 37) : isSg n = true := by
 simp only [isSg, Bool.and_eq_true, decide_eq_true_eq, Bool.not_eq_true', decide_eq_false_iff_not]
 omega
theorem hq3 {l : List Nat} (h : l.length ≠ 2) : signOfL l = .non := by
 match l with
 | [] => rfl
 | [_] => rfl
 | [_, _] => exact absurd rfl h
 | _ :: _ :: _ :: _ => rfl
theorem qqH {l : List Nat} (h : l.length = 2) : ∃ a b, l = [a, b] := by
 match l, h with
 | [a, b], _ => exact ⟨a, b, rfl⟩
theorem kql (l : List Nat) (m k : Int) (h0 : 0 < k) (h : k ≤ l.length) : ∃ a, a ∈ l ∧ atI l (m % k) = some a := by
 have h1 := Int.emod_nonneg m (show k ≠ 0 by omega)
 have h2 := Int.emod_lt_of_pos m h0
 have h3 : (m % k).toNat < l.length := by omega
 refine ⟨l[(m % k).toNat], List.getElem_mem _, ?_⟩
 have := aqg (xs := l) (j := (m % k).toNat) (v := l[(m % k).toNat]) (by simp [h3])
 rw [Int.toNat_of_nonneg h1] at this
 exact this
def isPl (c : Nat) : Bool := decide (48 ≤ c ∧ c ≤ 57) || decide (65 ≤ c ∧ c ≤ 90) || decide (97 ≤ c ∧ c ≤ 122) || decide (c = 45) || decide (c = 46) || decide (c = 95)
theorem kqS : ∀ c, c < 128 → (decide (c ∈ (Str.ofString "abcdefghijklmnopqrstuvwxyzABCDEFGHIJKLMNOPQRSTUVWXYZ0123456789-_.").cps.toList)) = isPl c := by decide +kernel
def wr1 (c : Nat) : List Nat := if isPl c then [c] else [126, hexd (c / 16), hexd (c % 16)]
def wr (l : List Nat) : List Nat := l.flatMap wr1
theorem qqW (l m : List Nat) : wr (l ++ m) = wr l ++ wr m := by unfold wr; rw [List.flatMap_append]
theorem oqP (c : Nat) : (wr1 c).length ≤ 3 := by unfold wr1; split <;> simp
theorem mql (l : List Nat) : (wr l).length ≤ 3 * l.length := by
 induction l with
 | nil => simp [wr]
 | cons c r ih =>
  have := oqP c
  unfold wr at ih ⊢
  rw [List.flatMap_cons, List.length_append, List.length_cons]
  omega
def sgO (a b : Nat) : Option Nat := match fig a, fig b with
 | some h, some l => if isSg (h * 16 + l) then some (h * 16 + l) else none
 | _, _ => none
def oV : Option Nat → V
 | some c => one c
 | none => .non
theorem mqj (a b : Nat) : signOf a b = oV (sgO a b) := by
 unfold signOf sgO
 cases fig a with
 | none => rfl
 | some h =>
  cases fig b with
  | none => rfl
  | some l =>
   simp only [sgV]
   split <;> rfl
def und (fr : List Nat) : List Nat → Option (List Nat)
 | [] => some []
 | c :: r => if c = 126 then match r with
   | a :: b :: r' => match sgO a b with
    | some d => (und fr r').map (d :: ·)
    | none => none
   | _ => none
  else if isPl c || decide (c ∈ fr) then (und fr r).map (c :: ·) else none
theorem kqg (fr : List Nat) : und fr [] = some [] := by unfold und; rfl
theorem gqT {fr : List Nat} {a b d : Nat} {r : List Nat} (h : sgO a b = some d) : und fr (126 :: a :: b :: r) = (und fr r).map (d :: ·) := by
 rw [und]; simp only [if_true, h]
theorem iqh {fr : List Nat} {a b : Nat} {r : List Nat} (h : sgO a b = none) : und fr (126 :: a :: b :: r) = none := by
 rw [und]; simp only [if_true, h]
theorem hqo {fr : List Nat} {r : List Nat} (h : r.length < 2) : und fr (126 :: r) = none := by
 match r, h with
 | [], _ => rw [und.eq_def]; rfl
 | [a], _ => rw [und.eq_def]; rfl
theorem fqv {fr : List Nat} {c : Nat} {r : List Nat} (h : c ≠ 126) (h2 : (isPl c || decide (c ∈ fr)) = true) : und fr (c :: r) = (und fr r).map (c :: ·) := by
 rw [und.eq_def]; simp only [if_neg h, h2, if_true]
theorem oqc {fr : List Nat} {c : Nat} {r : List Nat} (h : c ≠ 126) (h2 : ¬ (isPl c || decide (c ∈ fr)) = true) : und fr (c :: r) = none := by
 rw [und.eq_def]; simp only [if_neg h, h2, if_false]; rfl
theorem kqc {c : Nat} (hc : isSg c = true) : sgO (hexd (c / 16)) (hexd (c % 16)) = some c := by
 have l := dqV hc
 have key : ∀ h, h < 16 → fig (hexd h) = some h := by decide +kernel
 unfold sgO
 rw [key _ (by omega), key _ (by omega)]
 have e : c / 16 * 16 + c % 16 = c := by omega
 simp only [e, hc, if_true]
theorem rqp : isPl 126 = false := by decide
theorem mqr {fr : List Nat} : ∀ (l r : List Nat), (∀ c ∈ l, isSg c = true) → und fr (wr l ++ r) = (und fr r).map (l ++ ·)
 | [], r, _ => by simp [wr]
 | c :: l, r, h => by
  have ih := mqr (fr := fr) l r fun d hd => h d (List.mem_cons_of_mem _ hd)
  have e : wr (c :: l) ++ r = wr1 c ++ (wr l ++ r) := by unfold wr; rw [List.flatMap_cons, List.append_assoc]
  rw [e]
  unfold wr1
  split
  ·rename_i hp
   have hn : c ≠ 126 := by rintro rfl; rw [rqp] at hp; cases hp
   show und fr (c :: (wr l ++ r)) = _
   rw [fqv hn (by rw [hp]; rfl), ih, Option.map_map]
   rfl
  ·show und fr (126 :: hexd (c / 16) :: hexd (c % 16) :: (wr l ++ r)) = _
   rw [gqT (kqc (h c List.mem_cons_self)), ih, Option.map_map]
   rfl
theorem oqM {ns : List Int} {k : Nat} (h : k < ns.length) : atI (ns.map V.int) (k : Int) = some (.int (ns.getD k 0)) := by
 refine aqg ?_
 rw [List.getElem?_map, List.getElem?_eq_getElem h, List.getD_eq_getElem?_getD, List.getElem?_eq_getElem h]
 rfl
theorem aqu {n : Nat} (h : n ≤ 100000) : n ≤ sizeLine := Nat.le_trans h (by decide)
theorem oqw (f : Nat → Nat) (l : List Nat) : (l.toArray).map f = (l.map f).toArray := by simp
theorem oqF (l : List Nat) : (⟨l.toArray⟩ : Str).cps.toList = l := rfl
theorem mq8 {H : Hp} {p : Addr} {o : HO} (hp : H p = none) : Same H (upd H p o) := fun b u e => by rw [aqw (aqo e hp)]; exact e
def undV : Option (List Nat) → V
 | some d => .str ⟨d.toArray⟩
 | none => .non
def swV (fr : List Nat) : List Nat → V
 | [] => .non
 | c :: r => if c = 126 then signOfL r else if (isPl c || decide (c ∈ fr)) = true then one c else .non
theorem jqw (fr r : List Nat) : swV fr (126 :: r) = signOfL r := by simp only [swV, if_true]
theorem kqC {fr : List Nat} {c : Nat} (h : c ≠ 126) : swV fr [c] = if (isPl c || decide (c ∈ fr)) = true then one c else .non := by simp only [swV, if_neg h]
theorem qqE {c : Nat} (h : c ≠ 126) : ¬ ((⟨#[c]⟩ : Str) = ⟨#[126]⟩) := fun e => h (by have := cqr.mp e; injection this)
theorem mqH {l : List Nat} {p c : Nat} (h : l[p]? = some c) : l.drop p = c :: l.drop (p + 1) := by
 obtain ⟨hl, e⟩ := List.getElem?_eq_some_iff.mp h
 rw [← e]
 exact List.drop_eq_getElem_cons hl
theorem lqA (dn : List Nat) : ((dn.map fun c => (⟨[c].toArray⟩ : Str)).flatMap fun y => y.cps.toList) = dn := by
 induction dn with
 | nil => rfl
 | cons c r ih => rw [List.map_cons, List.flatMap_cons, ih]; rfl
theorem mqS (dn : List Nat) : ((dn.map fun c => (⟨[c].toArray⟩ : Str)).map (·.length)).sum = dn.length := by
 induction dn with
 | nil => rfl
 | cons c r ih => rw [List.map_cons, List.map_cons, List.sum_cons, ih, List.length_cons]; show 1 + _ = _; omega
theorem kqX (dn : List Nat) (d : Nat) : dn.map one ++ [V.str ⟨#[d]⟩] = (dn ++ [d]).map one := by rw [List.map_append]; rfl
theorem mqy {fr l dn : List Nat} {p a b d : Nat} {r : List Nat} (hu : und fr l = (und fr (l.drop p)).map (dn ++ ·)) (hd : l.drop p = 126 :: a :: b :: r) (h : sgO a b = some d) :
  und fr l = (und fr (l.drop (p + 3))).map ((dn ++ [d]) ++ ·) := by
 have e : l.drop (p + 3) = r := by rw [← List.drop_drop, hd]; rfl
 rw [hu, hd, gqT h, e, Option.map_map]
 congr 1
 funext x
 simp
theorem mqz {fr l dn : List Nat} {p c : Nat} {r : List Nat} (hu : und fr l = (und fr (l.drop p)).map (dn ++ ·)) (hd : l.drop p = c :: r) (hc : c ≠ 126) (h2 : (isPl c || decide (c ∈ fr)) = true) :
  und fr l = (und fr (l.drop (p + 1))).map ((dn ++ [c]) ++ ·) := by
 have e : l.drop (p + 1) = r := by rw [← List.drop_drop, hd]; rfl
 rw [hu, hd, fqv hc h2, e, Option.map_map]
 congr 1
 funext x
 simp
theorem oqu (xs : List V) (m k : Int) (h0 : 0 < k) (h : k ≤ xs.length) : ∃ a, a ∈ xs ∧ atI xs (m % k) = some a := by
 have h1 := Int.emod_nonneg m (show k ≠ 0 by omega)
 have h2 := Int.emod_lt_of_pos m h0
 have h3 : (m % k).toNat < xs.length := by omega
 refine ⟨xs[(m % k).toNat], List.getElem_mem _, ?_⟩
 have := aqg (xs := xs) (j := (m % k).toNat) (v := xs[(m % k).toNat]) (by simp [h3])
 rw [Int.toNat_of_nonneg h1] at this
 exact this
def hit (a b c : Nat) : Bool := decide ([hexd (c / 16), hexd (c % 16)] = [PyProof.Rows.lo1 a, PyProof.Rows.lo1 b])
mutual
def smallD : PyData → Bool
 | .str x => decide (x.length ≤ 100000)
 | .list xs => decide (xs.length ≤ 100000) && smallAll xs
 | .tuple xs => decide (xs.length ≤ 100000) && smallAll xs
 | .dict _ => false
 | .none => true
 | .bool _ => true
 | .int _ => true
def smallAll : List PyData → Bool
 | [] => true
 | d :: ds => smallD d && smallAll ds
end
theorem cq8 : ∀ {ds : List PyData} {d : PyData}, smallAll ds = true → d ∈ ds → smallD d = true
 | e :: ds, d, h, hm => by
  simp only [smallAll, Bool.and_eq_true] at h
  rcases List.mem_cons.mp hm with rfl | hm
  ·exact h.1
  ·exact cq8 h.2 hm
theorem gq1 : ∀ {ds : List PyData}, (∀ d ∈ ds, smallD d = true) → smallAll ds = true
 | [], _ => rfl
 | d :: ds, h => by
  simp only [smallAll, Bool.and_eq_true]
  exact ⟨h d List.mem_cons_self, gq1 fun e he => h e (List.mem_cons_of_mem _ he)⟩
theorem eqA {x : Str} (h : smallD (.str x) = true) : x.length ≤ 100000 := by simpa [smallD] using h
theorem gq0 {ds : List PyData} (h : smallD (.tuple ds) = true) : ds.length ≤ 100000 ∧ smallAll ds = true := by simpa [smallD] using h
theorem bqv {ds : List PyData} (h : ds.length ≤ 100000) (h2 : smallAll ds = true) : smallD (.tuple ds) = true := by simp [smallD, h, h2]
def isLet (c : Nat) : Bool := decide (65 ≤ c ∧ c ≤ 90) || decide (97 ≤ c ∧ c ≤ 122)
def isAln (c : Nat) : Bool := isLet c || decide (48 ≤ c ∧ c ≤ 57)
theorem qqb : (Str.ofString " !\"#$&'()*+,-./0123456789:;<=>?@ABCDEFGHIJKLMNOPQRSTUVWXYZ[\\]^_`abcdefghijklmnopqrstuvwxyz{|}~").cps.toList = SG := by decide +kernel
theorem qq7 (c : Nat) : (decide (c ∈ (Str.ofString " !\"#$&'()*+,-./0123456789:;<=>?@ABCDEFGHIJKLMNOPQRSTUVWXYZ[\\]^_`abcdefghijklmnopqrstuvwxyz{|}~").cps.toList)) = isSg c := by
 rw [qqb, Bool.eq_iff_iff, decide_eq_true_eq, oqb]
def tx : PyData → Bool
 | .str x => x.cps.toList.all isSg
 | _ => false
def ftx : PyData → Bool
 | .str x => x.cps.toList.all isSg && decide (0 < x.length)
 | _ => false
def stpD : PyData → Bool
 | .tuple ds => ds.all ftx
 | _ => false
def tupN (n : Int) : PyData → Bool
 | .tuple ds => decide ((ds.length : Int) = n)
 | _ => false
abbrev st (l : List Nat) : PyData := .str ⟨l.toArray⟩
def oD : Option (List Nat) → PyData
 | none => .none
 | some l => st l
def iD : Option Int → PyData
 | none => .none
 | some i => .int i
def qD : Option (List (List Nat × Option (List Nat))) → PyData
 | none => .none
 | some ps => .tuple (ps.map fun p => .tuple [st p.1, oD p.2])
structure Ad where
 scheme : List Nat
 house : Option (List Nat)
 door : Option Int
 rooted : Bool
 steps : List (List Nat)
 ends : Bool
 quest : Option (List (List Nat × Option (List Nat)))
 mark : Option (List Nat)
def Ad.way (x : Ad) : PyData := .tuple [.bool x.rooted, .tuple (x.steps.map st), .bool x.ends]
def Ad.data (x : Ad) : PyData := .tuple [st x.scheme, oD x.house, iD x.door, x.way, qD x.quest, oD x.mark]
def Tx (n : Nat) (l : List Nat) : Prop := l.length ≤ n ∧ ∀ c ∈ l, isSg c = true
structure Ad.Ok (x : Ad) : Prop where
 sch : x.scheme.length ≤ 8 ∧ (∀ c ∈ x.scheme, isAln c = true) ∧ ∀ c ∈ x.scheme.take 1, isLet c = true
 hou : ∀ l, x.house = some l → 0 < l.length ∧ Tx 60 l
 doo : ∀ i, x.door = some i → (0 ≤ i ∧ i ≤ 65535) ∧ x.house ≠ none
 stp : x.steps.length ≤ 50 ∧ ∀ l ∈ x.steps, 0 < l.length ∧ Tx 60 l
 roo : x.scheme ≠ [] ∨ x.house ≠ none → x.rooted = true
 end_ : x.steps = [] → x.ends = x.rooted
 que : ∀ ps, x.quest = some ps → ps.length ≤ 20 ∧ ∀ p ∈ ps, (0 < p.1.length ∧ Tx 6 p.1) ∧ ∀ v, p.2 = some v → Tx 6 v
 mar : ∀ l, x.mark = some l → Tx 60 l
theorem oqr (ds : List PyData) : PyData.eqv (.tuple ds) (.tuple []) = ds.isEmpty := by
 cases ds <;> simp [PyData.eqv, PyData.eqvAll]
theorem jqd {l : List Nat} : ((⟨l.toArray⟩ : Str) = ⟨#[]⟩) ↔ l = [] := cqr (m := [])
def Bad (f : PyData → Bool) (H : Hp) (v : V) : Prop := ∃ d, Is H d v ∧ smallD d = true ∧ f d = false
def Bads (f : PyData → Bool) (H : Hp) (vs : List V) : Prop := ∀ v ∈ vs, Bad f H v
theorem Bads.cons {f : PyData → Bool} {H : Hp} {v : V} {vs : List V} (h : Bad f H v) (r : Bads f H vs) : Bads f H (v :: vs) := fun w hw => by
 rcases List.mem_cons.mp hw with rfl | hw
 ·exact h
 ·exact r w hw
theorem hqv {q : Addr} {H H' : Hp} {o : HO} (hq : H q = none) (sm : Same H H') : Same H (upd H' q o) := fun b u e => by
 rw [aqw (aqo e hq)]; exact sm _ _ e
def dg (i : Int) : List Nat := (Str.ofString (toString i)).cps.toList
def Hd (p : Nat → Bool) (r : List Nat) : Prop := ∀ c r', r = c :: r' → p c = true
theorem Hd.nil {p : Nat → Bool} : Hd p [] := fun c r' h => by cases h
theorem Hd.cons {p : Nat → Bool} {c : Nat} {r : List Nat} (h : p c = true) : Hd p (c :: r) := fun d r' e => by injection e with e; exact e ▸ h
theorem cutL {p : Nat → Bool} : ∀ {u u' r r' : List Nat}, (∀ c ∈ u, p c = false) → (∀ c ∈ u', p c = false) → Hd p r → Hd p r' → u ++ r = u' ++ r' → u = u' ∧ r = r'
 | [], [], r, r', _, _, _, _, e => ⟨rfl, e⟩
 | [], c :: u', r, r', _, h', hr, _, e => by
  have := hr c (u' ++ r') e
  rw [h' c (List.mem_cons_self ..)] at this; cases this
 | c :: u, [], r, r', h, _, _, hr', e => by
  have := hr' c (u ++ r) e.symm
  rw [h c (List.mem_cons_self ..)] at this; cases this
 | c :: u, d :: u', r, r', h, h', hr, hr', e => by
  simp only [List.cons_append, List.cons.injEq] at e
  obtain ⟨e1, e2⟩ := cutL (fun x hx => h x (List.mem_cons_of_mem _ hx)) (fun x hx => h' x (List.mem_cons_of_mem _ hx)) hr hr' e.2
  exact ⟨by rw [e.1, e1], e2⟩
def wch (c : Nat) : Bool := isPl c || decide (c = 126)
def tlT (sep : Nat) : List (List Nat) → List Nat
 | [] => []
 | s :: r => sep :: (s ++ tlT sep r)
def joinT (sep : Nat) : List (List Nat) → List Nat
 | [] => []
 | s :: r => s ++ tlT sep r
theorem nqg (sep : Nat) (r : List (List Nat)) : Hd (fun c => decide (c = sep)) (tlT sep r) := by
 cases r with
 | nil => exact .nil
 | cons s r => exact .cons (by simp)
def Free (sep : Nat) (ss : List (List Nat)) : Prop := ∀ s ∈ ss, ∀ c ∈ s, c ≠ sep
theorem Free.hd {sep : Nat} {s : List Nat} {ss : List (List Nat)} (h : Free sep (s :: ss)) : ∀ c ∈ s, (fun c => decide (c = sep)) c = false := fun c hc => decide_eq_false (h s (List.mem_cons_self ..) c hc)
theorem Free.tl {sep : Nat} {s : List Nat} {ss : List (List Nat)} (h : Free sep (s :: ss)) : Free sep ss := fun t ht => h t (List.mem_cons_of_mem _ ht)
theorem oqk {sep : Nat} : ∀ {a b : List (List Nat)}, Free sep a → Free sep b → tlT sep a = tlT sep b → a = b
 | [], [], _, _, _ => rfl
 | [], t :: b, _, _, e => by simp [tlT] at e
 | s :: a, [], _, _, e => by simp [tlT] at e
 | s :: a, t :: b, ha, hb, e => by
  simp only [tlT, List.cons.injEq, true_and] at e
  obtain ⟨e1, e2⟩ := cutL ha.hd hb.hd (nqg sep a) (nqg sep b) e
  rw [e1, oqk ha.tl hb.tl e2]
theorem nqI {sep : Nat} {a b : List (List Nat)} (ha : Free sep a) (hb : Free sep b) (na : a ≠ []) (nb : b ≠ []) (e : joinT sep a = joinT sep b) : a = b := by
 match a, b, na, nb with
 | s :: a, t :: b, _, _ =>
  simp only [joinT] at e
  obtain ⟨e1, e2⟩ := cutL ha.hd hb.hd (nqg sep a) (nqg sep b) e
  rw [e1, oqk ha.tl hb.tl e2]
theorem lq5 (sep : Nat) : ∀ (a : List (List Nat)) (s : List Nat), tlT sep (a ++ [s]) = tlT sep a ++ sep :: s
 | [], s => by simp [tlT]
 | t :: a, s => by simp [tlT, lq5 sep a s]
theorem lq9 (sep : Nat) {a : List (List Nat)} (s : List Nat) (h : a ≠ []) : joinT sep (a ++ [s]) = joinT sep a ++ sep :: s := by
 match a, h with
 | t :: a, _ => simp [joinT, lq5]
def oT (sep : Nat) : Option (List Nat) → List Nat
 | none => []
 | some l => sep :: wr l
def pairT (p : List Nat × Option (List Nat)) : List Nat := wr p.1 ++ oT 61 p.2
def queT : Option (List (List Nat × Option (List Nat))) → List Nat
 | none => []
 | some ps => 63 :: joinT 38 (ps.map pairT)
def wayT (r : Bool) (ss : List (List Nat)) (e : Bool) : List Nat := (if r then [47] else []) ++ (joinT 47 (ss.map wr) ++ (if e && !ss.isEmpty then [47] else []))
def dooT : Option Int → List Nat
 | none => []
 | some i => 58 :: dg i
def houT : Option (List Nat) → List Nat
 | none => []
 | some l => 47 :: 47 :: wr l
def schT (s : List Nat) : List Nat := if s = [] then [] else s ++ [58]
def Ad.wayT (x : Ad) : List Nat := Wm.wayT x.rooted x.steps x.ends
def Ad.shw (x : Ad) : List Nat := schT x.scheme ++ (houT x.house ++ (dooT x.door ++ (x.wayT ++ (queT x.quest ++ oT 35 x.mark))))
def PairOk (p : List Nat × Option (List Nat)) : Prop := (0 < p.1.length ∧ ∀ c ∈ p.1, isSg c = true) ∧ ∀ v, p.2 = some v → ∀ c ∈ v, isSg c = true
def StepOk (s : List Nat) : Prop := 0 < s.length ∧ ∀ c ∈ s, isSg c = true
structure Ad.Wf (x : Ad) : Prop where
 sch : x.scheme.length ≤ 8 ∧ (∀ c ∈ x.scheme, isAln c = true) ∧ ∀ c ∈ x.scheme.take 1, isLet c = true
 hou : ∀ l, x.house = some l → (0 < l.length ∧ l.length ≤ 60) ∧ ∀ c ∈ l, isSg c = true
 doo : ∀ i, x.door = some i → (0 ≤ i ∧ i ≤ 65535) ∧ x.house ≠ none
 stp : ∀ s ∈ x.steps, StepOk s
 roo : x.scheme ≠ [] ∨ x.house ≠ none → x.rooted = true
 end_ : x.steps = [] → x.ends = x.rooted
 que : ∀ ps, x.quest = some ps → ∀ p ∈ ps, PairOk p
 mar : ∀ l, x.mark = some l → ∀ c ∈ l, isSg c = true
def Ad.mid (x : Ad) : List Nat := houT x.house ++ (dooT x.door ++ x.wayT)
def Ad.pre (x : Ad) : List Nat := schT x.scheme ++ x.mid
def LayAt (n : Nat) (d : PyData) : Prop := d.canLay0 = true ∧ d.depth ≤ n
theorem LayAt.shaped {n : Nat} {d : PyData} (h : LayAt n d) (hn : n ≤ 64) : SeqAt.shaped d = true := by
 unfold SeqAt.shaped; rw [h.1, decide_eq_true (Nat.le_trans h.2 hn)]; rfl
theorem LayAt.le {n m : Nat} {d : PyData} (h : LayAt n d) (hn : n ≤ m) : LayAt m d := ⟨h.1, Nat.le_trans h.2 hn⟩
theorem layAll {n : Nat} : ∀ {ds : List PyData}, (∀ d ∈ ds, LayAt n d) → PyData.canLayAll0 ds = true ∧ PyData.depthAll ds ≤ n
 | [], _ => ⟨rfl, Nat.zero_le _⟩
 | d :: ds, h => by
  obtain ⟨h1, h2⟩ := layAll (ds := ds) fun e he => h e (List.mem_cons_of_mem _ he)
  have := h d (List.mem_cons_self ..)
  simp only [PyData.canLayAll0, PyData.depthAll, this.1, h1, Bool.and_self, true_and]
  exact Nat.max_le.mpr ⟨this.2, h2⟩
theorem LayAt.tup {n : Nat} {ds : List PyData} (h : ∀ d ∈ ds, LayAt n d) : LayAt (n + 1) (.tuple ds) := by
 obtain ⟨h1, h2⟩ := layAll h
 exact ⟨by simp only [PyData.canLay0, h1], by simp only [PyData.depth]; omega⟩
theorem LayAt.st {l : List Nat} (h : ∀ c ∈ l, isSg c = true) : LayAt 0 (st l) := by
 refine ⟨?_, Nat.le_refl _⟩
 simp only [PyData.canLay0, PyData.strOk, List.all_toArray, List.all_eq_true, decide_eq_true_eq]
 intro c hc
 have := dqV (h c hc)
 omega
theorem LayAt.bool {b : Bool} : LayAt 0 (.bool b) := ⟨rfl, Nat.le_refl _⟩
theorem LayAt.iD {o : Option Int} : LayAt 0 (iD o) := by
 cases o with
 | none => exact ⟨rfl, Nat.le_refl _⟩
 | some l => exact ⟨rfl, Nat.le_refl _⟩
end Wm
namespace Wm
structure Ad.Sz (x : Ad) : Prop where
 stp : ∀ s ∈ x.steps, s.length ≤ 2000
 que : ∀ ps, x.quest = some ps → ps.length ≤ 2000 ∧ ∀ p ∈ ps, p.1.length ≤ 2000 ∧ ∀ v, p.2 = some v → v.length ≤ 2000
 mar : ∀ l, x.mark = some l → l.length ≤ 2000
 num : x.steps.length ≤ 2000
 all : x.shw.length ≤ 90000
theorem oqo (i : Int) : PySem.Str.ofString (toString i) = ⟨(dg i).toArray⟩ := rfl
end Wm
namespace Wm
open PySem L2
theorem kqR (sep : Nat) (ys : List (List Nat)) : Txt.join (⟨[sep].toArray⟩ : Str) (ys.map fun l => (⟨l.toArray⟩ : Str)) = ⟨(joinT sep ys).toArray⟩ := by
 show Builtin.Str.glued _ _ = _
 rw [StrLaws.glued_eq_join]
 induction ys with
 | nil => rfl
 | cons y r ih =>
  cases r with
  | nil =>
   show (⟨y.toArray⟩ : Str) = _
   simp [joinT, tlT]
  | cons z r =>
   show (⟨y.toArray⟩ : Str) ++ (⟨[sep].toArray⟩ : Str) ++ Str.join ⟨[sep].toArray⟩ ((z :: r).map fun l => (⟨l.toArray⟩ : Str)) = _
   rw [ih, cql, cql]
   simp [joinT, tlT]
def slT (r : Bool) (ts : List (List Nat)) (e : Bool) : List Nat := (if r then [47] else []) ++ (joinT 47 ts ++ (if e && !ts.isEmpty then [47] else []))
end Wm
namespace L2
open PySem
end L2
namespace Wm
open PySem L2
abbrev Stp := List Nat
def sUp : Stp := [46, 46]
def sStay : Stp := [46]
def isDot (s : Stp) : Bool := decide (s = sUp) || decide (s = sStay)
theorem jq3 {s : Stp} : isDot s = false ↔ s ≠ sUp ∧ s ≠ sStay := by simp [isDot]
def fwd (r : Bool) (q : Nat × List Stp) (s : Stp) : Nat × List Stp :=
 if s = sUp then (match q.2 with | [] => (if r then q.1 else q.1 + 1, []) | _ :: t => (q.1, t))
 else if s = sStay then q else (q.1, s :: q.2)
def goneS (r : Bool) (ss : List Stp) : List Stp := List.replicate (ss.foldl (fwd r) (0, [])).1 sUp ++ (ss.foldl (fwd r) (0, [])).2.reverse
def lastDot (ss : List Stp) : Bool := match ss.getLast? with | some s => isDot s | none => false
def goneW (r : Bool) (ss : List Stp) (e : Bool) : Bool × List Stp × Bool :=
 if ss = [] then (r, [], e) else if goneS r ss = [] then (r, if r then [] else [sStay], true) else (r, goneS r ss, e || lastDot ss)
def stk (q : Nat × List Stp) : List Stp := List.replicate q.1 sUp ++ q.2.reverse
end Wm
namespace L2
open PySem PySem.Spec PyProof.Rows HT
section
variable {prog : Program} {w : World} {A : Around} {E : Value → Shared → Prop} {s : Shared}
theorem fqM {t sl : Addr} {items : Array Value} {vl vu : Value} {lo hi : Option Int} {Q : Value → Shared → Prop} (ht : IsTup s.heap t items) (hs : s.heap.IsSliceOf sl vl vu .none) (pl : IsPart vl lo) (pu : IsPart vu hi)
  (hw : sIx items.size 0 lo = 0 ∧ sIx items.size items.size hi = items.size) (h : Q (.ref t) s) : wpAny (model prog w) A (getItem (.ref t) (.ref sl)) Q E s := by
 obtain ⟨os, hos, hcs, hds⟩ := id hs
 have hTs : s.TypeIs (.ref sl) "slice" := ⟨os, hos, hcs⟩
 unfold getItem
 try with_reducible refine wpAny_holding ?_
 first | refine wpAny_bind (wpAny_pure ?_) | skip
 refine wpAny_bind (wpAny_sequenceKey ht.typeIs (by decide) ?_)
 refine wpAny_bind (wpAny_callSpecial?_slot (name := Str.ofString "__getitem__") ht.typeIs PyProof.Rows.slot_tuple_getitem
  (wpAny_call_entry PyProof.Rows.slot_tuple_getitem ht.typeIs entry_tuple_getitem ?_ (args_tuple_getitem _ _)))
 show wpAny _ _ (Builtin.Tuple.tupleItemsOf (.ref t) >>= _) _ _ s
 refine wpAny_bind (tupleItemsOf_ ht ?_)
 refine wpAny_bind (wpAny_typeOf hTs ?_)
 rw [if_pos (by decide)]
 refine wpAny_bind (dq3 hs pl pu ?_)
 show wpAny _ _ (if (((sIx items.size 0 lo : Nat) : Int) == 0 && (1 : Int) == 1 && (sIx items.size items.size hi - sIx items.size 0 lo) == items.size) = true then _ else _) _ _ s
 rw [if_pos (by rw [hw.1, hw.2]; simp)]
 refine wpAny_bind ?_
 show wpAny _ _ (typeOf (.ref t) >>= _) _ _ s
 refine wpAny_bind (wpAny_typeOf ht.typeIs (wpAny_pure ?_))
 rw [if_pos (by decide)]
 exact wpAny_bind (wpAny_rule (wpAny_pure ⟨_, rfl, wpAny_pure h⟩))
end
section
variable {X : Cx} {K : PySem.W.Frag}
def rSlTA : V → Option Int → Option Int → Hp → VK → Prop := fun x lo hi H Q => ∃ a xs, x = .ref a ∧ H a = some (.tup xs) ∧ ∀ p H', Same H H' → H' p = some (.tup (cutV xs lo hi)) → Q (.ref p) H'
theorem lqD {xs : List V} {lo hi : Option Int} (h : sIx xs.length 0 lo = 0 ∧ sIx xs.length xs.length hi = xs.length) : cutV xs lo hi = xs := by
 unfold cutV
 rw [h.1, h.2, List.drop_zero, Nat.sub_zero, List.take_length]
theorem oqQ : SlR X rSlTA := by
 intro pins s σ H x v vl vu lo hi sl Q I rx hs pl pu h
 obtain ⟨a, xs, rfl, hx, q⟩ := h
 by_cases hw : sIx xs.length 0 lo = 0 ∧ sIx xs.length xs.length hi = xs.length
 ·cases rx
  obtain ⟨its, r, ht, hz⟩ := I.tuple (SqT.of hx)
  have hlen : its.toArray.size = xs.length := by rw [List.size_toArray]; exact r.length.symm
  refine ⟨"tuple", _, PyProof.Rows.slot_tuple_getitem.lookup, ht.typeIs, ?_⟩
  exact fqM ht hs pl pu (by rw [hlen]; exact hw) ⟨.ref a, H, I, rfl, q a H (Same.refl _) (by rw [lqD hw]; exact hx)⟩
 ·exact rqv pins s σ H _ v vl vu lo hi sl Q I rx hs pl pu ⟨a, xs, rfl, SqT.of hx, hw, fun p hp => q p _ (aqG hp) aqk⟩
theorem mq7 {a : Addr} {lo hi : Option Int} {H : Hp} {Q : VK} : rSlTA (.ref a) lo hi H Q ↔ ∃ xs, H a = some (.tup xs) ∧ ∀ p H', Same H H' → H' p = some (.tup (cutV xs lo hi)) → Q (.ref p) H' := by
 constructor
 ·rintro ⟨p, bs, h1, h2⟩; cases h1; exact ⟨bs, h2⟩
 ·rintro ⟨bs, h⟩; exact ⟨a, bs, rfl, h⟩
end
mutual
inductive IsK (K : PySem.W.Frag) (H : Hp) : PyData → V → Prop
 | non : IsK K H .none .non
 | bl (b : Bool) : IsK K H (.bool b) (.bl b)
 | int (i : Int) : IsK K H (.int i) (.int i)
 | str (x : Str) : IsK K H (.str x) (.str x)
 | tup {p : Addr} {xs : List V} {ds : List PyData} : SqT K H p xs → IsKAll K H ds xs → IsK K H (.tuple ds) (.ref p)
inductive IsKAll (K : PySem.W.Frag) (H : Hp) : List PyData → List V → Prop
 | nil : IsKAll K H [] []
 | cons {d : PyData} {x : V} {ds : List PyData} {xs : List V} : IsK K H d x → IsKAll K H ds xs → IsKAll K H (d :: ds) (x :: xs)
end
section
variable {K : PySem.W.Frag} {H H' : Hp}
mutual
theorem IsK.mono (sm : Same H H') : ∀ {d : PyData} {x : V}, IsK K H d x → IsK K H' d x
 | _, _, .non => .non
 | _, _, .bl b => .bl b
 | _, _, .int i => .int i
 | _, _, .str x => .str x
 | _, _, .tup h r => .tup (sm.tup h) (IsKAll.mono sm r)
theorem IsKAll.mono (sm : Same H H') : ∀ {ds : List PyData} {xs : List V}, IsKAll K H ds xs → IsKAll K H' ds xs
 | _, _, .nil => .nil
 | _, _, .cons h r => .cons (IsK.mono sm h) (IsKAll.mono sm r)
end
mutual
theorem IsT.k : ∀ {d : PyData} {x : V}, IsT H d x → IsK K H d x
 | _, _, .non => .non
 | _, _, .bl b => .bl b
 | _, _, .int i => .int i
 | _, _, .str x => .str x
 | _, _, .tup h r => .tup (SqT.of h) (IsTAll.k r)
theorem IsTAll.k : ∀ {ds : List PyData} {xs : List V}, IsTAll H ds xs → IsKAll K H ds xs
 | _, _, .nil => .nil
 | _, _, .cons h r => .cons (IsT.k h) (IsTAll.k r)
end
end
section
variable {X : Cx} {pins : List (Addr × Obj)} {σ : St} {H : Hp} {s : Shared}
mutual
theorem IsK.reads (I : Inv X pins σ H s) : ∀ {d : PyData} {x : V} {v : Value}, IsK X.K H d x → RelV x v → ∃ as, Reads s.heap v d as
 | _, _, _, .non, r => by cases r; exact ⟨_, .none⟩
 | _, _, _, .bl b, r => by cases r; exact ⟨_, .bool b⟩
 | _, _, _, .int i, r => by obtain ⟨t, rfl⟩ := r; exact ⟨_, .int i t⟩
 | _, _, _, .str x, r => by obtain ⟨t, rfl⟩ := r; exact ⟨_, .str x t⟩
 | _, _, _, .tup h q, r => by
  cases r
  obtain ⟨its, vs, ⟨o, e, c, n, dt⟩, _⟩ := I.tuple h
  obtain ⟨as, ra⟩ := IsKAll.reads I q vs
  exact ⟨_, .tuple e c dt (by simpa using ra)⟩
theorem IsKAll.reads (I : Inv X pins σ H s) : ∀ {ds : List PyData} {xs : List V} {vs : List Value}, IsKAll X.K H ds xs → Vals xs vs → ∃ as, ReadsAll s.heap vs ds as
 | _, _, _, .nil, r => by cases r; exact ⟨_, .nil⟩
 | _, _, _, .cons q t, r => by
  cases r with
  | cons r1 r2 =>
   obtain ⟨as, h1⟩ := IsK.reads I q r1
   obtain ⟨bs, h2⟩ := IsKAll.reads I t r2
   exact ⟨_, .cons h1 h2⟩
end
variable {K : PySem.W.Frag}
def rSlX (K : PySem.W.Frag) : V → Option Int → Option Int → Hp → VK → Prop := fun x lo hi H Q => ∃ a xs, x = .ref a ∧ SqT K H a xs ∧ ∀ p H', Same H H' → SqT K H' p (cutV xs lo hi) → Q (.ref p) H'
theorem pqW {a : Addr} {lo hi : Option Int} {H : Hp} {Q : VK} : rSlX K (.ref a) lo hi H Q ↔ ∃ xs, SqT K H a xs ∧ ∀ p H', Same H H' → SqT K H' p (cutV xs lo hi) → Q (.ref p) H' := by
 constructor
 ·rintro ⟨p, bs, h1, h2⟩; cases h1; exact ⟨bs, h2⟩
 ·rintro ⟨bs, h⟩; exact ⟨a, bs, rfl, h⟩
def rCatX (K : PySem.W.Frag) : R2 := fun x y H Q => ∃ a b xs ys, x = .ref a ∧ y = .ref b ∧ SqT K H a xs ∧ SqT K H b ys ∧ xs.length + ys.length ≤ sizeLine ∧ ∀ p H', Same H H' → SqT K H' p (xs ++ ys) → Q (.ref p) H'
theorem nqh {a b : Addr} {H : Hp} {Q : VK} : rCatX K (.ref a) (.ref b) H Q ↔ ∃ xs ys, SqT K H a xs ∧ SqT K H b ys ∧ xs.length + ys.length ≤ sizeLine ∧ ∀ p H', Same H H' → SqT K H' p (xs ++ ys) → Q (.ref p) H' := by
 constructor
 ·rintro ⟨p, p', xs, ys, h1, h2, h3⟩; cases h1; cases h2; exact ⟨xs, ys, h3⟩
 ·rintro ⟨xs, ys, h⟩; exact ⟨a, b, xs, ys, rfl, rfl, h⟩
def KindK (K : PySem.W.Frag) (H : Hp) (x : V) (k : String) : Prop := kindV x H = some k ∨ ∃ a xs, x = .ref a ∧ SqT K H a xs ∧ k = "tuple"
theorem KindK.tup {K : PySem.W.Frag} {H : Hp} {a : Addr} {xs : List V} (h : SqT K H a xs) : KindK K H (.ref a) "tuple" := .inr ⟨a, xs, rfl, h, rfl⟩
def rIsiX (K : PySem.W.Frag) : List V → Hp → VK → Prop := fun vs H Q => match vs with
 | [x, .ty T] => ∃ k, KindK K H x k ∧ T ∈ ["bool", "int", "str", "list", "tuple"] ∧ Q (.bl (subT k T)) H
 | _ => False
theorem nq6 {x : V} {T : String} {H : Hp} {Q : VK} : (rIsiX K [x, .ty T] H Q) = (∃ k, KindK K H x k ∧ T ∈ ["bool", "int", "str", "list", "tuple"] ∧ Q (.bl (subT k T)) H) := rfl
end
end L2
namespace Wm
open PySem L2
section
variable {K : PySem.W.Frag} {H : Hp}
end
end Wm
namespace L2
open PySem PySem.Spec PyProof.Rows
def pickV {α : Type} (xs : List α) (lo hi st : Option Int) : List α :=
 (sliceRange (sliceBounds lo hi st xs.length).1 (sliceBounds lo hi st xs.length).2.1 (sliceBounds lo hi st xs.length).2.2).filterMap fun i => xs[i]?
section
variable {X : Cx}
def tSl3 (K : PySem.W.Frag) (te : TE) (tl th ts : TO) : TE := fun σ H Q => te σ H fun x H1 => tl σ H1 fun l H2 => th σ H2 fun u H3 => ts σ H3 fun k H4 =>
 ∃ a xs, x = .ref a ∧ SqL K H4 a xs ∧ k ≠ some 0 ∧ (pickV xs l u k).length ≤ sizeLine ∧ ∀ p, H4 p = none → Q (.ref p) (upd H4 p (.lst (pickV xs l u k)))
end
theorem pq7 {K : PySem.W.Frag} {te : TE} {tl th ts : TO} {σ : St} {H : Hp} {Q : VK} : tSl3 K te tl th ts σ H Q ↔ te σ H fun x H1 => tl σ H1 fun l H2 => th σ H2 fun u H3 => ts σ H3 fun k H4 =>
 ∃ a xs, x = .ref a ∧ SqL K H4 a xs ∧ k ≠ some 0 ∧ (pickV xs l u k).length ≤ sizeLine ∧ ∀ p, H4 p = none → Q (.ref p) (upd H4 p (.lst (pickV xs l u k))) := Iff.rfl
end L2
namespace Wm
open PySem L2
abbrev Way := Bool × List Stp × Bool
def Ad.w (x : Ad) : Way := (x.rooted, x.steps, x.ends)
def Ad.withWay (x : Ad) (w : Way) : Ad := { x with rooted := w.1, steps := w.2.1, ends := w.2.2 }
def goneV (w : Way) : Way := goneW w.1 w.2.1 w.2.2
def Ad.gone (x : Ad) : Ad := x.withWay (goneV x.w)
theorem qqg {l : Addr} {H : Hp} {Q : VK} : rReverse (.ref l) [] H Q ↔ ∃ xs, H l = some (.lst xs) ∧ Q .non (upd H l (.lst xs.reverse)) :=
 ⟨fun ⟨_, xs, e, _, h, q⟩ => by cases e; exact ⟨xs, h, q⟩, fun ⟨xs, h, q⟩ => ⟨l, xs, rfl, rfl, h, q⟩⟩
abbrev sV (l : List Nat) : V := .str ⟨l.toArray⟩
theorem iqY (ds : List PyData) : PyData.eqv (.list ds) (.list []) = ds.isEmpty := by
 cases ds <;> simp [PyData.eqv, PyData.eqvAll]
theorem kqE {α : Type} {l : List α} {s : α} (g : α → V) (h : l.getLast? = some s) : atI (l.map g) (-1) = some (g s) := by
 obtain ⟨pre, rfl⟩ := List.getLast?_eq_some_iff.mp h
 have e : ixN ((pre ++ [s]).map g).length (-1) = some pre.length := by
  unfold ixN
  simp
  try omega
 unfold atI
 rw [e]
 simp
theorem oq5 (s : Stp) : inV (sV s) [sV sStay, sV sUp] = isDot s := by
 have e : ∀ a : Stp, eqV (sV a) (sV s) = decide (s = a) := fun a => by
  show ((⟨a.toArray⟩ : Str) == ⟨s.toArray⟩) = decide (s = a)
  rw [Bool.eq_iff_iff, beq_iff_eq, decide_eq_true_eq, cqr]
  exact ⟨Eq.symm, Eq.symm⟩
 unfold inV isDot
 simp only [List.any_cons, List.any_nil, Bool.or_false, e]
 rw [Bool.or_comm]
end Wm
namespace L2
open PySem
theorem gqc {X : Cx} {K : PySem.W.Frag} (h : X.K = K) : OpR X (compareOp .In) (rIn K false) := by subst h; exact mqQ
theorem qqZ {l : Addr} {H : Hp} {Q : VK} : rPop (.ref l) [] H Q ↔ ∃ xs y, H l = some (.lst xs) ∧ xs[xs.length - 1]? = some y ∧ Q y (upd H l (.lst xs.dropLast)) :=
 ⟨fun ⟨_, xs, y, h1, _, h3, h4, h5⟩ => by cases h1; exact ⟨xs, y, h3, h4, h5⟩, fun ⟨xs, y, h3, h4, h5⟩ => ⟨_, xs, y, rfl, rfl, h3, h4, h5⟩⟩
theorem nqd {D : Ends} {σ : St} {H : Hp} : (tNever D σ H) = (False) := rfl
end L2
namespace Wm
open PySem L2
structure Ad.Tiny (x : Ad) : Prop where
 stp : ∀ s ∈ x.steps, s.length ≤ 9
 que : ∀ ps, x.quest = some ps → ps.length ≤ 3 ∧ ∀ p ∈ ps, p.1.length ≤ 5 ∧ ∀ v, p.2 = some v → v.length ≤ 6
 mar : ∀ l, x.mark = some l → l.length ≤ 7
 hou : ∀ l, x.house = some l → l.length ≤ 13
end Wm
namespace Wm
end Wm
namespace Wm
open PySem L2
def cutA {α : Type} (xs : List α) (lo hi : Option Int) : List α := (xs.drop (HT.sIx xs.length 0 lo)).take (HT.sIx xs.length xs.length hi - HT.sIx xs.length 0 lo)
theorem nqc {α : Type} (f : α → V) (xs : List α) (lo hi : Option Int) : cutV (xs.map f) lo hi = (cutA xs lo hi).map f := by
 unfold cutV cutA; rw [List.length_map, List.map_take, List.map_drop]
theorem pqT {α : Type} (xs : List α) {n : Nat} {i : Int} (h : HT.sIx xs.length xs.length (some i) = n) : cutA xs none (some i) = xs.take n := by
 unfold cutA
 rw [h, show HT.sIx xs.length 0 none = 0 from rfl, List.drop_zero, Nat.sub_zero]
theorem lqw {α : Type} (xs : List α) : cutA xs none (some (-1)) = xs.dropLast := by
 rw [pqT (n := xs.length - 1), List.dropLast_eq_take]
 show (if (-1 : Int) < 0 then ((-1 : Int) + (xs.length : Int)).toNat else min (-1 : Int).toNat xs.length) = _
 rw [if_pos (by decide)]; omega
end Wm
namespace L2
open PySem
end L2
namespace Wm
open PySem L2
section
variable {H : Hp}
end
theorem Ad.Wf.local {x : Ad} (h : x.Wf) : ({ x with scheme := [], house := none, door := none } : Ad).Wf :=
 ⟨⟨Nat.zero_le _, (fun c hc => by cases hc), (fun c hc => by cases hc)⟩, (fun l e => by cases e), (fun l e => by cases e), h.stp, (fun z => z.elim (fun y => absurd rfl y) (fun y => absurd rfl y)), h.end_, h.que, h.mar⟩
def Goods (n : Nat) (H : Hp) (vs : List V) : Prop := ∀ v ∈ vs, ∃ x : Ad, x.Wf ∧ x.steps.length ≤ n ∧ IsT H x.data v
theorem Goods.cons {n : Nat} {H : Hp} {v : V} {vs : List V} {x : Ad} (h1 : x.Wf) (h2 : x.steps.length ≤ n) (h3 : IsT H x.data v) (h : Goods n H vs) : Goods n H (v :: vs) := fun u hu => by
 rcases List.mem_cons.mp hu with rfl | hu
 ·exact ⟨x, h1, h2, h3⟩
 ·exact h u hu
end Wm
namespace L2
open PySem PySem.Spec PyProof.Rows
theorem rqR {b c : Bool} {H : Hp} {Q : VK} : (rIsB true (.bl b) (.bl c) H Q) = (Q (.bl (!decide (b = c))) H) := rfl
end L2
namespace Wm
open PySem L2
structure GoodAd (n : Nat) (x : Ad) : Prop where
 wf : x.Wf
 ti : x.Tiny
 sc : x.scheme ≠ []
 ln : x.steps.length ≤ n
end Wm
namespace L2
open PySem PySem.Spec PyProof.Rows
section
variable {prog : Program} {w : World} {A : Around} {E : Value → Shared → Prop} {s : Shared}
end
def Itv (K : PySem.W.Frag) (a : Addr) (n : Nat) : It :=
 ⟨fun i H => ∃ xs x, SqT K H a xs ∧ xs.length = n ∧ i < n ∧ xs[n - 1 - i]? = some x, fun i H x H' => H' = H ∧ ∀ xs, SqT K H a xs → xs.length = n → xs[n - 1 - i]? = some x, fun i _ => n ≤ i⟩
section
variable {X : Cx} {tg : Expr} {K : PySem.W.Frag}
def iRev (K : PySem.W.Frag) (ta : TA) : TI := fun σ H R => ta σ H fun vs H1 => ∃ a xs, vs = [.ref a] ∧ SqT K H1 a xs ∧ R (Itv K a xs.length) H1
variable {σ : St} {H : Hp} {D : Ends} {g : TG} {tb : TS} {aa : TA}
theorem oqI : (tFor (iRev K aa) g tb D σ H) = (aa σ H fun vs H1 => ∃ a xs, vs = [.ref a] ∧ SqT K H1 a xs ∧ LoopI (Itv K a xs.length) g tb D σ H1) := rfl
end
section
variable {X : Cx}
def rRepT : R2 := fun x y H Q => ∃ a k xs, x = .ref a ∧ y = .int k ∧ H a = some (.tup xs) ∧ 2 ≤ k ∧ k < 1000 ∧ xs.length * k.toNat ≤ sizeLine ∧ ∀ p H', Same H H' → H' p = some (.tup (List.replicate k.toNat xs).flatten) → Q (.ref p) H'
theorem nqm {a : Addr} {k : Int} {H : Hp} {Q : VK} : rRepT (.ref a) (.int k) H Q ↔ ∃ xs, H a = some (.tup xs) ∧ 2 ≤ k ∧ k < 1000 ∧ xs.length * k.toNat ≤ sizeLine ∧ ∀ p H', Same H H' → H' p = some (.tup (List.replicate k.toNat xs).flatten) → Q (.ref p) H' := by
 constructor
 ·rintro ⟨a', k', xs, h1, h2, h⟩; cases h1; cases h2; exact ⟨xs, h⟩
 ·rintro ⟨xs, h⟩; exact ⟨a, k, xs, rfl, rfl, h⟩
def rRepS : R2 := fun x y H Q => ∃ l k xs, x = .ref l ∧ y = .int k ∧ H l = some (.lst xs) ∧ 0 ≤ k ∧ k < 1000000 ∧ xs.length * k.toNat ≤ sizeLine ∧ ∀ p H', H p = none → Same H H' → H' p = some (.lst (List.replicate k.toNat xs).flatten) → Q (.ref p) H'
theorem nq1 {a : Addr} {k : Int} {H : Hp} {Q : VK} : rRepS (.ref a) (.int k) H Q ↔ ∃ xs, H a = some (.lst xs) ∧ 0 ≤ k ∧ k < 1000000 ∧ xs.length * k.toNat ≤ sizeLine ∧ ∀ p H', H p = none → Same H H' → H' p = some (.lst (List.replicate k.toNat xs).flatten) → Q (.ref p) H' := by
 constructor
 ·rintro ⟨a', k', xs, h1, h2, h⟩; cases h1; cases h2; exact ⟨xs, h⟩
 ·rintro ⟨xs, h⟩; exact ⟨a, k, xs, rfl, rfl, h⟩
end
section
variable {X : Cx}
def rRepN : R2 := fun x y H Q => ∃ a k xs, x = .ref a ∧ y = .int k ∧ H a = some (.tup xs) ∧ 0 ≤ k ∧ k < 1000 ∧ xs.length * k.toNat ≤ sizeLine ∧ ∀ p H', Same H H' → H' p = some (.tup (List.replicate k.toNat xs).flatten) → Q (.ref p) H'
theorem nqo {a : Addr} {k : Int} {H : Hp} {Q : VK} : rRepN (.ref a) (.int k) H Q ↔ ∃ xs, H a = some (.tup xs) ∧ 0 ≤ k ∧ k < 1000 ∧ xs.length * k.toNat ≤ sizeLine ∧ ∀ p H', Same H H' → H' p = some (.tup (List.replicate k.toNat xs).flatten) → Q (.ref p) H' := by
 constructor
 ·rintro ⟨a', k', xs, h1, h2, h⟩; cases h1; cases h2; exact ⟨xs, h⟩
 ·rintro ⟨xs, h⟩; exact ⟨a, k, xs, rfl, rfl, h⟩
end
section
variable {X : Cx}
def intsV (lo : Int) (n : Nat) : List V := (List.range n).map fun k => .int (lo + (k : Nat))
def tLR (ta : TA) : TE := fun σ H Q => ta σ H fun vs H1 => ∃ j : Int, vs = [.int j] ∧ 0 ≤ j ∧ j ≤ 1000000 ∧ ∀ p, H1 p = none → Q (.ref p) (upd H1 p (.lst (intsV 0 j.toNat)))
end
theorem rqD {ta : TA} {σ : St} {H : Hp} {Q : VK} : (tLR ta σ H Q) = (ta σ H fun vs H1 => ∃ j : Int, vs = [.int j] ∧ 0 ≤ j ∧ j ≤ 1000000 ∧ ∀ p, H1 p = none → Q (.ref p) (upd H1 p (.lst (intsV 0 j.toNat)))) := rfl
end L2
namespace L2
open PySem
section
variable {p : Addr} {fv : St} {tt : TT} {te : TE} {Q : VK} {H1 : Hp} {K : PySem.W.Frag}
end
end L2
namespace L2
open PySem PySem.Spec PyProof.Rows
section
variable {X : Cx} {pins : List (Addr × Obj)} {σ : St} {H1 : Hp} {s3 : Shared} {x x2 : Str} {fx : List Str} {fr : List Nat} {scope : Scope} {cl : List (Str × Addr)} {fp : List Addr}
theorem nqF (I : Inv X pins σ H1 s3) (hkind : scope.kind = .function) (hcl : ∀ y c, cl.lookup y = some c → X.env.cells.lookup y = some c)
  (F : Frees X (relabel scope X.env) cl fx fr) (hfx : ((relabel scope X.env).names.all fun p => if (p.2 == .cell || p.2 == .free) then fx.contains p.1 else true) = true)
  (ffp : ∀ b ∈ fp, FpOk X pins H1 b) (flt : ∀ b ∈ fp, b < s3.heap.objs.size) : (compCx X (x :: x2 :: fx) scope cl s3 H1 fp).Ok where
 mod := I.ok.mod
 kind := hkind
 glob := I.ok.glob
 blt := I.ok.blt
 above := Nat.le_refl _
 inj := fun y z c h1 h2 => I.ok.inj y z c (hcl y c h1) (hcl z c h2)
 has := fun y h => by
  have h : (relabel scope X.env).names.lookup y = some .cell ∨ (relabel scope X.env).names.lookup y = some .free := h
  have key : y ∈ fx := by
   rcases h with h | h
   ·have q := List.all_eq_true.mp hfx _ (PySem.mem_of_lookup h)
    simpa using q
   ·have q := List.all_eq_true.mp hfx _ (PySem.mem_of_lookup h)
    simpa using q
  obtain ⟨k1, k2⟩ := F.mem y key
  obtain ⟨c, e⟩ := I.ok.has y (.inl k1)
  exact ⟨c, k2.trans e⟩
 cab := fun y c h => by cases (show false = true from h)
 hd := I.ok.hd
 frames := I.ok.frames
 stk := .inl rfl
 exf := fun b hb => ⟨Nat.ne_of_lt (flt b hb), fun y c e => (ffp b hb).2.2.2.2.1 y c (hcl y c e)⟩
 bs := I.bs
 bsz := Nat.le_trans I.ok.bsz I.sz
 noex := fun b o e hb => by
  rcases (ffp b hb).2.2.2.1 with z | z
  ·exact I.ok.noex b o e z
  ·exact absurd (Nat.lt_of_lt_of_le (Heap.lt_size (I.ok.bs b o e).1) z) (Nat.lt_irrefl _)
 exfs := fun b hb z => by
  rcases List.mem_cons.mp (I.stkSub b z) with q | q
  ·exact (ffp b hb).2.1 q
  ·exact (ffp b hb).2.2.1 q
 funs := I.stack
 frf := I.stkFree
theorem kqs (I : Inv X pins σ H1 s3) (hkind : scope.kind = .function) (hcl : ∀ y c, cl.lookup y = some c → X.env.cells.lookup y = some c)
  (F : Frees X (relabel scope X.env) cl fx fr) (hfx : ((relabel scope X.env).names.all fun p => if (p.2 == .cell || p.2 == .free) then fx.contains p.1 else true) = true)
  (ffp : ∀ b ∈ fp, FpOk X pins H1 b) (flt : ∀ b ∈ fp, b < s3.heap.objs.size) {h1 : Heap} {t : Nat} {m : Str → Option Value} (hn : h1.Ns s3.heap.objs.size m)
  (keep : ∀ b u, s3.heap.get? b = some u → h1.get? b = some u) : Inv (compCx X (x :: x2 :: fx) scope cl s3 H1 fp) [] (none :: none :: frV σ fr) H1 { s3 with heap := h1, toks := t } := by
 refine ⟨nqF I hkind hcl F hfx ffp flt, rfl, I.bare, Un.kept keep, ⟨m, hn, fun i y v e1 e2 e3 => ?_⟩, fun y c e => ?_, I.hok.fresh (Nat.le_refl _), fun y c e => I.freeC y c (hcl y c e), fun p hp => absurd (show p ∈ ([] : List (Addr × Obj)) from hp) (by simp), I.hok.kept keep, ?_⟩
 ·cases i with
  | zero => simp at e2
  | succ j =>
   cases j with
   | zero => simp at e2
   | succ j =>
    obtain ⟨i0, k1, k2, k3, k4, k5⟩ := F.at (σ := σ) j y v (by simpa [compCx] using e1) (by simpa using e2)
    obtain ⟨m0, hn0, hl0⟩ := I.loc
    obtain ⟨u, r, l⟩ := hl0 i0 y v k1 k2 (.inr (.inl k3))
    refine ⟨u, r, ?_⟩
    rcases l with ⟨z, _⟩ | ⟨_, c, e, o, ho, hd⟩
    ·rw [k3] at z; cases z
    ·exact .inr ⟨.inl k4, c, k5.trans e, o, keep c o ho, hd⟩
 ·obtain ⟨v, o, ho, hd⟩ := I.cell y c (hcl y c e)
  exact ⟨v, o, keep c o ho, hd⟩
 ·show (none :: none :: frV σ fr).length = (x :: x2 :: fx).length
  simp [frV, F.len]
end
def CompI2 (K : PySem.W.Frag) (J : It) (p : Addr) (fv : St) (tt : TT) (te : TE) (Q : VK) (H1 : Hp) : Prop :=
 ∃ W : Nat → Nat → List V → Hp → Prop, (∃ m, W 0 m [] (upd H1 p (.lst []))) ∧ ∀ i m ys H2, W i m ys H2 → H2 p = some (.lst ys) ∧
  ((J.stop i H2 ∧ Q (.ref p) H2) ∨ (J.go i H2 ∧ ys.length < sizeLine ∧ ∀ z H3, J.yld i H2 z H3 → ∃ a x y, z = .ref a ∧ SqT K H3 a [x, y] ∧ tt (some x :: some y :: fv) H3 fun b H4 =>
   if b = true then te (some x :: some y :: fv) H4 fun y H5 => H5 p = some (.lst ys) ∧ ∃ m', m' < m ∧ W (i + 1) m' (ys ++ [y]) (upd H5 p (.lst (ys ++ [y])))
   else ∃ m', m' < m ∧ W (i + 1) m' ys H4))
def tComp2 (K : PySem.W.Frag) (wi : TI) (fr : List Nat) (tt : TT) (te : TE) : TE := fun σ H Q => wi σ H fun J H1 => ∀ p, H1 p = none → CompI2 K J p (frV σ fr) tt te Q H1
section
variable {X : Cx} {elt iter : Expr} {x x2 : Str} {px px2 ptx pos : Pos} {kx : Nat} {ifs : List Expr} {scope : Scope} {cl : List (Str × Addr)} {fx : List Str} {fr : List Nat} {wi : TI} {tt : TT} {te : TE}
theorem jq2 {pins : List (Addr × Obj)} {σ : St} {H3 : Hp} {s3 : Shared} {it p : Addr} {fp : List Addr} {tn : Nat → Heap → Prop} {J : It} {Q : VK} {W : Nat → Nat → List V → Hp → Prop} {m0 t : Nat} {h₁ : Heap} {m : Str → Option Value} {RR : Result → Shared → Prop}
  (hc : X.calm = true) (hkind : scope.kind = .function) (hx : scope.names.lookup x = some .local) (hx2 : scope.names.lookup x2 = some .local) (hnd : (x :: x2 :: fx).Nodup)
  (hcl : ∀ y c, cl.lookup y = some c → X.env.cells.lookup y = some c) (F : Frees X (relabel scope X.env) cl fx fr)
  (hfx : ((relabel scope X.env).names.all fun p => if (p.2 == .cell || p.2 == .free) then fx.contains p.1 else true) = true)
  (ht : ∀ s H fp, PF (compCx X (x :: x2 :: fx) scope cl s H fp) ifs tt) (he : ∀ s H fp, PE (compCx X (x :: x2 :: fx) scope cl s H fp) elt te)
  (I3 : Inv X pins σ H3 s3) (T : Turn X.prog X.w X.K (.Tuple [.Name x px, .Name x2 px2] kx ptx) J fp it tn) (st3 : tn 0 s3.heap) (ffp : ∀ b ∈ fp, FpOk X pins H3 b) (flt3 : ∀ b ∈ fp, b < s3.heap.objs.size)
  (w0 : W 0 m0 [] H3) (turn : ∀ i m ys H2, W i m ys H2 → H2 p = some (.lst ys) ∧
   ((J.stop i H2 ∧ Q (.ref p) H2) ∨ (J.go i H2 ∧ ys.length < sizeLine ∧ ∀ z H3, J.yld i H2 z H3 → ∃ a x y, z = .ref a ∧ SqT X.K H3 a [x, y] ∧ tt (some x :: some y :: frV σ fr) H3 fun b H4 =>
    if b = true then te (some x :: some y :: frV σ fr) H4 fun y H5 => H5 p = some (.lst ys) ∧ ∃ m', m' < m ∧ W (i + 1) m' (ys ++ [y]) (upd H5 p (.lst (ys ++ [y])))
    else ∃ m', m' < m ∧ W (i + 1) m' ys H4)))
  (hns : h₁.Ns s3.heap.objs.size m) (keep1 : ∀ b u, s3.heap.get? b = some u → h₁.get? b = some u)
  (fin : ∀ s6 H5 o o2, Inv (compCx X (x :: x2 :: fx) scope cl s3 H3 fp) [] (o :: o2 :: frV σ fr) H5 s6 → Q (.ref p) H5 → RR (.ok .next) s6) :
  codeAny (model X.prog X.w) X.A (.compStart (.ListComp elt [⟨.Tuple [.Name x px, .Name x2 px2] kx ptx, iter, ifs, 0⟩] scope pos) 0 (.ref it) (.ref p) (compEnvC scope cl s3.heap.objs.size X.env))
   RR { s3 with heap := h₁, toks := t } := by
 have I4 := kqs (x := x) (x2 := x2) (t := t) I3 hkind hcl F hfx ffp flt3 hns keep1
 have st4 : tn 0 h₁ := T.keep _ _ _ st3 fun b hb o e => keep1 b o e
 have fp0 : ∀ b ∈ fp, H3 b = none := fun b hb => (ffp b hb).1
 have hcal : (compCx X (x :: x2 :: fx) scope cl s3 H3 fp).calm = true := hc
 have stat : ∀ {H' : Hp}, (∀ b ∈ fp, H' b = none) → ∀ b ∈ fp, FpOk (compCx X (x :: x2 :: fx) scope cl s3 H3 fp) [] H' b := fun {H'} hn b hb => by
  obtain ⟨f0, f1, f2, f3, f4, f5⟩ := ffp b hb
  exact ⟨hn b hb, Nat.ne_of_lt (flt3 b hb), I4.ok.exfs b hb, .inl hb, fun y c e => f4 y c (hcl y c e), fun q hq => absurd (show q ∈ ([] : List (Addr × Obj)) from hq) (by simp)⟩
 have hxl : (relabel scope X.env).names.lookup x = some .local := lookup_relabel_local hx
 have hxl2 : (relabel scope X.env).names.lookup x2 = some .local := lookup_relabel_local hx2
 have pg : PG (compCx X (x :: x2 :: fx) scope cl s3 H3 fp) (.Tuple [.Name x px, .Name x2 px2] kx ptx) (gTup X.K 2 (gCons (gName 0) (gCons (gName 1) gNil))) := oql hcal (gqO (dqM (i := 0) hnd rfl (.inl hxl) (.inr hxl)) (gqO (dqM (i := 1) hnd rfl (.inl hxl2) (.inr hxl2)) mqs))
 have loop : codeAny (model X.prog X.w) X.A (.compLoop (.ListComp elt [⟨.Tuple [.Name x px, .Name x2 px2] kx ptx, iter, ifs, 0⟩] scope pos) 0 (.ref it) (.ref p) (compEnvC scope cl s3.heap.objs.size X.env))
    RR { s3 with heap := h₁, toks := t } := by
  refine gqv (fun n s' => ∃ i ys H' o o2, Inv (compCx X (x :: x2 :: fx) scope cl s3 H3 fp) [] (o :: o2 :: frV σ fr) H' s' ∧ tn i s'.heap ∧ (∀ b ∈ fp, H' b = none) ∧ W i n ys H') ?_ m0 ⟨0, [], _, none, none, I4, st4, fp0, w0⟩
  rintro n s5 ⟨i, ys, H5, o, o2, I5, st5, fr5, w5⟩
  obtain ⟨hp5, alt⟩ := turn i n ys H5 w5
  rcases alt with ⟨stop, qn⟩ | ⟨go, hlen, step⟩
  ·refine thn (T.done (compCx X (x :: x2 :: fx) scope cl s3 H3 fp) rfl rfl rfl hcal i [] s5 (o :: o2 :: frV σ fr) H5 _ I5 (stat fr5) st5 stop) fun r s6 W' => ?_
   obtain ⟨hr, I6⟩ := W'
   subst hr
   exact fin s6 H5 o o2 I6 qn
  ·refine thn (T.item (compCx X (x :: x2 :: fx) scope cl s3 H3 fp) rfl rfl rfl hcal i [] s5 (o :: o2 :: frV σ fr) H5 _ I5 (stat fr5) st5 go) fun r s6 W' => ?_
   obtain ⟨u, hr, h6⟩ := W'
   subst hr
   refine thn h6 fun _ s7 W' => ?_
   obtain ⟨y7, H7, I7, r7, yl7, st7, fr7⟩ := W'
   have I7' := I7.pinned (stat fr7) (T.obj _ _ st7)
   have back : ∀ {σ' : St} {H' : Hp} {s' : Shared}, Inv (compCx X (x :: x2 :: fx) scope cl s3 H3 fp) ([] ++ pinsAt fp s7.heap) σ' H' s' → tn (i + 1) s'.heap ∧ ∀ b ∈ fp, H' b = none := fun {σ' H' s'} I' => by
    refine ⟨T.keep _ _ _ st7 fun b hb o e => (I'.pin (b, o) (List.mem_append_right _ (List.mem_append_right _ (cqA hb e)))).1, fun b hb => ?_⟩
    obtain ⟨o, e, d⟩ := T.obj _ _ st7 b hb
    exact (I'.pin (b, o) (List.mem_append_right _ (List.mem_append_right _ (cqA hb e)))).2.1
   obtain ⟨a7, z1, z2, e7, q7, step7⟩ := step y7 _ yl7
   subst e7
   refine thn (pg _ s7 _ H7 (.ref a7) u (fun σ' H' => σ' = some z1 :: some z2 :: frV σ fr ∧ H' = H7) I7' r7 ⟨a7, [z1, z2], rfl, q7, rfl, z1, [z2], rfl, z2, [], rfl, rfl, rfl, rfl⟩) fun _ s8 W' => ?_
   obtain ⟨σ8, H8, I8, e8, e8'⟩ := W'
   subst e8 e8'
   refine thn (ht s3 H3 fp _ s8 _ _ _ I8 step7) fun b s9 W' => ?_
   obtain ⟨H9, I9, q9⟩ := W'
   cases b with
   | false =>
    rw [if_neg Bool.false_ne_true] at q9 ⊢
    obtain ⟨m', hm, w9⟩ := q9
    exact ⟨m', hm, i + 1, ys, H9, some z1, some z2, I9.unpinned, (back I9).1, (back I9).2, w9⟩
   | true =>
    rw [if_pos rfl] at q9 ⊢
    refine thn (he s3 H3 fp _ s9 _ H9 _ I9 q9) fun u10 s10 W' => ?_
    obtain ⟨y10, H10, I10, r10, hp10, m', hm, w10⟩ := W'
    refine thn (fqO _ s10 _ H10 (.ref p) [y10] (.ref p) [u10] (fun _ H' => H' = upd H10 p (.lst (ys ++ [y10]))) I10 rfl (.cons r10 .nil) ⟨p, ys, y10, rfl, rfl, hp10, hlen, rfl⟩) fun _ s11 W' => ?_
    obtain ⟨_, H11, I11, _, e11⟩ := W'
    subst e11
    exact ⟨m', hm, i + 1, ys ++ [y10], _, some z1, some z2, I11.unpinned, (back I11).1, (back I11).2, w10⟩
 exact codeAny_compStart_list loop (T.self _ 0 _ _ _ st4 loop)
theorem nqt {K : PySem.W.Frag} {i : Nat} {y : Str} {py spos : Pos} (hN : X.N.Nodup) (hiN : X.N[i]? = some y) (hy : X.env.scope.names.lookup y = some .local)
  (h : X.K = K) (hc : X.calm = true) (hclos : closureFor scope X.env = pure cl) (hcell : ∀ y ∈ scope.names, y.2 ≠ .cell) (hkind : scope.kind = .function)
  (hnames : ∀ y ∈ scope.names, y.2 = .local → scope.names.lookup y.1 = some .local) (hx : scope.names.lookup x = some .local) (hx2 : scope.names.lookup x2 = some .local) (hnd : (x :: x2 :: fx).Nodup)
  (hk : (cl.all fun q => fx.contains q.1) = true) (F : Frees X (relabel scope X.env) cl fx fr)
  (hfx : ((relabel scope X.env).names.all fun p => if (p.2 == .cell || p.2 == .free) then fx.contains p.1 else true) = true)
  (hi : PI X (.Tuple [.Name x px, .Name x2 px2] kx ptx) iter wi) (ht : ∀ s H fp, PF (compCx X (x :: x2 :: fx) scope cl s H fp) ifs tt) (he : ∀ s H fp, PE (compCx X (x :: x2 :: fx) scope cl s H fp) elt te)
  (hs : ∀ x, foldedSetIterable iter X.env x = pure x := by intro _; rfl) (hsw : swapsWith (.ListComp elt [⟨.Tuple [.Name x px, .Name x2 px2] kx ptx, iter, ifs, 0⟩] scope pos) (some (.Name y py)) spos.line X.env = pure true := by rfl) :
  PS X (.Assign [.Name y py] (.ListComp elt [⟨.Tuple [.Name x px, .Name x2 px2] kx ptx, iter, ifs, 0⟩] scope pos) spos) (tAsg (tComp2 K wi fr tt te) (gName i)) := by
 subst h
 intro pins s σ H D I h
 have hcl : ∀ y c, cl.lookup y = some c → X.env.cells.lookup y = some c := fun y c e => by
  have q := List.all_eq_true.mp hk _ (PySem.mem_of_lookup e)
  rw [← (F.mem y (by simpa using q)).2]
  exact e
 rw [exec_Assign_Name_used _ _ _ _ hsw]
 refine wpAny_bind (wpAny_standAt (wpAny_bind ?_))
 show wpAny _ X.A (do let _ ← comprehension (.ListComp elt [⟨.Tuple [.Name x px, .Name x2 px2] kx ptx, iter, ifs, 0⟩] scope pos) scope X.env _ (newList []) false (eval iter X.env) (some (assign (.Name y py) X.env))) _ _ s
 refine wpAny_bind (wpAny_mono (wpAny_comprehension_free (use := some (assign (.Name y py) X.env)) (Q := fun _ s' => SP X pins D .next s') rfl hs hclos hkind hnames ?_) (fun _ s' hq => wpAny_pure (wpAny_pure hq)) fun _ _ e => e)
 refine thn (hi pins s σ H _ I h) fun v s1 h1 => thn h1 fun itv s2 h2 => ?_
 obtain ⟨it, fp, tn, J, H2, e, I2, T, st2, f2, q2⟩ := h2
 subst e
 have hp0 : H2 s2.heap.objs.size = none := I2.hok.fresh (Nat.le_refl _)
 obtain ⟨W, ⟨m0, w0⟩, turn⟩ := q2 _ hp0
 have flt : ∀ b ∈ fp, b < s2.heap.objs.size := fun b hb => by
  obtain ⟨o, e, _⟩ := T.obj _ _ st2 b hb
  exact Heap.lt_size e
 refine wpAny_newObj_type (wpAny_newFunctionEnv hcell (by intro y hy; simp at hy) (fun h₁ hns₁ hsb₁ => ?_) hkind)
 dsimp only at hns₁ hsb₁ ⊢
 have hlay : ∀ b u, s2.heap.get? b = some u → (s2.heap.push { cls := .type "list", dict := none, data := .seq ([] : List Value).toArray }).get? b = some u := fun b u e => Heap.get?_push_of_some _ e
 have hnew : (s2.heap.push { cls := .type "list", dict := none, data := .seq ([] : List Value).toArray }).get? s2.heap.objs.size = some { cls := .type "list", dict := none, data := .seq ([] : List Value).toArray } := Heap.get?_push_size _ rfl
 have hsz : (s2.heap.push { cls := .type "list", dict := none, data := .seq ([] : List Value).toArray }).objs.size = s2.heap.objs.size + 1 := Heap.size_push _ _
 generalize hHH : s2.heap.push { cls := .type "list", dict := none, data := .seq ([] : List Value).toArray } = HH at hns₁ hsb₁ hlay hnew hsz ⊢
 have I3 : Inv X pins σ (upd H2 s2.heap.objs.size (.lst [])) { s2 with heap := HH, toks := s2.toks } :=
  I2.laid (t' := s2.toks) (o := .lst []) hlay (Nat.le_refl _) ⟨Nat.zero_le _, [], 0, .nil, hnew⟩
 have ffp : ∀ b ∈ fp, FpOk X pins (upd H2 s2.heap.objs.size (.lst [])) b := fun b hb => by
  obtain ⟨f0, fr'⟩ := f2 b hb
  exact ⟨by rw [aqw (Nat.ne_of_lt (flt b hb))]; exact f0, fr'⟩
 have keep1 : ∀ b u, HH.get? b = some u → h₁.get? b = some u := fun b u e => hsb₁.extBut b u (Nat.ne_of_lt (Heap.lt_size e)) (Heap.get?_push_of_some _ e)
 exact jq2 (Q := fun x H1 => gName i x σ H1 D.nx) (s3 := { s2 with heap := HH, toks := s2.toks }) hc hkind hx hx2 hnd hcl F hfx ht he I3 T (T.keep _ _ _ st2 fun b hb o e => hlay b o e) ffp (fun b hb => by show b < HH.objs.size; rw [hsz]; exact Nat.lt_succ_of_lt (flt b hb)) w0 turn hns₁ keep1 fun s6 H5 o o2 I6 qn => by
  have nC : H5 HH.objs.size = none := I6.free
  have I7 : Inv X pins σ H5 s6 := jqJ (h' := s6.heap) I3 I6 ffp ⟨rfl, fun _ _ => rfl⟩
  obtain ⟨f0, f1, f2, f3, f4, f5⟩ := I3.fpOk (H' := H5) (b := HH.objs.size) (Nat.le_refl _) nC
  obtain ⟨m, hn6, _⟩ := id I6.loc
  show wpAny _ X.A (assign (.Name y py) X.env (.ref _)) _ _ s6
  refine wpAny_assign_Name (jqP I7 hN hiN (.inl hy) (v := .ref _) rfl (fun s8 I8 sbx => ?_) (.inr hy))
  obtain ⟨a, sb, ha⟩ := sbx
  have hne : HH.objs.size ≠ a := by
   rcases ha with rfl | ha
   ·exact f1
   ·exact fun z => f4 y a ha z.symm
  refine ⟨m, hn6.sameBut sb hne, fun h' sb' => ?_⟩
  exact ⟨_, H5, I8.turned (t' := s8.toks) (it := HH.objs.size) (fun b o hb e => sb'.extBut b o hb e) f0 f1 f3 f4 f5, qn⟩
end
section
variable {p : Addr} {fv : St} {te : TE} {Q : VK} {H1 : Hp} {K : PySem.W.Frag}
theorem lqG {tl : TE} {tt : TT} {fr : List Nat} {σ : St} {H : Hp} : (tComp2 K (iTup K tl) fr tt te σ H Q) = (tl σ H fun x H1 => ∃ a, x = .ref a ∧ (∃ xs, SqT K H1 a xs) ∧ ∀ p, H1 p = none → CompI2 K (Itt K a) p (frV σ fr) tt te Q H1) := rfl
end
section
variable {X : Cx}
def rFind : V → List V → Hp → VK → Prop := fun x vs H Q => match x, vs with
 | .str z, [.str y] => Q (.int (Txt.find z y)) H
 | _, _ => False
theorem pqs {z y : Str} {H : Hp} {Q : VK} : (rFind (.str z) [.str y] H Q) = (Q (.int (Txt.find z y)) H) := rfl
end
end L2
namespace Wm
open PySem L2
end Wm
namespace Wm
end Wm
namespace L2
open PySem
theorem rqg {l : Addr} {H : Hp} {Q : VK} {i : Int} : rPopAt (.ref l) [.int i] H Q ↔ ∃ xs k y, H l = some (.lst xs) ∧ -(2 ^ 63) ≤ i ∧ i < 2 ^ 63 ∧ seqIndex? i xs.length = some k ∧ xs[k]? = some y ∧ Q y (upd H l (.lst (xs.eraseIdx k))) :=
 ⟨fun ⟨_, xs, _, k, y, h1, h2, h⟩ => by cases h1; cases h2; exact ⟨xs, k, y, h⟩, fun ⟨xs, k, y, h⟩ => ⟨_, xs, _, k, y, rfl, rfl, h⟩⟩
end L2
namespace L2
open PySem PySem.Spec PySem.W PyProof.Rows
abbrev vErr : List Value := [.type "ValueError", .type "Exception", .type "BaseException", .type "object"]
abbrev vNew : String := "ValueError.__new__"
theorem excObj {K : Frag} {h : Heap} {C : Addr} {bb : List Value} {nid : String} (kin : K.In h) (q : excIn K C bb nid = true) :
  ∃ tl N nm qn bs hd sn sub ab col dd k0 k1 k2 k3 k5, h.get? C = some (excClassObj nm qn C N bs tl hd sn sub ab col dd k0 k1 k2 k3 k5 nid) ∧ (∃ mN, h.Ns N mN ∧ mN "__init__" = none) ∧ OwnTail h bb tl := by
 unfold excIn at q
 split at q
 ·next dd cd sl lk =>
  split at q
  ·next C2 tl a0 a1 a2 a3 nn a5 hmro hsl =>
   simp only [beq_iff_eq, Bool.and_eq_true, Bool.not_eq_true'] at q
   obtain ⟨⟨⟨⟨⟨e1, e2⟩, e3⟩, e4⟩, e5⟩, e6⟩ := q
   subst e1 e2
   obtain ⟨nm, bs, mro, ns, qn, hd, sn, sub, ab, col, del⟩ := cd
   simp only at hmro e3 e5 e6
   subst hmro e3
   obtain rfl : sl = #[a0, a1, a2, a3, some (.builtin nn), a5] := by
    obtain ⟨l⟩ := sl
    exact congrArg Array.mk hsl
   exact ⟨tl, ns, nm, qn, bs, hd, sn, sub, ab, col, dd, a0, a1, a2, a3, a5, kin _ _ lk, ⟨_, .of_isNs (isNs_of_in kin e5), nsMap_none_of_in kin e5 e6⟩, tail_of_in kin e4⟩
  ·cases q
 ·cases q
def Raises (X : Cx) (E : XK) : Prop := ∀ (pins : List (Addr × Obj)) (σ : St) (H : Hp) (s : Shared) (h' : Heap) (e C : Addr), Inv X pins σ H s → Heap.MadeExcOf s.heap h' e (.ref C) [] → E (.ref C) none H → X.xe (.ref e) { s with heap := h' }
def tRaise (E : XK) (C : Addr) : TS := fun _ _ H => E (.ref C) none H
theorem nqS {E : XK} {C : Addr} {D : Ends} {σ : St} {H : Hp} : (tRaise E C D σ H) = (E (.ref C) none H) := rfl
theorem iq2 {X : Cx} {x : Str} {C : Addr} {E : XK} {np cpos pos : Pos} (hx : Raises X E) (hg : Gl X x) (hm : X.mg x = some (.ref C)) (hc : excIn X.K C vErr vNew = true) (hcalm : X.calm = true) (hdb : (x == ("__debug__" : Str)) = false := by decide) :
  PS X (.Raise (some (.Call (.Name x np) [] [] cpos)) none pos) (tRaise E C) := by
 intro pins s σ H D I h
 obtain ⟨tl, N, nm, qn, bs, hd', sn, sub, ab, col, dd, k0, k1, k2, k3, k5, hC, ⟨mN, hN, hni⟩, T⟩ := excObj I.kIn hc
 refine wpAny_Raise_call_subU (C := C) (nm := nm) (q := qn) (N := N) (bs := bs) (bm := tl) (hdct := hd') (sn := sn) (sub := sub) (ab := ab) (col := col) (dd := dd) (k0 := k0) (k1 := k1) (k2 := k2) (k3 := k3) (k5 := k5)
  F.excBase_ValueError (by decide) F.excBase_ValueError (mN := mN) (T.hasType F.excBase_ValueError.hasBase) (I.ok.hd hcalm) rfl hni (gqn I hg hm ⟨rfl, ?_⟩ hdb)
 exact evalArgs_empty ⟨rfl, Nat.zero_le _, hC, hN, T, fun h' e hm' => hx pins σ H s h' e C I hm' h⟩
theorem ObjOk.ex {P : Program} {w : World} {H : Hp} {h : Heap} {a : Addr} {o : HO} (x : ObjOk P w H h a o) : ∃ u, h.get? a = some u := by
 cases o with
 | lst xs => obtain ⟨_, _, _, _, e⟩ := x; exact ⟨_, e⟩
 | tup xs => obtain ⟨_, _, _, _, e, _⟩ := x; exact ⟨_, e⟩
 | dK kvs => obtain ⟨_, _, _, _, _, _, _, e, _⟩ := x; exact ⟨_, e⟩
 | dT kvs => obtain ⟨_, _, _, _, _, _, _, e, _⟩ := x; exact ⟨_, e⟩
 | set S n => obtain ⟨_, _, _, _, e, _⟩ := x; exact ⟨_, e⟩
 | ins C dx fs => obtain ⟨_, _, _, e, _⟩ := x; exact ⟨_, e⟩
 | own y => exact x
 | xd fs => obtain ⟨_, ⟨_, _, _, e, _⟩, _⟩ := x; exact ⟨_, e⟩
 | rng lo hi => obtain ⟨_, _, _, e⟩ := x; exact ⟨_, e⟩
 | frz ob u => exact ⟨_, x.1⟩
 | tbl ps => exact ⟨_, x⟩
 | met f y => exact ⟨_, x⟩
 | ext φ => exact x.2.1
structure Flown (P : Program) (w : World) (base : Heap) (outer : List Env) (H : Hp) (s : Shared) (a t C : Addr) (B : Heap) (H' : Hp) (s' : Shared) : Prop where
 os : s'.os = s.os
 bare : AllBare s'.gens
 st : base.StaysIn B
 fly : Heap.FlyingW B outer a (.ref C) (.ref t) s'.heap
 hok : HOk P w H' B
 un : Un (frs outer) [] H H' s.heap s'.heap
 kb : ∀ b o, s.heap.get? b = some o → H b = none → b ∉ frs outer → B.get? b = some o
 thB : ∀ b o, s.heap.get? b = some o → b ∉ frs outer → ∃ o', B.get? b = some o'
def CXE (P : Program) (w : World) (base : Heap) : CXT := fun outer H s E e s' => ∃ (a t C : Addr) (B : Heap) (H' : Hp), e = .ref a ∧ E (.ref C) none H' ∧ Flown P w base outer H s a t C B H' s'
theorem kqP {env : Env} {L : Addr} {outer : List Env} (hf : env.frame = some L) {b : Addr} : b ∈ frs (env :: outer) ↔ b = L ∨ b ∈ frs outer := by
 unfold frs
 rw [List.filterMap_cons, hf]
 exact List.mem_cons
section
variable {P : Program} {w : World} {K : Frag} {mg : Str → Option Value} {base : Heap} {N : List Str} {qual : Str} {scope : Scope} {f : Addr} {cd : Value} {A : Around} {outer : List Env} {s : Shared} {H : Hp} {E : XK}
theorem jqz : Raises (cxOf (CXE P w base) P w K mg base N qual scope f cd A outer s H E) E := by
 intro pins σ H1 s1 h' e C I hm hE
 have hf : (envOfC qual scope s.heap.objs.size f cd).frame = some s.heap.objs.size := rfl
 have stk : s1.heap.FunFrames base (envOfC qual scope s.heap.objs.size f cd :: outer) := I.stack
 have stf : ∀ b ∈ frs (envOfC qual scope s.heap.objs.size f cd :: outer), H1 b = none := I.stkFree
 have ib : Un (frs outer) [] H H1 s.heap s1.heap := I.base
 have ne : ∀ b o, s.heap.get? b = some o → b ∉ frs outer → b ∉ frs (envOfC qual scope s.heap.objs.size f cd :: outer) := fun b o q n z => by
  rcases (kqP hf).mp z with z | z
  ·exact absurd (Heap.lt_size q) (by rw [z]; exact Nat.lt_irrefl _)
  ·exact n z
 show wpAny (model P w) (A.deeper (envOfC qual scope s.heap.objs.size f cd)) (leaving (envOfC qual scope s.heap.objs.size f cd) (.ref e)) _ _ _
 refine wpAny_leaves_madeW (base := hideAll s1.heap (frs (envOfC qual scope s.heap.objs.size f cd :: outer))) (h := s1.heap) I.ok.frames hf (fun b o q => of_hideAll _ q)
  (funFrames_hide stk fun env he b hb => List.mem_filterMap.mpr ⟨env, he, hb⟩) hm fun h2 t x1 x2 x3 x4 => ?_
 have keepB : ∀ b o, s.heap.get? b = some o → H b = none → b ∉ frs outer → (hideAll s1.heap (frs (envOfC qual scope s.heap.objs.size f cd :: outer))).get? b = some o := fun b o q n nf =>
  hideAll_get _ (ib.keep b o q n nf (by simp)) (ne b o q nf)
 have thB : ∀ b o, s.heap.get? b = some o → b ∉ frs outer → ∃ o', (hideAll s1.heap (frs (envOfC qual scope s.heap.objs.size f cd :: outer))).get? b = some o' := fun b o q nf => by
  obtain ⟨o', z⟩ := ib.there b o q (by simp)
  exact ⟨o', hideAll_get _ z (ne b o q nf)⟩
 have slotF : ∀ b, b ∈ frs outer → ∀ o, s1.heap.get? b = some o → ∃ sl, h2.get? b = some { o with slots := sl } := fun b hb o q => by
  obtain ⟨_, o2, q2, nd⟩ := stk.mem ((kqP hf).mpr (.inr hb))
  rw [q] at q2
  cases q2
  exact x4 b o (hm.keeps b o q) nd
 refine ⟨e, t, C, _, H1, rfl, hE, ⟨I.os, I.bare, fun b o q => ?_, x1, fun a u q => ?_, ⟨fun b o q n nf _ => x1.1 b o (keepB b o q n nf), fun b o q n hb _ => ?_, ib.free, fun b o q _ => ?_, ib.tups, ib.frzs, ib.tbls⟩, keepB, thB⟩⟩
 ·exact hideAll_get _ (I.bk b o q) fun z => by rw [(stk.mem z).1] at q; cases q
 ·refine (I.hok a u q).stay (fun b v hb z => hideAll_get _ z fun m => ?_) (fun _ z => z) fun _ _ z => z
  have := stf b m
  rcases hb with rfl | hb
  ·rw [q] at this; cases this
  ·rw [hb] at this; cases this
 ·obtain ⟨sl, z⟩ := ib.slot b o q n hb (by simp)
  obtain ⟨sl', z'⟩ := slotF b hb _ z
  exact ⟨sl', z'⟩
 ·by_cases hb : b ∈ frs outer
  ·obtain ⟨o', z⟩ := ib.there b o q (by simp)
   obtain ⟨sl', z'⟩ := slotF b hb _ z
   exact ⟨_, z'⟩
  ·obtain ⟨o', z⟩ := thB b o q hb
   exact ⟨o', x1.1 b o' z⟩
end
theorem Fun.okx {P : Program} {w : World} {K : Frag} {mg : Str → Option Value} {base : Heap} {x qual : Str} {st : Stmt} {f : Addr} {fd : FuncData} {N ps : List Str} {k : Nat} {sp : Sp} (F : Fun K x qual st f fd) (S : FnScope N ps (defScope st)) (len : ∀ vs H Q E, sp vs H Q E → vs.length = ps.length)
  (hbody : ∀ (cdv : Value) (A : Around) (outer : List Env) (s : Shared) (H : Hp) (vs : List V) (Q : VK) (E : XK), Room k (A.deeper (envOfC qual (defScope st) s.heap.objs.size f cdv)) → sp vs H Q E →
   ∃ t, PSs (cxOf (CXE P w base) P w K mg base N qual (defScope st) f cdv A outer s H E) (defBody st) t ∧ t { nx := fun _ H' => Q .non H', rt := Q } (start N vs) H) : FnOk P w K mg base (CXE P w base) (k + 1) f fd ps sp := by
 obtain ⟨oc, od, kV, doc, pm, an, cdv, ct, osl, rfl, lk, hcd⟩ := F.ex
 exact pqk lk hcd S len fun A outer s H vs Q E hr hsp => hbody cdv A outer s H vs Q E hr hsp
def exO (a C : Addr) : HO := .ext fun h => ∃ o, h.get? a = some o ∧ o.cls = .ref C
abbrev Cx.handling (X : Cx) (e : Value) : Cx := { X with A := X.A.mark (some e), calm := false, xe := fun _ _ => False }
section
variable {X : Cx} {pins : List (Addr × Obj)} {σ : St} {H H1 H2 : Hp} {s s1 s2 : Shared}
theorem Inv.handling (e : Value) (I : Inv X pins σ H s) : Inv (X.handling e) pins σ H s :=
 ⟨⟨I.ok.mod, I.ok.kind, I.ok.glob, I.ok.blt, I.ok.above, I.ok.inj, I.ok.has, I.ok.cab, (fun z => by cases z), I.ok.frames, I.ok.stk, I.ok.exf, I.ok.bs, I.ok.bsz, I.ok.noex, I.ok.exfs, I.ok.funs, I.ok.frf⟩, I.os, I.bare, I.base, I.loc, I.cell, I.free, I.freeC, I.pin, I.hok, I.len⟩
theorem Inv.handled {e : Value} (J : X.Ok) (I : Inv (X.handling e) pins σ H s) : Inv X pins σ H s := ⟨J, I.os, I.bare, I.base, I.loc, I.cell, I.free, I.freeC, I.pin, I.hok, I.len⟩
theorem Flown.new {P : Program} {w : World} {base B h5 : Heap} {outer : List Env} {a t C : Addr} {a0 : Value} (W : Flown P w base outer H1 s1 a t C B H2 s2) : H2 a = none := by
 cases q : H2 a with
 | none => rfl
 | some u =>
  obtain ⟨o, z⟩ := (W.hok a u q).ex
  rw [W.fly.2.1] at z
  cases z
theorem Inv.caught {a t C : Addr} {B h5 : Heap} {a0 : Value} (I : Inv X pins σ H1 s1) (W : Flown X.prog X.w X.base X.stack H1 s1 a t C B H2 s2) (f5 : Heap.FlyingW B X.stack a (.ref C) a0 h5) (sm : s2.heap.UpToSlots h5) :
  Inv X pins σ (upd H2 a (exO a C)) { s2 with heap := h5 } := by
 have hn : H2 a = none := W.new (h5 := h5) (a0 := a0)
 obtain ⟨oe, vs, T, oT, ts, he, _, hd, _⟩ := W.fly.2.2.2
 have fr : ∀ b ∈ frs X.stack, ∀ o, s2.heap.get? b = some o → b ≠ a ∧ ∃ sl, h5.get? b = some { o with slots := sl } := fun b hb o q => by
  obtain ⟨_, o2, q2, nd⟩ := W.fly.2.2.1.mem hb
  rw [q] at q2
  cases q2
  refine ⟨fun z => ?_, sm b o q nd⟩
  rw [z, he] at q
  cases q
  exact nd _ hd
 have na : ∀ b o, s1.heap.get? b = some o → b ≠ a := fun b o q => by
  by_cases hb : b ∈ frs X.stack
  ·obtain ⟨o', z⟩ := W.un.there b o q (by simp)
   exact (fr b hb o' z).1
  ·obtain ⟨o', z⟩ := W.thB b o q hb
   rintro rfl
   rw [W.fly.2.1] at z
   cases z
 refine I.call' (H' := upd H2 a (exO a C)) (s' := { s2 with heap := h5 }) (ch := []) W.os ⟨fun b o q n nf _ => f5.1 b o (W.kb b o q n nf), fun b o q n hb _ => ?_, fun b o q n _ => ?_, fun b o q _ => ?_, fun b xs q => ?_, fun b o u q => ?_, fun b ps q => ?_⟩ (fun b u q => ?_) W.bare (fun b z => by cases z)
 ·obtain ⟨sl, z⟩ := W.un.slot b o q n hb (by simp)
  obtain ⟨_, sl', z'⟩ := fr b hb _ z
  exact ⟨sl', z'⟩
 ·rw [aqw (na b o q)]
  exact W.un.free b o q n (by simp)
 ·by_cases hb : b ∈ frs X.stack
  ·obtain ⟨o', z⟩ := W.un.there b o q (by simp)
   obtain ⟨_, sl', z'⟩ := fr b hb _ z
   exact ⟨_, z'⟩
  ·obtain ⟨o', z⟩ := W.thB b o q hb
   exact ⟨o', f5.1 b o' z⟩
 ·have z := W.un.tups b xs q
  rw [aqw (aqo z hn)]
  exact z
 ·have z := W.un.frzs b o u q
  rw [aqw (aqo z hn)]
  exact z
 ·obtain ⟨m, z⟩ := W.un.tbls b ps q
  exact ⟨m, by rw [aqw (aqo z hn)]; exact z⟩
 ·by_cases hb : b = a
  ·subst hb
   rw [aqk] at q
   cases q
   obtain ⟨ob, hob, hoc⟩ := f5.there
   exact ⟨⟨ob, hob, hoc⟩, ⟨ob, hob⟩, fun h1 h2 ⟨o, z, c⟩ k => ⟨o, k o z, c⟩⟩
  ·rw [aqw hb] at q
   refine (W.hok b u q).stay (fun c v _ z => f5.1 c v z) (fun c z => ?_) fun c xs z => ?_
   ·rw [aqw (aqo z hn)]; exact z
   ·rw [aqw (aqo z hn)]; exact z
theorem Inv.goes {M : Model} {A : Around} {E : Value → Shared → Prop} {i : Nat} {n : Str} {pos : Pos} {Q : Unit → Shared → Prop} (I : Inv X pins σ H s) (nd : X.N.Nodup) (hi : X.N[i]? = some n) (hl : X.env.scope.names.lookup n = some .local)
  (h : ∀ s', Inv X pins (σ.set i none) H s' → Q () s') : wpAny M A (do bindName X.env n .none; unbindBehindTheSuite X.env n pos) Q E s := by
 obtain ⟨m, hn, hlk⟩ := id I.loc
 have hcls : (X.env.scope.kind == .class || (X.env.scope.kind == .module && X.env.locals != X.env.globals)) = false := by rw [I.ok.kind]; rfl
 have hiσ : i < σ.length := by rw [I.len]; exact (List.getElem?_eq_some_iff.mp hi).1
 refine wpAny_nameGoes_keeps hl hn hcls fun h' v hn' hs => h _ ?_
 have neL : ∀ b o, X.s₀.heap.get? b = some o → b ≠ X.env.locals := fun b o e => Nat.ne_of_lt (Nat.lt_of_lt_of_le (Heap.lt_size e) I.ok.above)
 refine ⟨I.ok, I.os, I.bare, ⟨fun b o e z hb hx => (hs.2 b (neL b o e)).trans (I.base.keep b o e z hb hx), fun b o e z hb hx => ?_, I.base.free, fun b o e hx => ?_, I.base.tups, I.base.frzs, I.base.tbls⟩, ⟨_, hn', fun j y v' e1 e2 e3 => ?_⟩, fun y c e => ?_, I.free, I.freeC, fun p hp => ?_, fun b ob e => ?_, by simpa using I.len⟩
 ·obtain ⟨sl, e1⟩ := I.base.slot b o e z hb hx
  exact ⟨sl, (hs.2 b (neL b o e)).trans e1⟩
 ·obtain ⟨o', e1⟩ := I.base.there b o e hx
  exact ⟨o', (hs.2 b (neL b o e)).trans e1⟩
 ·by_cases hj : j = i
  ·subst hj
   rw [List.getElem?_set_self hiσ] at e2
   cases e2
  ·rw [List.getElem?_set_ne (Ne.symm hj)] at e2
   obtain ⟨u', r', q⟩ := hlk j y v' e1 e2 e3
   refine ⟨u', r', ?_⟩
   rcases q with ⟨k, e⟩ | ⟨k, c, e, z⟩
   ·refine .inl ⟨k, ?_⟩
    have : y ≠ n := fun e => hj (iqV nd e1 (e ▸ hi))
    simp [this, e]
   ·exact .inr ⟨k, c, e, z.sameBut hs (I.cne y c e)⟩
 ·obtain ⟨w', z⟩ := I.cell y c e
  exact ⟨w', z.sameBut hs (I.cne y c e)⟩
 ·obtain ⟨e, n1, ne, nf, d⟩ := I.pin p hp
  exact ⟨(hs.2 p.1 ne).trans e, n1, ne, nf, d⟩
 ·refine (I.hok b ob e).stay (fun c w' hc q => (hs.2 c ?_).trans q) (fun _ q => q) fun _ _ q => q
  rintro rfl
  rcases hc with rfl | hc
  ·rw [I.free] at e; cases e
  ·rw [I.free] at hc; cases hc
end
structure Catch (K : Frag) (W : Addr) : Prop where
 ty : typeIn K (.ref W) = some (.type "type")
 ex : subIn K (.ref W) (.type "BaseException") = some true
 cl : (clsIn K W).isSome = true
theorem kqr {K : Frag} {M : Model} {h : Heap} {a W C : Addr} {o : Obj} (kin : K.In h) (ha : h.get? a = some o) (hc : o.cls = .ref C) (cw : Catch K W) (hs : subIn K (.ref C) (.ref W) = some true) : Looks M h (excMatches (.ref a) (.ref W)) true := by
 have L1 := looks_typeIn (M := M) kin cw.ty
 have L2 := looks_subIn (M := M) kin cw.ex
 have L3 := looks_subIn (M := M) kin hs
 have L4 : Looks M h (typeOf (.ref a)) (.ref C) := hc ▸ (Looks.ld ha).andThen .now
 have L5 : Looks M h (isInstance (.ref W) (.type "tuple")) false := L1.andThen (Looks.of_pure tc_notTuple)
 have L6 : Looks M h (isType (.ref W)) true := by
  have z := cw.cl
  unfold clsIn at z
  split at z
  ·next lk =>
   intro A' Q' E' s' k q
   unfold isType loadHead
   exact wpAny_bind (wpAny_loadPart (k _ _ (kin _ _ lk)) (wpAny_pure q))
  ·cases z
 intro A Q E s k q
 unfold excMatches isExcClass
 refine wpAny_bind (L5 A _ E s k ?_)
 simp only [Bool.false_eq_true, if_false]
 refine wpAny_bind (wpAny_pure ?_)
 refine wpAny_bind ?_
 rw [List.forIn_cons]
 refine wpAny_bind (wpAny_bind (wpAny_bind (L6 A _ E s k ?_)))
 simp only [if_true]
 refine L2 A _ E s k ?_
 simp only [Bool.not_true, Bool.false_eq_true, if_false]
 refine wpAny_pure ?_
 dsimp only
 rw [List.forIn_nil]
 refine wpAny_pure ?_
 refine wpAny_bind (L4 A _ E s k ?_)
 refine wpAny_bind ?_
 rw [List.forIn_cons]
 refine wpAny_bind (wpAny_bind (L3 A _ E s k ?_))
 simp only [if_true]
 refine wpAny_pure ?_
 dsimp only
 exact wpAny_pure (wpAny_pure q)
def tTry (K : Frag) (sp : Sp) (t : TA) (W : Addr) (i : Nat) (tb : TS) : TS := fun D σ H => t σ H fun vs H1 => sp vs H1 (fun _ H2 => D.nx σ H2) fun cls _ H2 =>
 ∃ C, cls = .ref C ∧ subIn K (.ref C) (.ref W) = some true ∧ ∀ a, H2 a = none → tb { nx := fun σ' H' => D.nx (σ'.set i none) H', rt := D.rt } (σ.set i (some (.ref a))) (upd H2 a (exO a C))
theorem kq3 {X : Cx} {k : Nat} {f W : Addr} {fd : FuncData} {ps : List Str} {sp : Sp} {fx x n : Str} {p np cpos epos hpos pos : Pos} {e : Expr} {es : List Expr} {b₀ : Stmt} {suite : List Stmt} {t : TA} {tb : TS} {i : Nat}
  (F : FnOk X.prog X.w X.K X.mg X.base (CXE X.prog X.w X.base) k f fd ps sp) (hr : Room k X.A) (hg : Gl X fx) (hm : X.mg fx = some (.ref f)) (hk : keepIn X.K (.ref f) = true) (hb : Binds X.K fd ps []) (ha : PA X (e :: es) t)
  (hx0 : ∀ e s, X.xe e s → False) (hstk : X.stack = X.env :: X.outer) (hf : X.env.frame = some X.env.locals) (hgW : Gl X x) (hmW : X.mg x = some (.ref W)) (cw : Catch X.K W)
  (nd : X.N.Nodup) (hi : X.N[i]? = some n) (hl : X.env.scope.names.lookup n = some .local) (hbd : ∀ a, PSs (X.handling (.ref a)) (b₀ :: suite) tb)
  (hdb : (fx == ("__debug__" : Str)) = false := by decide) (hdW : (x == ("__debug__" : Str)) = false := by decide)
  (he : starEach (e :: es) X.env = (false, eval e X.env) :: starEach es X.env := by rfl) (hpl : (backTo cpos (starEach es X.env)).any (·.1) = false := by rfl)
  (hs : swapsWith (.Call (.Name fx p) (e :: es) [] cpos) none epos.line X.env = pure false := by rfl) :
  PS X (.Try [.Expr (.Call (.Name fx p) (e :: es) [] cpos) epos] [.ExceptHandler (some (.Name x np)) (some n) (b₀ :: suite) hpos] [] [] pos) (tTry X.K sp t W i tb) := by
 intro pins s σ H D I h
 refine wpAny_Try_except (wpAny_execs_cons (wpAny_Expr_any (wpAny_Call_Name_kw (gqn I hg hm ?_ hdb)) I.quiet hs))
 refine callWith_K (h₀ := X.base) I.ok.mod.kin hk (wpAny_mono (ha cpos pins s σ H _ I h) (fun us s1 ⟨vs, H1, I1, r, q⟩ => ⟨I1.kIn, ?_⟩) fun e s1 z => (hx0 e s1 z).elim) he hpl
 have hlen : (us ++ []).length = ps.length := by rw [List.append_nil, ← r.length]; exact F.len _ _ _ _ q
 have hbb := hb s1 us I1.kIn hlen
 rw [List.append_nil] at hbb
 refine wpAny_call (codeAny_mono (F.run X.A X.stack s1 H1 ⟨us, []⟩ us vs _ _ hr I1.env0 hbb r q) fun r s2 hq => ?_)
 cases r with
 | ok fl =>
  cases fl with
  | ret u =>
   obtain ⟨v, H2, I2, rv, q2⟩ := I1.after hq
   exact wpAny_execs_nil (wpAny_execs_nil ⟨σ, H2, I2, q2⟩)
  | next => exact False.elim hq
  | brk => exact False.elim hq
  | cont => exact False.elim hq
 | error ev =>
  obtain ⟨a, tt, C, B, H2, rfl, ⟨C', ce, hsub, hq⟩, Wn⟩ := hq
  cases ce
  have hn : H2 a = none := Wn.new (h5 := s.heap) (a0 := .none)
  have fl : Heap.FlyingW B (X.env :: X.outer) a (.ref C) (.ref tt) s2.heap := hstk ▸ Wn.fly
  have fr : X.A.frames = some (X.env :: X.outer) := hstk ▸ I1.ok.frames
  refine wpAny_looks_onW fr hf fl fun h4 held4 sm4 => ?_
  refine wpAny_landsW held4 fun h5 f5 sm5 => ?_
  have I5 := I1.caught Wn (hstk.symm ▸ f5) (sm4.trans sm5)
  refine wpAny_handleBy_cons (codeAny_handlers_test (gqn (X := X.handling (.ref a)) (I5.handling _) hgW hmW ?_ hdW)) (by intro q; cases q)
  obtain ⟨ob, hob, hoc⟩ := f5.there
  refine (kqr I5.kIn hob hoc cw hsub) _ _ _ _ (fun b o q => q) ?_
  refine codeAny_handlers_suite_as ?_
  refine lands_againW f5 fun h6 f6 sm6 => ?_
  have I6 := I1.caught Wn (hstk.symm ▸ f6) ((sm4.trans sm5).trans sm6)
  refine iqU (X := X.handling (.ref a)) (i := i) (v := .ref a) (I6.handling _) nd hi (.inl hl) rfl (fun s7 I7 => ?_) (.inr hl)
  refine wpAny_mono (hbd a pins s7 _ _ _ I7 (hq a hn)) (fun fl s8 q8 => ?_) fun e s8 z => z.elim
  cases fl with
  | next =>
   obtain ⟨σ', H', I', q'⟩ := q8
   exact (Inv.handled I1.ok I').goes nd hi hl fun s9 I9 => ⟨_, _, I9, q'⟩
  | ret u =>
   obtain ⟨v, σ', H', I', rv, q'⟩ := q8
   exact (Inv.handled I1.ok I').goes nd hi hl fun s9 I9 => ⟨_, _, _, I9, rv, q'⟩
  | brk =>
   obtain ⟨_, _, _, q'⟩ := q8
   exact q'.elim
  | cont =>
   obtain ⟨_, _, _, q'⟩ := q8
   exact q'.elim
end L2
namespace L2
open PySem PySem.Spec PySem.W PySem.Calls PyProof.Rows PySem.Builtin PySem.Builtin.ObjectAttr PySem.Builtin.Getset_descriptor
structure ExLook (K : Frag) (C : Addr) : Prop where
 ga : findIn K (.ref C) "__getattribute__" = some (some (.builtin "BaseException.__getattribute__"))
 cl : findIn K (.ref C) "__class__" = some (some (.builtin "object.__class__"))
 na : findIn K (.ref C) "__getattr__" = some none
 mo : mroIn K C (.type "object") = some true
 mb : mroIn K C (.type "BaseException") = some true
 is : (clsIn K C).isSome = true
section
variable {prog : Program} {w : World} {A : Around} {E : Value → Shared → Prop} {hh : Heap} {g : Array GenState} {dr : Drawn} {t : Nat} {os : OsState} {K : Frag} {a C : Addr} {o : Obj}
theorem fqy {M : Model} (hx : hh.get? a = some o) (hc : o.cls = .ref C) : Looks M hh (typeOf (.ref a)) (.ref C) := hc ▸ (Looks.ld hx).andThen .now
theorem iqX {tp : Value} {R : Result → Shared → Prop} (kin : K.In hh) (hx : hh.get? a = some o) (hc : o.cls = .ref C) (hm : mroIn K C (.type "object") = some true)
  (h : R (.ok (.ret (.ref C))) ⟨hh, g, dr, t, os⟩) : codeAny (model prog w) A (.call (.builtin "getset_descriptor.__get__") ⟨[.builtin "object.__class__", .ref a, tp], []⟩) R ⟨hh, g, dr, t, os⟩ := by
 have lt := fqy (M := model prog w) hx hc; have ls := looks_mroIn (M := model prog w) kin hm
 refine codeAny_call_builtin KF.slot_gs.plain KF.entry_gs (KF.slot_gs.check _ _ _ _ _ _ _ _ KF.type_class (KF.args_gs _ _ _) ?_); unfold Builtin.«getset_descriptor.__get__» descrGet; rw [dga_obj]
 refine wpAny_bind (wpAny_pure ?_); unfold descrGetter descrCheckInstance descrNameAndClass isInstance; simp only [KF.owner_class]
 repeat lk
 refine ⟨Code.quiet_builtin _ (by decide +kernel), codeAny_builtin KF.entry_class ?_⟩; unfold Builtin.«object.__class__» shownTypeOf
 repeat lk
 exact h
theorem gq4 {tk : Tok} {Q : Fin → Shared → Prop} (kin : K.In hh) (hx : hh.get? a = some o) (hc : o.cls = .ref C) (L : ExLook K C) (hq : Q (.done (.ret (.ref C))) ⟨hh, g, dr, t, os⟩) :
  wpAny (model prog w) A (Builtin.«object.__getattribute__» ⟨[.ref a, .str "__class__" tk], []⟩) Q E ⟨hh, g, dr, t, os⟩ := by
 have lt := fqy (M := model prog w) hx hc; have lc := looks_findIn (M := model prog w) kin L.cl
 have hT5 : (⟨hh, g, dr, t, os⟩ : Shared).TypeIs (.builtin "object.__class__") "getset_descriptor" := F.typeOf_object_class
 have f5 := F.typeOf_object_class; have f6 := F.slot_gs_get.lookup; have f7 := F.slot_gs_set.lookup
 repeat (any_goals (first | assumption | with_reducible refine Looks.at lt ?_ | with_reducible refine Looks.at lc ?_ | wp_step))
 refine iqX kin hx hc L.mo ?_
 repeat (any_goals (first | assumption | wp_step))
theorem jqb {M : Model} {nv : Value} {Q : Unit → Shared → Prop} (kin : K.In hh) (hx : hh.get? a = some o) (hc : o.cls = .ref C) (L : ExLook K C) (hq : Q () ⟨hh, g, dr, t, os⟩) :
  wpAny M A (checkBuiltinCall "BaseException.__getattribute__" ⟨[.ref a, nv], []⟩) Q E ⟨hh, g, dr, t, os⟩ := by
 have lt := fqy (M := M) hx hc; have lb := looks_mroIn (M := M) kin L.mb
 have z1 : builtinKind "BaseException.__getattribute__" = some .slot := by decide +kernel
 have z2 : splitId "BaseException.__getattribute__" = some ("BaseException", "__getattribute__") := by decide +kernel
 have z3 := F.args_bexc_ga (.ref a) nv
 simp only [checkBuiltinCall, z1, z2]; refine wpAny_bind ?_; unfold isInstance
 repeat (first | with_reducible refine Looks.at lt ?_ | with_reducible refine Looks.at lb ?_ | wp_step)
 exact hq
theorem jqe {tk : Tok} {Q : Value → Shared → Prop} (kin : K.In hh) (hx : hh.get? a = some o) (hc : o.cls = .ref C) (L : ExLook K C) (gb : Slot "ValueError" "__getattribute__" "BaseException.__getattribute__") (hq : Q (.ref C) ⟨hh, g, dr, t, os⟩) :
  wpAny (model prog w) A (getAttrBy (.ref a) (.str "__class__" tk) false) Q E ⟨hh, g, dr, t, os⟩ := by
 have lt := fqy (M := model prog w) hx hc; have lg := looks_findIn (M := model prog w) kin L.ga; have ln := looks_findIn (M := model prog w) kin L.na
 have f3 := gb.bind (.ref a)
 have y2 : (Value.builtin "BaseException.__getattribute__" == Value.builtin "object.__getattribute__") = false := by decide +kernel
 have y1 : (onTheHeap (Value.ref C) && Value.builtin "BaseException.__getattribute__" == Value.builtin "object.__getattribute__") = false := by rw [y2]; rfl
 repeat (any_goals (first | assumption | with_reducible refine Looks.at lt ?_ | with_reducible refine Looks.at lg ?_ | with_reducible refine Looks.at ln ?_ | wp_step))
 refine codeAny_call_builtin gb.plain F.entry_bexc_ga (jqb kin hx hc L (gq4 kin hx hc L ?_))
 repeat (any_goals (first | assumption | wp_step))
theorem hqW {s : Shared} {Q : Option Value → Shared → Prop} (kin : K.In s.heap) (hx : s.heap.get? a = some o) (hc : o.cls = .ref C) (L : ExLook K C) (gb : Slot "ValueError" "__getattribute__" "BaseException.__getattribute__") (hq : Q (some (.ref C)) { s with toks := s.toks + 1 }) :
  wpAny (model prog w) A (getAttr? (.ref a) "__class__") Q E s := by
 obtain ⟨hh, g, dr, t, os⟩ := s
 unfold getAttr? getAttrBy?
 repeat (any_goals (first | assumption | with_reducible apply jqe kin hx hc L gb | wp_step))
theorem nqe (L : ExLook K C) (gb : Slot "ValueError" "__getattribute__" "BaseException.__getattribute__") : KitX K (.ref a) (.ref C) (fun h => ∃ o, h.get? a = some o ∧ o.cls = .ref C) where
 ty := fun _ _ _ ⟨o, hx, hc⟩ => fqy hx hc
 it := fun _ _ X _ => by
  have z := L.is
  unfold clsIn at z
  split at z
  ·next lk =>
   intro A' Q' E' s' k q
   unfold isType loadHead
   exact wpAny_bind (wpAny_loadPart (k _ _ (X _ _ lk)) (wpAny_pure q))
  ·cases z
 ne := fun h tp dd its n sl X htp => by
  have z := L.is
  refine Bool.eq_false_iff.mpr fun q => ?_
  obtain rfl : C = tp := Value.ref.inj (beq_iff_eq.mp q)
  unfold clsIn at z
  split at z
  ·next lk =>
   have y := (X _ _ lk).symm.trans htp
   cases y
  ·cases z
 ca := fun X ⟨o, hx, hc⟩ k => hqW X hx hc L gb k
end
inductive KitAns (K : Frag) (H : Hp) (C : Addr) : V → Bool → Prop
 | cls {W : Addr} {b : Bool} : kitOne K (.ref C) (.ref W) = some b → KitAns K H C (.ref W) b
 | ty {T : String} {b : Bool} : kitOne K (.ref C) (.type T) = some b → KitAns K H C (.ty T) b
 | tup {p : Addr} {cs : List Addr} {b : Bool} : H p = some (.tup (cs.map V.ref)) → kitAny K (.ref C) (cs.map Value.ref) = some b → KitAns K H C (.ref p) b
theorem jqM : ∀ {cs : List Addr} {us : List Value}, Vals (cs.map V.ref) us → us = cs.map Value.ref
 | [], _, .nil => rfl
 | _ :: _, _, .cons r rs => by cases r; rw [jqM rs]; rfl
def rIsE (K : Frag) : List V → Hp → VK → Prop := fun vs H Q => ∃ a c C b, vs = [.ref a, c] ∧ H a = some (exO a C) ∧ ExLook K C ∧ KitAns K H C c b ∧ Q (.bl b) H
theorem cqS {X : Cx} {K : Frag} (hk : X.K = K) : CallR X (.builtin "isinstance") (rIsE K) := by
 subst hk
 intro pins s σ H vs us Q I rv h
 obtain ⟨a, c, C, b, rfl, ha, L, ans, q⟩ := h
 cases rv with
 | cons r1 rs =>
  cases rs with
  | cons r2 rn =>
   cases rn
   cases r1
   have hobj : ∃ o, s.heap.get? a = some o ∧ o.cls = .ref C := (I.hok a _ ha).1
   have Z := nqe (a := a) L F.attrBase_ValueError.ga
   cases ans with
   | cls e =>
    cases r2
    exact kia_one Z I.kIn hobj e (by intro z; cases z) fun tk => ⟨.bl b, H, I.tok tk, rfl, q⟩
   | ty e =>
    cases r2
    exact kia_one Z I.kIn hobj e (by intro z; cases z) fun tk => ⟨.bl b, H, I.tok tk, rfl, q⟩
   | tup hp e =>
    cases r2
    obtain ⟨_, its, rv, ⟨oc, od, da, sl⟩, hob, hcl, n, hda⟩ := I.hok _ _ hp
    dsimp only at hcl hda
    subst hcl hda
    rw [jqM rv] at hob
    exact kia_tup Z I.kIn hobj hob e (by intro z; cases z) fun tk => ⟨.bl b, H, I.tok tk, rfl, q⟩
end L2
namespace L2
open PySem PySem.W
theorem iqC : bootBuiltins "ValueError" = some (.type "ValueError") := by decide +kernel
theorem qqv {K : Frag} {a : Addr} {c : V} {H : Hp} {Q : VK} : rIsE K [.ref a, c] H Q ↔ ∃ C b, H a = some (exO a C) ∧ ExLook K C ∧ KitAns K H C c b ∧ Q (.bl b) H :=
 ⟨fun ⟨_, _, C, b, e, h⟩ => by cases e; exact ⟨C, b, h⟩, fun ⟨C, b, h⟩ => ⟨a, c, C, b, rfl, h⟩⟩
theorem qqy {K : Frag} {sp : Sp} {t : TA} {W : Addr} {i : Nat} {tb : TS} {D : Ends} {σ : St} {H : Hp} : tTry K sp t W i tb D σ H ↔ t σ H fun vs H1 => sp vs H1 (fun _ H2 => D.nx σ H2) fun cls _ H2 =>
 ∃ C, cls = .ref C ∧ subIn K (.ref C) (.ref W) = some true ∧ ∀ a, H2 a = none → tb { nx := fun σ' H' => D.nx (σ'.set i none) H', rt := D.rt } (σ.set i (some (.ref a))) (upd H2 a (exO a C)) := Iff.rfl
end L2
namespace L2
open PySem PySem.Spec PyProof.Rows
section
variable {X : Cx}
def rStarts : V → List V → Hp → VK → Prop := fun x vs H Q => ∃ z y, ∃ i : Nat, x = .str z ∧ vs = [.str y, .int (i : Int)] ∧ Q (.bl (decide (i + y.length ≤ z.length) && Builtin.Str.subAt z y i)) H
end
section
variable {X : Cx}
def rPart : V → List V → Hp → VK → Prop := fun x vs H Q => ∃ z y, x = .str z ∧ vs = [.str y] ∧ (y.length == 0) = false ∧ z.length ≤ sizeLine ∧
 ∀ p, H p = none → Q (.ref p) (upd H p (.tup [.str (Txt.partition z y).1, .str (Txt.partition z y).2.1, .str (Txt.partition z y).2.2]))
theorem equ : MtR X "str.partition" rPart := by
 intro pins s σ H x vs v us Q I rx rv h
 obtain ⟨z, y, rfl, rfl, hy, hz, q⟩ := h
 obtain ⟨t, rfl⟩ := rx
 obtain ⟨u, rfl, t', rfl⟩ := vals1 rv
 have hf : H s.heap.objs.size = none := I.hok.fresh (Nat.le_refl _)
 have q := q _ hf
 refine call_meets F.slot_str_partition (typeIs_str _ _ _) F.entry_str_partition (F.args_str_partition_2 _ _) (meets_str_partition z y t t' hy hz) ?_
 unfold Txt.partition at q
 revert q
 cases Builtin.Str.occurrences z y 0 z.length 1 with
 | nil =>
  intro q
  refine ⟨.ref s.heap.objs.size, _, I.laid (t' := s.toks + 1) (o := .tup _) (fun b u e => Heap.get?_push_of_some _ e) (by omega) ?_, rfl, q⟩
  exact ⟨by show 3 ≤ sizeLine; decide, _, .cons ⟨_, rfl⟩ (.cons ⟨_, rfl⟩ (.cons ⟨_, rfl⟩ .nil)), IsTup.new _ _⟩
 | cons i r =>
  intro q
  refine ⟨.ref s.heap.objs.size, _, I.laid (t' := s.toks + 1 + 1) (o := .tup _) (fun b u e => Heap.get?_push_of_some _ e) (by omega) ?_, rfl, q⟩
  exact ⟨by show 3 ≤ sizeLine; decide, _, .cons ⟨_, rfl⟩ (.cons ⟨_, rfl⟩ (.cons ⟨_, rfl⟩ .nil)), IsTup.new _ _⟩
end
section
variable {X : Cx}
def rIntS : List V → Hp → VK → Prop := fun xs H Q => ∃ z n, xs = [.str z] ∧ z.length ≤ 640 ∧ PySem.intText? z = some n ∧ Q (.int n) H
theorem pqM {z : Str} {H : Hp} {Q : VK} : rIntS [.str z] H Q ↔ ∃ n, z.length ≤ 640 ∧ PySem.intText? z = some n ∧ Q (.int n) H :=
 ⟨fun ⟨_, n, e, h⟩ => by cases e; exact ⟨n, h⟩, fun ⟨n, h⟩ => ⟨z, n, rfl, h⟩⟩
theorem rqq {z y : Str} {i : Nat} {H : Hp} {Q : VK} : rStarts (.str z) [.str y, .int (i : Int)] H Q ↔ Q (.bl (decide (i + y.length ≤ z.length) && Builtin.Str.subAt z y i)) H :=
 ⟨fun ⟨_, _, j, e1, e2, h⟩ => by
  cases e1
  injection e2 with e2 e3
  cases e2
  injection e3 with e3
  injection e3 with e3
  obtain rfl : i = j := by omega
  exact h, fun h => ⟨z, y, i, rfl, rfl, h⟩⟩
theorem qqP {z y : Str} {H : Hp} {Q : VK} : rPart (.str z) [.str y] H Q ↔ (y.length == 0) = false ∧ z.length ≤ sizeLine ∧ ∀ p, H p = none → Q (.ref p) (upd H p (.tup [.str (Txt.partition z y).1, .str (Txt.partition z y).2.1, .str (Txt.partition z y).2.2])) :=
 ⟨fun ⟨_, _, e1, e2, h⟩ => by cases e1; cases e2; exact h, fun h => ⟨z, y, rfl, rfl, h⟩⟩
theorem qqC {K : PySem.W.Frag} {ta : TE} {f : Str} {σ : St} {H : Hp} {Q : VK} : (tFld K ta f σ H Q) = (ta σ H fun x H1 => ∃ a C dx fs v, x = .ref a ∧ H1 a = some (.ins C dx fs) ∧ Cls K C ∧ NoAttr K C f ∧ fs.lookup f = some v ∧ Q v H1) := rfl
theorem pqN {K : PySem.W.Frag} {ta tv : TE} {f : Str} {D : Ends} {σ : St} {H : Hp} : (sFld K ta tv f D σ H) = (tv σ H fun y H1 => ta σ H1 fun x H2 => ∃ a C dx fs, x = .ref a ∧ H2 a = some (.ins C dx fs) ∧ Cls K C ∧ NoAttr K C f ∧ fs.length < 1000 ∧ D.nx σ (upd H2 a (.ins C dx (putF f y fs)))) := rfl
theorem pqA {C : Addr} {m : Str} {sp : Sp} {dvs : List V} {E : XK} {ta : TE} {t : TA} {σ : St} {H : Hp} {Q : VK} : (tMeth C m sp dvs E ta t σ H Q) = (ta σ H fun x H1 => ∃ a dx fs, x = .ref a ∧ H1 a = some (.ins C dx fs) ∧ fs.lookup m = none ∧ t σ H1 fun vs H2 => sp (x :: (vs ++ dvs)) H2 Q E) := rfl
theorem oqT {C : Addr} {sp : Sp} {dvs : List V} {E : XK} {t : TA} {σ : St} {H : Hp} {Q : VK} : (tMake C sp dvs E t σ H Q) = (t σ H fun vs H1 => ∀ x dx, H1 x = none → H1 dx = none → dx ≠ x → sp (.ref x :: (vs ++ dvs)) (upd (upd H1 dx (.own x)) x (.ins C dx [])) (fun v H2 => v = .non ∧ Q (.ref x) H2) E) := rfl
end
end L2
namespace Wm
open PySem L2
theorem rqw (t w : List Nat) (i : Nat) (hi : i ≤ t.length) : (decide (i + (⟨w.toArray⟩ : Str).length ≤ (⟨t.toArray⟩ : Str).length) && Builtin.Str.subAt ⟨t.toArray⟩ ⟨w.toArray⟩ i) = decide ((t.drop i).take w.length = w) := by
 rw [aq8, aq8]
 have e : Builtin.Str.subAt ⟨t.toArray⟩ ⟨w.toArray⟩ i = decide ((t.drop i).take w.length = w) := by
  unfold Builtin.Str.subAt
  rw [aq8, Bool.eq_iff_iff, beq_iff_eq, decide_eq_true_eq]
  show (t.toArray.extract i (i + w.length) = w.toArray) ↔ _
  rw [← Array.toList_inj]
  simp
 rw [e]
 by_cases h : (t.drop i).take w.length = w
 ·have hl := congrArg List.length h
  rw [List.length_take, List.length_drop] at hl
  rw [decide_eq_true h, Bool.and_true]
  by_cases hw : w.length = 0
  ·rw [hw, Nat.add_zero]
   exact decide_eq_true hi
  ·exact decide_eq_true (by omega)
 ·rw [decide_eq_false h, Bool.and_false]
theorem occ1 (x y : Str) : ∀ (l : List Nat) (free : Nat), (∀ i ∈ l, free ≤ i) →
  (forIn l ((#[] : Array Nat), free) (StrLaws.occBody x y x.length 1)).run.fst.toList = (l.find? fun i => decide (i + y.length ≤ x.length) && Builtin.Str.subAt x y i).toList
 | [], free, _ => rfl
 | a :: l, free, hf => by
  rw [List.forIn_cons, List.find?_cons]
  have ha : free ≤ a := hf a (List.mem_cons_self ..)
  by_cases hc : a + y.length ≤ x.length ∧ Builtin.Str.subAt x y a = true
  ·have e : (decide (a + y.length ≤ x.length) && Builtin.Str.subAt x y a) = true := by rw [decide_eq_true hc.1, hc.2]; rfl
   rw [e]
   unfold StrLaws.occBody
   rw [if_pos ⟨⟨⟨by simp, ha⟩, hc.1⟩, hc.2⟩]
   have full : ∀ (l : List Nat) (st : Array Nat × Nat), st.1.size = 1 → (forIn l st (StrLaws.occBody x y x.length 1)).run.fst = st.1 := by
    intro l
    induction l with
    | nil => intro st _; rfl
    | cons b l ih =>
     intro st hs
     rw [List.forIn_cons]
     unfold StrLaws.occBody
     rw [if_neg (fun h => by have := h.1.1.1; omega)]
     exact ih st hs
   show (forIn l ((#[] : Array Nat).push a, a + y.length) (StrLaws.occBody x y x.length 1)).run.fst.toList = _
   rw [full l _ (by simp)]
   simp
  ·have e : (decide (a + y.length ≤ x.length) && Builtin.Str.subAt x y a) = false := by
    cases h1 : Builtin.Str.subAt x y a with
    | false => rw [Bool.and_false]
    | true => rw [Bool.and_true]; exact decide_eq_false fun z => hc ⟨z, h1⟩
   rw [e]
   unfold StrLaws.occBody
   rw [if_neg (fun h => hc ⟨h.1.2, h.2⟩)]
   exact occ1 x y l free fun i hi => hf i (List.mem_cons_of_mem _ hi)
def ahead (t : List Nat) : List Nat := t.takeWhile fun c => decide (c ≠ 58)
inductive WrT (fr : List Nat) : List Nat → List Nat → Prop
 | nil : WrT fr [] []
 | self {c : Nat} {s w : List Nat} : (isPl c = true ∨ c ∈ fr) → c ≠ 126 → WrT fr s w → WrT fr (c :: s) (c :: w)
 | pair {c a b : Nat} {s w : List Nat} : sgO a b = some c → WrT fr s w → WrT fr (c :: s) (126 :: a :: b :: w)
theorem mqc {fr s w s' w' : List Nat} (h : WrT fr s w) (h' : WrT fr s' w') : WrT fr (s ++ s') (w ++ w') := by
 induction h with
 | nil => exact h'
 | self a b _ ih => exact .self a b ih
 | pair a _ ih => exact .pair a ih
theorem jqf {fr s : List Nat} (h : ∀ c ∈ s, isSg c = true) : WrT fr s (wr s) := by
 induction s with
 | nil => exact .nil
 | cons c s ih =>
  have hc := h c (List.mem_cons_self ..)
  have ih := ih fun d hd => h d (List.mem_cons_of_mem _ hd)
  show WrT fr (c :: s) (wr1 c ++ wr s)
  unfold wr1
  by_cases hp : isPl c = true
  ·rw [if_pos hp]
   exact .self (.inl hp) (fun z => by rw [z] at hp; cases hp) ih
  ·rw [if_neg hp]
   exact .pair (kqc hc) ih
theorem oqa {a n : Nat} (h : fig a = some n) : a < 128 ∧ n < 16 ∧ (n < 10 → a = 48 + n) := by
 unfold fig at h
 split at h
 ·cases h; omega
 ·split at h
  ·cases h; omega
  ·split at h
   ·cases h; omega
   ·cases h
theorem iq8 {a b c : Nat} (h : sgO a b = some c) : a ∈ (Str.ofString "234567").cps.toList ∧ a < 128 ∧ b < 128 ∧ isSg c = true := by
 unfold sgO at h
 cases ha : fig a with
 | none => simp [ha] at h
 | some n =>
  cases hb : fig b with
  | none => simp [ha, hb] at h
  | some m =>
   simp only [ha, hb] at h
   split at h
   ·next hs =>
    cases h
    obtain ⟨a1, a2, a3⟩ := oqa ha
    obtain ⟨b1, b2, _⟩ := oqa hb
    have hr := hs
    simp only [isSg, Bool.and_eq_true, decide_eq_true_eq] at hr
    have e := a3 (by omega)
    refine ⟨?_, a1, b1, hs⟩
    have key : ∀ n, n < 8 → 2 ≤ n → 48 + n ∈ (Str.ofString "234567").cps.toList := by decide +kernel
    rw [e]
    exact key n (by omega) (by omega)
   ·cases h
section
variable {K : PySem.W.Frag} {H : Hp} {C p : Addr} {t : List Nat} {i : Nat}
end
def plS : List Nat := (Str.ofString "abcdefghijklmnopqrstuvwxyzABCDEFGHIJKLMNOPQRSTUVWXYZ0123456789-_.").cps.toList
theorem rqx {c : Nat} (h : c < 128) : (c ∈ plS) ↔ isPl c = true := by
 have := kqS c h
 rw [← this, decide_eq_true_eq]
 exact Iff.rfl
theorem kqk {fr s w : List Nat} (h : WrT fr s w) : s.length ≤ w.length := by
 induction h with
 | nil => exact Nat.le_refl _
 | self _ _ _ ih => simp only [List.length_cons]; omega
 | pair _ _ ih => simp only [List.length_cons]; omega
def frS : List Nat := (Str.ofString "!$'()*,;@&=+").cps.toList
def frQ : List Nat := (Str.ofString "!$'()*,;@+/?:").cps.toList
def ValW (o : Option (List Nat)) (w : List Nat) : Prop := match o with
 | none => w = []
 | some s => ∃ v, w = 61 :: v ∧ WrT frQ s v
inductive TlW : List (List Nat) → Bool → List Nat → Prop
 | stop : TlW [] false []
 | ends : TlW [] true [47]
 | more {s w : List Nat} {ss : List (List Nat)} {e : Bool} {v : List Nat} : WrT frS s w → s ≠ [] → TlW ss e v → TlW (s :: ss) e (47 :: (w ++ v))
inductive StpW : List (List Nat) → Bool → List Nat → Prop
 | none {e : Bool} : StpW [] e []
 | some {s w : List Nat} {ss : List (List Nat)} {e : Bool} {v : List Nat} : WrT frS s w → s ≠ [] → TlW ss e v → StpW (s :: ss) e (w ++ v)
inductive PrsW : List (List Nat × Option (List Nat)) → List Nat → Prop
 | nil : PrsW [] []
 | cons {n w v : List Nat} {o : Option (List Nat)} {ps : List (List Nat × Option (List Nat))} {r : List Nat} : WrT frQ n w → n ≠ [] → ValW o v → PrsW ps r → PrsW ((n, o) :: ps) (38 :: (w ++ (v ++ r)))
end Wm
namespace L2
open PySem
end L2
namespace Wm
open PySem L2
theorem rqo {c : Nat} (h : wch c = true) : c < 128 := by
 simp only [wch, isPl, Bool.or_eq_true, decide_eq_true_eq] at h
 omega
def GoodsT (n : Nat) (H : Hp) (vs : List V) : Prop := ∀ v ∈ vs, ∃ x : Ad, (x.Wf ∧ x.Tiny ∧ x.steps.length ≤ n) ∧ IsT H x.data v
theorem GoodsT.cons {n : Nat} {H : Hp} {v : V} {vs : List V} {x : Ad} (h1 : x.Wf ∧ x.Tiny ∧ x.steps.length ≤ n) (h3 : IsT H x.data v) (h : GoodsT n H vs) : GoodsT n H (v :: vs) := fun u hu => by
 rcases List.mem_cons.mp hu with rfl | hu
 ·exact ⟨x, h1, h3⟩
 ·exact h u hu
theorem Ad.Tiny.local {x : Ad} (h : x.Tiny) : ({ x with scheme := [], house := none, door := none } : Ad).Tiny := ⟨h.stp, h.que, h.mar, fun l e => by cases e⟩
theorem pq5 {fr s w : List Nat} (hf : ∀ c ∈ fr, c < 128) (h : WrT fr s w) : ∀ c ∈ w, c < 128 := by
 induction h with
 | nil => intro c hc; cases hc
 | self a b _ ih =>
  intro d hd
  rcases List.mem_cons.mp hd with rfl | hd
  ·rcases a with a | a
   ·exact rqo (by unfold wch; rw [a]; rfl)
   ·exact hf _ a
  ·exact ih d hd
 | pair a _ ih =>
  intro d hd
  obtain ⟨_, h1, h2, _⟩ := iq8 a
  simp only [List.mem_cons] at hd
  rcases hd with rfl | rfl | rfl | hd
  ·decide
  ·exact h1
  ·exact h2
  ·exact ih d hd
theorem lqK {c : Nat} (hc : isSg c = true) : sgO (if c / 16 < 10 then 48 + c / 16 else 55 + c / 16) (if c % 16 < 10 then 48 + c % 16 else 55 + c % 16) = some c := by
 have l := dqV hc
 have key : ∀ h, h < 16 → fig (if h < 10 then 48 + h else 55 + h) = some h := by decide +kernel
 unfold sgO
 rw [key (c / 16) (by omega), key (c % 16) (by omega)]
 simp only
 rw [show c / 16 * 16 + c % 16 = c by omega, if_pos hc]
theorem oqV : ∀ n, n < 16 → (Str.ofString "0123456789abcdef").cps.toList[n]? = some (hexd n) := by decide +kernel
theorem lqH : ∀ n, n < 16 → (Str.ofString "0123456789ABCDEF").cps.toList[n]? = some (if n < 10 then 48 + n else 55 + n) := by decide +kernel
end Wm
namespace L2
open PySem
theorem gq2 {K : PySem.W.Frag} {p a : Addr} {fv : St} {te : TE} {Q : VK} {H1 : Hp} {xs : List V} (J : Nat → List V → Hp → Prop) (hlen : xs.length ≤ sizeLine) (h0 : J 0 [] (upd H1 p (.lst []))) (hS : ∀ i ys H2, J i ys H2 → SqT K H2 a xs)
  (he : ∀ (i : Nat) (x : V) (ys : List V) (H2 : Hp) (T : VK), xs[i]? = some x → J i ys H2 → H2 p = some (.lst ys) → (∀ y H3, H3 p = some (.lst ys) → J (i + 1) (ys ++ [y]) (upd H3 p (.lst (ys ++ [y]))) → T y H3) → te (some x :: fv) H2 T)
  (hQ : ∀ ys H2, J xs.length ys H2 → H2 p = some (.lst ys) → Q (.ref p) H2) : CompI (Itt K a) p fv tYes te Q H1 := by
 refine ⟨fun i m ys H2 => m = xs.length - i ∧ i ≤ xs.length ∧ ys.length = i ∧ H2 p = some (.lst ys) ∧ J i ys H2, ⟨xs.length, by simp, Nat.zero_le _, rfl, aqk, h0⟩, ?_⟩
 rintro i m ys H2 ⟨rfl, hi, hyl, hp2, hJ⟩
 refine ⟨hp2, ?_⟩
 have q := hS _ _ _ hJ
 by_cases hlt : i < xs.length
 ·refine .inr ⟨⟨xs, xs[i], q, by simp [hlt]⟩, by omega, fun x H3 y => ?_⟩
  obtain ⟨rfl, y⟩ := y
  have hc := y xs q
  unfold tYes
  dsimp only
  rw [if_pos rfl]
  exact he i x ys _ _ hc hJ hp2 fun y H5 hp5 hJ5 => ⟨hp5, xs.length - (i + 1), by omega, rfl, hlt, by rw [List.length_append, hyl]; rfl, aqk, hJ5⟩
 ·have e : i = xs.length := by omega
  subst e
  exact .inl ⟨⟨xs, q, Nat.le_refl _⟩, hQ ys H2 hJ hp2⟩
end L2
namespace Wm
open PySem L2
def PrW (p : List Nat × Option (List Nat)) (w : List Nat) : Prop := ∃ a v, w = a ++ v ∧ WrT frQ p.1 a ∧ ValW p.2 v
inductive PrWs : List (List Nat × Option (List Nat)) → List (List Nat) → Prop
 | nil : PrWs [] []
 | cons {p : List Nat × Option (List Nat)} {w : List Nat} {ps : List (List Nat × Option (List Nat))} {ws : List (List Nat)} : PrW p w → PrWs ps ws → PrWs (p :: ps) (w :: ws)
inductive StWs : List (List Nat) → List (List Nat) → Prop
 | nil : StWs [] []
 | cons {s w : List Nat} {ss ws : List (List Nat)} : WrT frS s w → StWs ss ws → StWs (s :: ss) (w :: ws)
end Wm
namespace L2
open PySem PySem.Spec PyProof.Rows
section
variable {X : Cx} {pins : List (Addr × Obj)} {σ : St} {H : Hp} {s : Shared} {h' : Heap}
theorem Inv.walked {t' : Nat} {wr : List Addr} {T : Addr} {o : HO} (I : Inv X pins σ H s) (hf : ∀ b ∈ wr, FpOk X pins H b) (k : ∀ b u, b ∉ wr → s.heap.get? b = some u → h'.get? b = some u) (hT : s.heap.objs.size ≤ T)
  (new : ObjOk X.prog X.w (upd H T o) h' T o) : Inv X pins σ (upd H T o) { s with heap := h', toks := t' } := by
 have hn : H T = none := I.hok.fresh hT
 have nw : ∀ b u, H b = some u → b ∉ wr := fun b u e z => by rw [(hf b z).1] at e; cases e
 refine I.step (g' := s.gens) (d' := s.drawn) (ch := wr) (fun b hb => ?_) (fun b u _ _ hc e _ => k b u hc e) (fun b u _ _ hc e _ => ⟨u.slots, k b u hc e⟩) (fun b u _ q n => ?_)
  (fun b u hc e => ⟨u, k b u hc e⟩) (fun b xs q => ?_) (fun b u xs q => ?_) (fun b ps q => ?_) (fun m hm => ?_) (fun b u e => ?_) I.bare
 ·obtain ⟨f0, f1, f2, f3, f4, f5⟩ := hf b hb
  exact ⟨f3, f1, f4, f5⟩
 ·rw [aqw (Nat.ne_of_lt (Nat.lt_of_lt_of_le (Heap.lt_size q) hT))]; exact n
 ·rw [aqw (aqo q hn)]; exact q
 ·rw [aqw (aqo q hn)]; exact q
 ·exact ⟨#[], by rw [aqw (aqo q hn), q]; simp⟩
 ·obtain ⟨u, es, ep, ho, r⟩ := hm
  refine ⟨u, es, ep, k _ u (fun z => ?_) ho, r⟩
  exact (hf _ z).2.1 rfl
 ·by_cases hb : b = T
  ·subst hb; rw [aqk] at e; cases e; exact new
  ·rw [aqw hb] at e
   refine (I.hok b u e).stay (fun c v hc q => k c v ?_ q) (fun c q => by rw [aqw (aqo q hn)]; exact q) fun c xs q => by rw [aqw (aqo q hn)]; exact q
   rcases hc with z | z
   ·rw [z]; exact nw b u e
   ·exact nw c _ z
theorem Inv.turnedL {t' : Nat} {wr : List Addr} (I : Inv X pins σ H s) (hf : ∀ b ∈ wr, FpOk X pins H b) (k : ∀ b u, b ∉ wr → s.heap.get? b = some u → h'.get? b = some u) : Inv X pins σ H { s with heap := h', toks := t' } := by
 have nw : ∀ b u, H b = some u → b ∉ wr := fun b u e z => by rw [(hf b z).1] at e; cases e
 refine I.step (g' := s.gens) (d' := s.drawn) (ch := wr) (fun b hb => ?_) (fun b u _ _ hc e _ => k b u hc e) (fun b u _ _ hc e _ => ⟨u.slots, k b u hc e⟩) (fun _ _ _ _ n => n)
  (fun b u hc e => ⟨u, k b u hc e⟩) (fun _ _ e => e) (fun _ _ _ e => e) (fun b ps e => ⟨#[], by rw [e]; simp⟩) (fun m hm => ?_) (fun b u e => ?_) I.bare
 ·obtain ⟨f0, f1, f2, f3, f4, f5⟩ := hf b hb
  exact ⟨f3, f1, f4, f5⟩
 ·obtain ⟨u, es, ep, ho, r⟩ := hm
  refine ⟨u, es, ep, k _ u (fun z => ?_) ho, r⟩
  exact (hf _ z).2.1 rfl
 ·refine (I.hok b u e).stay (fun c v hc q => k c v ?_ q) (fun _ q => q) fun _ _ q => q
  rcases hc with z | z
  ·rw [z]; exact nw b u e
  ·exact nw c _ z
end
def ItW (n : Nat) (ok : Hp → Prop) (pt : Nat → Hp → List V → Prop) : It :=
 ⟨fun i H => i < n ∧ ok H, fun i H x H' => ∃ T xs, x = .ref T ∧ H T = none ∧ H' = upd H T (.tup xs) ∧ pt i H xs, fun i H => i = n ∧ ok H⟩
theorem jqr {P : Program} {w : World} {K : PySem.W.Frag} {elts : List Expr} {k : Nat} {pos : Pos} {I : Addr} {fp wr fq : List Addr} {n : Nat} {α : Type} {Pt : α → Nat → Array Value → Prop} {Sn : α → Nat → Heap → Prop} {Mid : α → Nat → Addr → Heap → Prop} {tn : Nat → Heap → Prop} {ok : Hp → Prop} {pt : Nat → Hp → List V → Prop}
  (hI : I ∈ fq) (hq : ∀ b ∈ wr, b ∈ fq) (hW : ∀ (A : Around) (a : α), A.handled = none → WalksT P w A I fp wr n (Pt a) (Sn a) (Mid a))
  (hself : ∀ (A : Around) (i : Nat) (s : Shared) (Q : Value → Shared → Prop) (E : Value → Shared → Prop), tn i s.heap → Q (.ref I) s → wpAny (model P w) A (pyIter (.ref I)) Q E s)
  (hobj : ∀ i h, tn i h → ∀ b ∈ fq, ∃ o, h.get? b = some o ∧ ∀ v, o.data ≠ .cell v)
  (hkeep : ∀ i h h', tn i h → (∀ b ∈ fq, ∀ o, h.get? b = some o → h'.get? b = some o) → tn i h')
  (hin : ∀ (X : Cx), X.prog = P → X.w = w → X.K = K → ∀ (i : Nat) (pins : List (Addr × Obj)) (s : Shared) (σ : St) (H : Hp), Inv X pins σ H s → (∀ b ∈ fq, FpOk X pins H b) → tn i s.heap → ok H → ∃ a, Sn a i s.heap ∧ ∀ vals, Pt a i vals → ∃ xs, xs.length ≤ sizeLine ∧ Vals xs vals.toList ∧ pt i H xs)
  (hout : ∀ a i h, Sn a i h → tn i h) :
  Turn P w K (.Tuple elts k pos) (ItW n ok pt) fq I tn where
 mem := hI
 obj := hobj
 keep := hkeep
 item := by
  intro X hP hw hK hc i pins s σ H E J hf st hg
  obtain ⟨hi, hok⟩ := hg
  have hfw : ∀ b ∈ wr, FpOk X pins H b := fun b hb => hf b (hq b hb)
  obtain ⟨a, hst, hv⟩ := hin X hP hw hK i pins s σ H J hf st hok
  obtain ⟨hW1, hW2, hW3, hW4, hW5, hW6, hW7⟩ := hW X.A a (J.ok.hd hc)
  refine hW3 i s _ E hi hst fun T vals h1 tk hPt hT hTup hmid hk => ?_
  refine ⟨.ref T, rfl, ?_⟩
  refine hW4 elts k pos i T _ _ E hmid fun h2 st2 hk2 => ?_
  obtain ⟨xs, hxl, hvs, hpt⟩ := hv vals hPt
  have hTw : T ∉ wr := hW5 i T h1 hmid
  have hTn : H T = none := J.hok.fresh hT
  have hk3 : ∀ b u, b ∉ wr → s.heap.get? b = some u → h2.get? b = some u := fun b u hb e => hk2 b u hb (hk b u hb e)
  obtain ⟨o, ho, hcl, m, hd⟩ := hTup
  have hT2 : IsTup h2 T vals.toList.toArray := by
   refine ⟨o, hk2 T o hTw ho, hcl, m, ?_⟩
   rw [hd]
  refine ⟨.ref T, upd H T (.tup xs), J.walked (t' := tk) hfw hk3 hT ⟨hxl, vals.toList, hvs, hT2⟩, rfl, ⟨T, xs, rfl, hTn, rfl, hpt⟩, hout a _ _ st2, fun b hb => ?_⟩
  have : b ≠ T := fun z => by
   obtain ⟨o, e, _⟩ := hobj i _ st b hb
   exact absurd (Heap.lt_size e) (by rw [z]; exact Nat.not_lt.mpr hT)
  rw [aqw this]
  exact (hf b hb).1
 done := by
  intro X hP hw hK hc i pins s σ H E J hf st hg
  obtain ⟨hi, hok⟩ := hg
  subst hi
  have hfw : ∀ b ∈ wr, FpOk X pins H b := fun b hb => hf b (hq b hb)
  obtain ⟨a, hst, _⟩ := hin X hP hw hK i pins s σ H J hf st hok
  obtain ⟨hW1, hW2, hW3, hW4, hW5, hW6, hW7⟩ := hW X.A a (J.ok.hd hc)
  exact hW6 s _ E hst fun h1 tk hk => ⟨rfl, J.turnedL hfw hk⟩
 self := hself
section
variable {σ : St} {H : Hp} {D : Ends} {g : TG} {tb : TS}
theorem lqF {n : Nat} {ok : Hp → Prop} {pt : Nat → Hp → List V → Prop} (Pv : Nat → St → Hp → Prop) (h0 : Pv 0 σ H) (hl : ∀ i σ H, i ≤ n → Pv i σ H → ok H)
  (hs : ∀ i σ H T xs, i < n → Pv i σ H → H T = none → pt i H xs → g (.ref T) σ (upd H T (.tup xs)) fun σ2 H2 => tb { D with nx := Pv (i + 1), ct := Pv (i + 1), bk := D.nx } σ2 H2) (hd : ∀ σ H, Pv n σ H → D.nx σ H) : LoopI (ItW n ok pt) g tb D σ H := by
 refine ⟨fun i m σ H => m = n - i ∧ i ≤ n ∧ Pv i σ H, ⟨n, by simp, Nat.zero_le _, h0⟩, ?_⟩
 rintro i m σ H ⟨rfl, hi, p⟩
 have hq := hl i σ H hi p
 by_cases hlt : i < n
 ·refine .inr ⟨⟨hlt, hq⟩, Pv (i + 1), fun σ' H' p' => ⟨n - (i + 1), by omega, rfl, hlt, p'⟩, fun x H' y => ?_⟩
  obtain ⟨T, xs, rfl, hT, rfl, hp⟩ := y
  exact hs i σ _ T xs hlt p hT hp
 ·have e : i = n := by omega
  subst e
  exact .inl ⟨⟨rfl, hq⟩, hd σ H p⟩
end
section
variable {prog : Program} {w : World} {A : Around} {E : Value → Shared → Prop} {s : Shared}
end
abbrev enuO (it : Addr) : Obj := { cls := .type "enumerate", data := .fields #[.none, .bool false, .ref it, rawInt 0, .none, .none] }
section
variable {prog : Program} {w : World} {A : Around} {E : Value → Shared → Prop} {s : Shared}
end
def ItE (K : PySem.W.Frag) (a : Addr) (xs : List V) : It := ItW xs.length (fun H => SqT K H a xs) fun i _ ys => ∃ v, xs[i]? = some v ∧ ys = [.int (i : Int), v]
section
variable {X : Cx} {K : PySem.W.Frag} {elts : List Expr} {kk : Nat} {tpos : Pos}
def iEnum (K : PySem.W.Frag) (ta : TA) : TI := fun σ H R => ta σ H fun vs H1 => ∃ a xs, vs = [.ref a] ∧ SqT K H1 a xs ∧ R (ItE K a xs) H1
variable {σ : St} {H : Hp} {D : Ends} {g : TG} {tb : TS} {aa : TA}
theorem pqX : (tFor (iEnum K aa) g tb D σ H) = (aa σ H fun vs H1 => ∃ a xs, vs = [.ref a] ∧ SqT K H1 a xs ∧ LoopI (ItE K a xs) g tb D σ H1) := rfl
end
structure Zap (z TI TO i1 i2 l1 l2 : Addr) : Prop where
 a1 : TI ≠ z ∧ TO ≠ z ∧ i1 ≠ z ∧ i2 ≠ z ∧ l1 ≠ z ∧ l2 ≠ z
 a2 : TI ≠ TO ∧ TI ≠ i1 ∧ TI ≠ i2 ∧ TO ≠ i1 ∧ TO ≠ i2 ∧ i1 ≠ i2
 a3 : l1 ≠ TO ∧ l2 ≠ TO ∧ l1 ≠ i2 ∧ l2 ≠ i1
section
variable {prog : Program} {w : World} {A : Around} {E : Value → Shared → Prop} {s : Shared}
variable {z TI TO i1 i2 l1 l2 : Addr} {n1 n2 k : Nat} {P1 P2 : Nat → Value → Prop} {S1 S2 : Nat → Heap → Prop}
theorem still {it l b : Addr} {n i : Nat} {P : Nat → Value → Prop} {S : Nat → Heap → Prop} {h h' : Heap} (D : Draws prog w A it [it, l] n P S) (st : S i h) (e : Heap.ExtBut b h h') (h1 : it ≠ b) (h2 : l ≠ b) : S i h' :=
 D.frame i h h' st fun c hc o q => e c o (by rcases List.mem_cons.mp hc with rfl | hc; exact h1; rw [List.mem_singleton.mp hc]; exact h2) q
theorem mq6 (hh : A.handled = none) (d1 : ∀ A : Around, A.handled = none → Draws prog w A i1 [i1, l1] n1 P1 S1) (d2 : ∀ A : Around, A.handled = none → Draws prog w A i2 [i2, l2] n2 P2 S2) (ap : Zap z TI TO i1 i2 l1 l2) {a b : Value} {Q : Value → Shared → Prop}
  (hz : IsZip s.heap z TI TO .none) (hTI : IsPair s.heap TI (.ref i1) (.ref i2)) (hTO : IsPair s.heap TO a b) (t1 : S1 k s.heap) (t2 : S2 k s.heap) (k1 : k < n1) (k2 : k < n2)
  (q : ∀ x y h' tk, P1 k x → P2 k y → IsZip h' z TI TO (rawInt s.heap.objs.size) → IsPair h' TO x y → S1 (k + 1) h' → S2 (k + 1) h' → IsPair h' s.heap.objs.size x y →
   (∀ c o, c ≠ z → c ≠ TO → c ≠ i1 → c ≠ i2 → s.heap.get? c = some o → h'.get? c = some o) → Q (.ref s.heap.objs.size) { s with heap := h', toks := tk }) :
  wpAny (model prog w) A (Builtin.«zip.__next__» ⟨[.ref z], []⟩) (fun fin s' => ∃ v, fin = .done (.ret v) ∧ Q v s') E s := by
 obtain ⟨⟨p1, p2, p3, p4, p5, p6⟩, ⟨q1, q2, q3, q4, q5, q6⟩, r1, r2, r3, r4⟩ := ap
 show wpAny _ _ (field (.ref z) 2 >>= _) _ _ s
 refine wpAny_bind (wpAny_field (s := s) hz rfl (x := .bool false) rfl ?_)
 show wpAny _ _ (field (.ref z) 3 >>= _) _ _ s
 refine wpAny_bind (wpAny_field (s := s) hz rfl (x := .ref TI) rfl (wpAny_bind (wpAny_seqItems hTI rfl ?_)))
 show wpAny _ _ (Builtin.SmallTypes.ownedTupleIsFree (.ref z) >>= _) _ _ s
 unfold Builtin.SmallTypes.ownedTupleIsFree
 refine wpAny_bind (wpAny_bind (wpAny_field (s := s) hz rfl (x := .none) rfl (wpAny_pure ?_)))
 simp only [if_true]
 refine wpAny_bind (wpAny_rule (wpAny_bind (wpAny_field (s := s) hz rfl (x := .ref TO) rfl (wpAny_bind (wpAny_setField_rec hz (by simp) fun ha za sa => ?_)))))
 replace za : IsZip ha z TI TO .ellipsis := za
 simp only [List.zipIdx_cons, List.zipIdx_nil, List.forIn_cons, List.forIn_nil]
 refine wpAny_bind (wpAny_bind (wpAny_bind (wpAny_onRaise ?_)))
 show wpAny _ _ (Builtin.SmallTypes.nextOf (.ref i1) >>= _) _ _ _
 refine wpAny_bind ((d1 A hh).item k _ _ _ k1 (still (d1 A hh) t1 sa.extBut p3 p5) fun x hb tb px s1b sb => wpAny_pure ?_)
 have ob : IsPair hb TO a b := sb.extBut _ _ q4 (sa.extBut _ _ p2 hTO)
 refine wpAny_bind (wpAny_seqItems ob rfl (wpAny_bind (wpAny_updateSeq_pair ob fun hc oc sc => wpAny_bind (wpAny_letGo (wpAny_pure ?_)))))
 replace oc : IsPair hc TO x b := oc
 refine wpAny_bind (wpAny_bind (wpAny_onRaise ?_))
 show wpAny _ _ (Builtin.SmallTypes.nextOf (.ref i2) >>= _) _ _ _
 have t2c : S2 k hc := still (d2 A hh) (still (d2 A hh) (still (d2 A hh) t2 sa.extBut p4 p6) sb.extBut q6.symm r4) sc.extBut q5.symm r2
 refine wpAny_bind ((d2 A hh).item k _ _ _ k2 t2c fun y hd td py s2d sd => wpAny_pure ?_)
 have od : IsPair hd TO x b := sd.extBut _ _ q5 oc
 refine wpAny_bind (wpAny_seqItems od rfl (wpAny_bind (wpAny_updateSeq_pair od fun he oe se => wpAny_bind (wpAny_letGo (wpAny_pure (wpAny_pure ?_))))))
 replace oe : IsPair he TO x y := oe
 refine wpAny_bind (wpAny_seqItems oe rfl (wpAny_bind (wpAny_newTuple ?_)))
 have ze : IsZip he z TI TO .ellipsis := se.extBut _ _ p2.symm (sd.extBut _ _ p4.symm (sc.extBut _ _ p2.symm (sb.extBut _ _ p3.symm za)))
 have hsz : he.objs.size = s.heap.objs.size := by rw [se.1, sd.1, sc.1, sb.1, sa.1]
 have ke : ∀ c o, c ≠ z → c ≠ TO → c ≠ i1 → c ≠ i2 → s.heap.get? c = some o → he.get? c = some o := fun c o c1 c2 c3 c4 e => se.extBut _ _ c2 (sd.extBut _ _ c4 (sc.extBut _ _ c2 (sb.extBut _ _ c3 (sa.extBut _ _ c1 e))))
 have s1e : S1 (k + 1) he := still (d1 A hh) (still (d1 A hh) (still (d1 A hh) s1b sc.extBut q4.symm r1) sd.extBut q6 r3) se.extBut q4.symm r1
 have s2e : S2 (k + 1) he := still (d2 A hh) s2d se.extBut q5.symm r2
 have zl : z < he.objs.size := Heap.lt_size ze
 show wpAny _ _ (Builtin.SmallTypes.ownedTupleHandOut (.ref z) (.ref he.objs.size) >>= _) _ _ _
 unfold Builtin.SmallTypes.ownedTupleHandOut
 have zf : IsZip (he.push { cls := .type "tuple", data := .seq #[x, y] }) z TI TO .ellipsis := Heap.get?_push_of_some _ ze
 refine wpAny_bind (wpAny_bind (wpAny_setField_rec zf (by simp) fun hf zg sf => ?_))
 replace zg : IsZip hf z TI TO (rawInt he.objs.size) := zg
 refine wpAny_setField_rec zg (by simp) fun hg zh sg => ?_
 replace zh : IsZip hg z TI TO (rawInt he.objs.size) := zh
 have up : ∀ c o, c ≠ z → he.get? c = some o → hg.get? c = some o := fun c o c1 e => sg.extBut _ _ c1 (sf.extBut _ _ c1 (Heap.get?_push_of_some _ e))
 have tg : IsPair hg he.objs.size x y := sg.extBut _ _ (Nat.ne_of_gt zl) (sf.extBut _ _ (Nat.ne_of_gt zl) (Heap.get?_push_size _ rfl))
 rw [hsz] at zh tg
 refine wpAny_pure ⟨_, rfl, ?_⟩
 show Q (.ref he.objs.size) _
 rw [hsz]
 exact q x y hg td px py zh (up _ _ p2 oe) ((d1 A hh).frame _ _ _ s1e fun c hc o e => up c o (by rcases List.mem_cons.mp hc with rfl | hc; exact p3; rw [List.mem_singleton.mp hc]; exact p5) e) ((d2 A hh).frame _ _ _ s2e fun c hc o e => up c o (by rcases List.mem_cons.mp hc with rfl | hc; exact p4; rw [List.mem_singleton.mp hc]; exact p6) e) tg fun c o c1 c2 c3 c4 e => up c o c1 (ke c o c1 c2 c3 c4 e)
theorem nqH (hh : A.handled = none) (d1 : ∀ A : Around, A.handled = none → Draws prog w A i1 [i1, l1] n1 P1 S1) (d2 : ∀ A : Around, A.handled = none → Draws prog w A i2 [i2, l2] n2 P2 S2) (ap : Zap z TI TO i1 i2 l1 l2) {a b : Value} {Q : Fin → Shared → Prop}
  (hz : IsZip s.heap z TI TO .none) (hTI : IsPair s.heap TI (.ref i1) (.ref i2)) (hTO : IsPair s.heap TO a b) (t1 : S1 k s.heap) (t2 : S2 k s.heap) (hk : k = n1 ∨ (k < n1 ∧ k = n2))
  (q : ∀ h' e tk, (∀ c o, c ≠ z → c ≠ TO → c ≠ i1 → c ≠ i2 → s.heap.get? c = some o → h'.get? c = some o) → (∃ o, h'.get? e = some o ∧ o.cls = .type "StopIteration") → E (.ref e) { s with heap := h', toks := tk }) :
  wpAny (model prog w) A (Builtin.«zip.__next__» ⟨[.ref z], []⟩) Q E s := by
 obtain ⟨⟨p1, p2, p3, p4, p5, p6⟩, ⟨q1, q2, q3, q4, q5, q6⟩, r1, r2, r3, r4⟩ := ap
 show wpAny _ _ (field (.ref z) 2 >>= _) _ _ s
 refine wpAny_bind (wpAny_field (s := s) hz rfl (x := .bool false) rfl ?_)
 show wpAny _ _ (field (.ref z) 3 >>= _) _ _ s
 refine wpAny_bind (wpAny_field (s := s) hz rfl (x := .ref TI) rfl (wpAny_bind (wpAny_seqItems hTI rfl ?_)))
 show wpAny _ _ (Builtin.SmallTypes.ownedTupleIsFree (.ref z) >>= _) _ _ s
 unfold Builtin.SmallTypes.ownedTupleIsFree
 refine wpAny_bind (wpAny_bind (wpAny_field (s := s) hz rfl (x := .none) rfl (wpAny_pure ?_)))
 simp only [if_true]
 refine wpAny_bind (wpAny_rule (wpAny_bind (wpAny_field (s := s) hz rfl (x := .ref TO) rfl (wpAny_bind (wpAny_setField_rec hz (by simp) fun ha za sa => ?_)))))
 replace za : IsZip ha z TI TO .ellipsis := za
 simp only [List.zipIdx_cons, List.zipIdx_nil, List.forIn_cons, List.forIn_nil]
 refine wpAny_bind (wpAny_bind (wpAny_bind (wpAny_onRaise ?_)))
 show wpAny _ _ (Builtin.SmallTypes.nextOf (.ref i1) >>= _) _ _ _
 rcases hk with rfl | ⟨k1, rfl⟩
 ·refine wpAny_bind ((d1 A hh).done _ _ _ (still (d1 A hh) t1 sa.extBut p3 p5) fun hb e sb W' => ?_)
  obtain ⟨oe, ho, hc⟩ := W'
  have zb : IsZip hb z TI TO .ellipsis := sb _ _ p3.symm za
  have ez : e ≠ z := fun y => by subst y; rw [zb] at ho; cases ho; simp at hc
  exact wpAny_setField_rec zb (by simp) fun hd _ sd => q hd e _ (fun c o c1 _ c3 _ y => sd.extBut _ _ c1 (sb _ _ c3 (sa.extBut _ _ c1 y))) ⟨oe, sd.extBut _ _ ez ho, hc⟩
 refine wpAny_bind ((d1 A hh).item _ _ _ _ k1 (still (d1 A hh) t1 sa.extBut p3 p5) fun x hb tb px s1b sb => wpAny_pure ?_)
 have ob : IsPair hb TO a b := sb.extBut _ _ q4 (sa.extBut _ _ p2 hTO)
 refine wpAny_bind (wpAny_seqItems ob rfl (wpAny_bind (wpAny_updateSeq_pair ob fun hc oc sc => wpAny_bind (wpAny_letGo (wpAny_pure ?_)))))
 refine wpAny_bind (wpAny_bind (wpAny_onRaise ?_))
 show wpAny _ _ (Builtin.SmallTypes.nextOf (.ref i2) >>= _) _ _ _
 have t2c := still (d2 A hh) (still (d2 A hh) (still (d2 A hh) t2 sa.extBut p4 p6) sb.extBut q6.symm r4) sc.extBut q5.symm r2
 refine wpAny_bind ((d2 A hh).done _ _ _ t2c fun hd e sd W' => ?_)
 obtain ⟨oe, ho, hce⟩ := W'
 have zd : IsZip hd z TI TO .ellipsis := sd _ _ p4.symm (sc.extBut _ _ p2.symm (sb.extBut _ _ p3.symm za))
 have ez : e ≠ z := fun y => by subst y; rw [zd] at ho; cases ho; simp at hce
 exact wpAny_setField_rec zd (by simp) fun hf _ sf => q hf e _ (fun c o c1 c2 c3 c4 y => sf.extBut _ _ c1 (sd _ _ c4 (sc.extBut _ _ c2 (sb.extBut _ _ c3 (sa.extBut _ _ c1 y))))) ⟨oe, sf.extBut _ _ ez ho, hce⟩
theorem lqX (hh : A.handled = none) (d1 : ∀ A : Around, A.handled = none → Draws prog w A i1 [i1, l1] n1 P1 S1) (d2 : ∀ A : Around, A.handled = none → Draws prog w A i2 [i2, l2] n2 P2 S2) (ap : Zap z TI TO i1 i2 l1 l2) :
  WalksT prog w A z [z, TI, TO, i1, i2, l1, l2] [z, TO, i1, i2] (min n1 n2) (fun i vals => ∃ x y, P1 i x ∧ P2 i y ∧ vals = #[x, y])
   (fun i h => IsZip h z TI TO .none ∧ IsPair h TI (.ref i1) (.ref i2) ∧ (∃ a b, IsPair h TO a b) ∧ S1 i h ∧ S2 i h)
   (fun i T h => IsZip h z TI TO (rawInt T) ∧ IsPair h TI (.ref i1) (.ref i2) ∧ (∃ a b, IsPair h TO a b) ∧ S1 (i + 1) h ∧ S2 (i + 1) h ∧ T ≠ z ∧ T ≠ TO ∧ T ≠ i1 ∧ T ≠ i2) where
 sub := fun c hc => by simp at hc ⊢; rcases hc with rfl | rfl | rfl | rfl <;> simp
 frame := fun i h h' st hk => by
  obtain ⟨hz, hTI, ⟨a, b, hTO⟩, t1, t2⟩ := st
  exact ⟨hk z (by simp) _ hz, hk TI (by simp) _ hTI, ⟨a, b, hk TO (by simp) _ hTO⟩, (d1 A hh).frame _ _ _ t1 fun c hc o e => hk c (by simp at hc ⊢; rcases hc with rfl | rfl <;> simp) o e, (d2 A hh).frame _ _ _ t2 fun c hc o e => hk c (by simp at hc ⊢; rcases hc with rfl | rfl <;> simp) o e⟩
 item := fun i s Q E hi st hQ => by
  obtain ⟨hz, hTI, ⟨a, b, hTO⟩, t1, t2⟩ := st
  have hT : s.TypeIs (.ref z) "zip" := ⟨_, hz, rfl⟩
  have lt : ∀ {c o}, s.heap.get? c = some o → s.heap.objs.size ≠ c := fun e => Nat.ne_of_gt (Heap.lt_size e)
  unfold pyNext
  refine wpAny_bind (wpAny_attempt (wpAny_callSpecial?_slot (name := Str.ofString "__next__") hT F.slot_zip_next (wpAny_call_entry F.slot_zip_next hT F.entry_zip_next ?_ (F.args_zip_next_1 _))))
  refine mq6 (A := A.in1) hh d1 d2 ap hz hTI hTO t1 t2 (Nat.lt_of_lt_of_le hi (Nat.min_le_left ..)) (Nat.lt_of_lt_of_le hi (Nat.min_le_right ..)) fun x y h' tk px py z' o' s1 s2 T' hk => wpAny_pure ?_
  obtain ⟨o1, e1⟩ := (d1 A hh).live _ _ t1
  obtain ⟨o2, e2⟩ := (d2 A hh).live _ _ t2
  exact hQ s.heap.objs.size #[x, y] h' tk ⟨x, y, px, py, rfl⟩ (Nat.le_refl _) ⟨_, T', rfl, _, rfl⟩
   ⟨z', hk _ _ ap.a1.1 ap.a2.1 ap.a2.2.1 ap.a2.2.2.1 hTI, ⟨_, _, o'⟩, s1, s2, lt hz, lt hTO, lt e1, lt e2⟩
   fun c o hc e => hk c o (fun y => hc (by simp [y])) (fun y => hc (by simp [y])) (fun y => hc (by simp [y])) (fun y => hc (by simp [y])) e
 go := fun elts k pos i T s Q E hm hQ => by
  obtain ⟨hz, hTI, ⟨a, b, hTO⟩, t1, t2, _⟩ := hm
  obtain ⟨⟨p1, p2, p3, p4, p5, p6⟩, _⟩ := ap
  exact wpAny_letOwnedTupleGo_zip hz fun h' z' s' => hQ h' ⟨z', s'.extBut _ _ p1 hTI, ⟨a, b, s'.extBut _ _ p2 hTO⟩, still (d1 A hh) t1 s'.extBut p3 p5, still (d2 A hh) t2 s'.extBut p4 p6⟩ fun c o hc e => s'.extBut _ _ (fun y => hc (by simp [y])) e
 apart := fun i T h hm hT => by
  obtain ⟨_, _, _, _, _, t1, t2, t3, t4⟩ := hm
  simp only [List.mem_cons, List.not_mem_nil, or_false] at hT
  rcases hT with h | h | h | h
  ·exact t1 h
  ·exact t2 h
  ·exact t3 h
  ·exact t4 h
 done := fun s Q E st hQ => by
  obtain ⟨hz, hTI, ⟨a, b, hTO⟩, t1, t2⟩ := st
  have hT : s.TypeIs (.ref z) "zip" := ⟨_, hz, rfl⟩
  unfold pyNext
  refine wpAny_bind (wpAny_attempt (wpAny_callSpecial?_slot (name := Str.ofString "__next__") hT F.slot_zip_next (wpAny_call_entry F.slot_zip_next hT F.entry_zip_next ?_ (F.args_zip_next_1 _))))
  refine nqH (A := A.in1) hh d1 d2 ap hz hTI hTO t1 t2 (by omega) fun h' e tk hk W' => ?_
  obtain ⟨o, ho, hc⟩ := W'
  refine wpAny_bind (wpAny_isInstance (T := "StopIteration") (b := true) ⟨o, ho, hc⟩ isSubtype_stop (wpAny_pure (hQ h' tk fun c o hc e => ?_)))
  exact hk c o (fun y => hc (by simp [y])) (fun y => hc (by simp [y])) (fun y => hc (by simp [y])) (fun y => hc (by simp [y])) e
 self := fun i s Q E st hQ => wpAny_pyIter_zip st.1 hQ
end
section
variable {prog : Program} {w : World} {A : Around} {E : Value → Shared → Prop} {s : Shared}
end
def ItZ (K : PySem.W.Frag) (a b : Addr) (xs ys : List V) : It := ItW (min xs.length ys.length) (fun H => SqT K H a xs ∧ SqT K H b ys) fun i _ vs => ∃ x y, xs[i]? = some x ∧ ys[i]? = some y ∧ vs = [x, y]
section
variable {X : Cx} {K : PySem.W.Frag} {elts : List Expr} {kk : Nat} {tpos : Pos}
theorem pqv {n a b : Nat} (ha : a < n) (hb : b < n) : Zap (n + 4) (n + 2) (n + 3) n (n + 1) a b := by
 refine ⟨⟨?_, ?_, ?_, ?_, ?_, ?_⟩, ⟨?_, ?_, ?_, ?_, ?_, ?_⟩, ?_, ?_, ?_, ?_⟩ <;> (show ¬ ((_ : Nat) = _)) <;> omega
def iZip (K : PySem.W.Frag) (ta : TA) : TI := fun σ H R => ta σ H fun vs H1 => ∃ a b xs ys, vs = [.ref a, .ref b] ∧ SqT K H1 a xs ∧ SqT K H1 b ys ∧ R (ItZ K a b xs ys) H1
variable {σ : St} {H : Hp} {D : Ends} {g : TG} {tb : TS} {aa : TA}
theorem oqD : (tFor (iZip K aa) g tb D σ H) = (aa σ H fun vs H1 => ∃ a b xs ys, vs = [.ref a, .ref b] ∧ SqT K H1 a xs ∧ SqT K H1 b ys ∧ LoopI (ItZ K a b xs ys) g tb D σ H1) := rfl
variable {p : Addr} {fv : St} {tt : TT} {te : TE} {Q : VK} {H1 : Hp} {fr : List Nat}
theorem lqJ : (tComp2 K (iZip K aa) fr tt te σ H Q) = (aa σ H fun vs H1 => ∃ a b xs ys, vs = [.ref a, .ref b] ∧ SqT K H1 a xs ∧ SqT K H1 b ys ∧ ∀ p, H1 p = none → CompI2 K (ItZ K a b xs ys) p (frV σ fr) tt te Q H1) := rfl
end
section
variable {p : Addr} {fv : St} {tt : TT} {te : TE} {Q : VK} {H1 H : Hp} {fr : List Nat} {aa : TA} {σ : St}
theorem mqF : (tComp (iRng1 aa) fr tt te σ H Q) = (aa σ H fun vs H1 => ∃ j : Int, vs = [.int j] ∧ -(2 ^ 62) ≤ j ∧ j < 2 ^ 62 ∧ ∀ p, H1 p = none → CompI (Itr 0 j.toNat) p (frV σ fr) tt te Q H1) := rfl
end
abbrev litO (t : Addr) : Obj := { cls := .type "list_iterator", data := .fields #[.ref t, .int 0 0] }
abbrev yA (h : Heap) (a : Addr) : Heap := h.push (litO a)
abbrev yB (h : Heap) (a b : Addr) : Heap := (yA h a).push (litO b)
abbrev yC (h : Heap) (a b : Addr) : Heap := (yB h a b).push { cls := .type "tuple", data := .seq #[.ref h.objs.size, .ref (yA h a).objs.size] }
abbrev yD (h : Heap) (a b : Addr) : Heap := (yC h a b).push { cls := .type "tuple", data := .seq #[.none, .none] }
abbrev yE (h : Heap) (a b : Addr) : Heap := (yD h a b).push { cls := .type "zip", data := .fields #[.none, .bool false, .bool false, .ref (yB h a b).objs.size, .ref (yC h a b).objs.size] }
theorem nqp (a b : Addr) (xs ys : Array Value) : Meets (Builtin.«zip.__new__» ⟨[.type "zip", .ref a, .ref b], []⟩) (fun _ R s => s.heap.IsList a xs ∧ s.heap.IsList b ys ∧ R (.ok (.ret (.ref (yD s.heap a b).objs.size))) { s with heap := yE s.heap a b }) :=
 .of_wp fun prog w A R s h => by
  obtain ⟨hp, g, d, tk, os⟩ := s; obtain ⟨ha, hb, h⟩ := h
  have hsub := sub_zip
  have h1 : Heap.IsList (Shared.heap ⟨hp, g, d, tk, os⟩) a xs := ha
  have h2 : Heap.IsList (Shared.heap ⟨hp.push (litO a), g, d, tk, os⟩) b ys := Heap.IsList.push hb _
  wp_walk using wpAny_pyIter_list h1, wpAny_pyIter_list h2
  exact ⟨_, rfl, h⟩
section
variable {prog : Program} {w : World} {A : Around} {E : Value → Shared → Prop} {s : Shared}
theorem lqY {a b : Addr} {xs ys : Array Value} {Q : Value → Shared → Prop} (ha : s.heap.IsList a xs) (hb : s.heap.IsList b ys)
  (h : ∀ h', IsZip h' (s.heap.objs.size + 4) (s.heap.objs.size + 2) (s.heap.objs.size + 3) .none → IsPair h' (s.heap.objs.size + 2) (.ref s.heap.objs.size) (.ref (s.heap.objs.size + 1)) → IsPair h' (s.heap.objs.size + 3) .none .none →
   h'.IsListIter s.heap.objs.size a 0 → h'.IsListIter (s.heap.objs.size + 1) b 0 → (∀ c o, s.heap.get? c = some o → h'.get? c = some o) → Q (.ref (s.heap.objs.size + 4)) { s with heap := h' }) :
  wpAny (model prog w) A (call (.type "zip") [.ref a, .ref b]) Q E s := by
 refine callType_new F.called_zip (by decide) (F.typeCall_zip_2 _ _) (F.newCall_zip_2 _ _) (fun obj => F.args_object_init_3 obj _ _) F.entry_zip_new (nqp a b xs ys) ⟨ha, hb, ?_⟩
 have y1 : (yA s.heap a).objs.size = s.heap.objs.size + 1 := Heap.size_push ..
 have y2 : (yB s.heap a b).objs.size = s.heap.objs.size + 2 := by rw [Heap.size_push, y1]
 have y3 : (yC s.heap a b).objs.size = s.heap.objs.size + 3 := by rw [Heap.size_push, y2]
 have y4 : (yD s.heap a b).objs.size = s.heap.objs.size + 4 := by rw [Heap.size_push, y3]
 have up : ∀ {h : Heap} {o : Obj} {c : Addr} {u : Obj}, h.get? c = some u → (h.push o).get? c = some u := fun e => Heap.get?_push_of_some _ e
 have e5 : (yE s.heap a b).get? (yD s.heap a b).objs.size = some _ := Heap.get?_push_size _ rfl
 have e4 : (yE s.heap a b).get? (yC s.heap a b).objs.size = some _ := up (Heap.get?_push_size _ rfl)
 have e3 : (yE s.heap a b).get? (yB s.heap a b).objs.size = some _ := up (up (Heap.get?_push_size _ rfl))
 have e2 : (yE s.heap a b).get? (yA s.heap a).objs.size = some _ := up (up (up (Heap.get?_push_size _ rfl)))
 have e1 : (yE s.heap a b).get? s.heap.objs.size = some _ := up (up (up (up (Heap.get?_push_size _ rfl))))
 show _ ∧ _
 rw [y2, y3, y4] at e5
 rw [y1, y2] at e3
 rw [y3] at e4
 rw [y1] at e2
 rw [y4]
 exact ⟨⟨_, e5, rfl⟩, h _ e5 e3 e4 ⟨_, e1, rfl, rfl⟩ ⟨_, e2, rfl, rfl⟩ fun c o x => up (up (up (up (up x))))⟩
end
def ItZL (K : PySem.W.Frag) (a b : Addr) (xs ys : List V) : It := ItW (min xs.length ys.length) (fun H => SqL K H a xs ∧ SqL K H b ys) fun i _ vs => ∃ x y, xs[i]? = some x ∧ ys[i]? = some y ∧ vs = [x, y]
theorem mqu {P : Program} {w : World} {K : PySem.W.Frag} {elts : List Expr} {k : Nat} {pos : Pos} {z TI TO i1 i2 a b : Addr} (xs ys : List V) (ap : Zap z TI TO i1 i2 a b) (h1 : a ≠ i1) (h2 : b ≠ i2) :
  Turn P w K (.Tuple elts k pos) (ItZL K a b xs ys) [z, TO, i1, i2, TI] z (fun i h => IsZip h z TI TO .none ∧ IsPair h TI (.ref i1) (.ref i2) ∧ (∃ u v, IsPair h TO u v) ∧ h.IsListIter i1 a i ∧ h.IsListIter i2 b i) := by
 refine jqr (fp := [z, TI, TO, i1, i2, a, b]) (wr := [z, TO, i1, i2]) (α := { q : Array Value × Array Value // q.1.size = xs.length ∧ q.2.size = ys.length }) (Pt := fun q i vals => ∃ x y, q.1.1[i]? = some x ∧ q.1.2[i]? = some y ∧ vals = #[x, y])
  (Sn := fun q i h => IsZip h z TI TO .none ∧ IsPair h TI (.ref i1) (.ref i2) ∧ (∃ a b, IsPair h TO a b) ∧ (h.IsListIter i1 a i ∧ h.IsList a q.1.1) ∧ (h.IsListIter i2 b i ∧ h.IsList b q.1.2))
  (Mid := fun q i T h => IsZip h z TI TO (rawInt T) ∧ IsPair h TI (.ref i1) (.ref i2) ∧ (∃ a b, IsPair h TO a b) ∧ (h.IsListIter i1 a (i + 1) ∧ h.IsList a q.1.1) ∧ (h.IsListIter i2 b (i + 1) ∧ h.IsList b q.1.2) ∧ T ≠ z ∧ T ≠ TO ∧ T ≠ i1 ∧ T ≠ i2)
  (by simp) (fun b hb => by simp at hb ⊢; rcases hb with rfl | rfl | rfl | rfl <;> simp) (fun A q hh => ?_) (fun A i s Q E st q => wpAny_pyIter_zip st.1 q) (fun i h st b hb => ?_) (fun i h h' st kp => ?_) ?_ (fun q i h st => ⟨st.1, st.2.1, st.2.2.1, st.2.2.2.1.1, st.2.2.2.2.1⟩)
 ·have := lqX (prog := P) (w := w) (A := A) hh (fun B hB => Draws.list (prog := P) (w := w) (A := B) hB i1 a h1 q.1.1) (fun B hB => Draws.list (prog := P) (w := w) (A := B) hB i2 b h2 q.1.2) ap
  rw [q.2.1, q.2.2] at this
  exact this
 ·obtain ⟨hz, hI, ⟨u, v, hO⟩, ⟨o1, e1, c1, d1⟩, o2, e2, c2, d2⟩ := st
  simp only [List.mem_cons, List.not_mem_nil, or_false] at hb
  rcases hb with rfl | rfl | rfl | rfl | rfl
  ·exact ⟨_, hz, fun v z => by cases z⟩
  ·exact ⟨_, hO, fun v z => by cases z⟩
  ·exact ⟨o1, e1, fun v z => by rw [d1] at z; cases z⟩
  ·exact ⟨o2, e2, fun v z => by rw [d2] at z; cases z⟩
  ·exact ⟨_, hI, fun v z => by cases z⟩
 ·obtain ⟨hz, hI, ⟨u, v, hO⟩, ⟨o1, e1, r1⟩, o2, e2, r2⟩ := st
  exact ⟨kp z (by simp) _ hz, kp TI (by simp) _ hI, ⟨u, v, kp TO (by simp) _ hO⟩, ⟨o1, kp i1 (by simp) _ e1, r1⟩, o2, kp i2 (by simp) _ e2, r2⟩
 ·intro X hP hw hK i pins s σ H J hf st hok
  subst hP hw hK
  obtain ⟨l1, rv1, p1, hz1⟩ := J.list hok.1
  obtain ⟨l2, rv2, p2, hz2⟩ := J.list hok.2
  refine ⟨⟨(l1.toArray, l2.toArray), by have := rv1.length; simp; omega, by have := rv2.length; simp; omega⟩, ⟨st.1, st.2.1, st.2.2.1, ⟨st.2.2.2.1, p1.isList⟩, st.2.2.2.2, p2.isList⟩, ?_⟩
  rintro vals ⟨x, y, hx, hy, rfl⟩
  have hx' : l1[i]? = some x := by simpa using hx
  have hy' : l2[i]? = some y := by simpa using hy
  have hi : i < xs.length := by have := rv1.length; have := (List.getElem?_eq_some_iff.mp hx').1; omega
  have hj : i < ys.length := by have := rv2.length; have := (List.getElem?_eq_some_iff.mp hy').1; omega
  obtain ⟨u, hu, ru⟩ := rv1.get (List.getElem?_eq_getElem hi)
  obtain ⟨v, hv, rv⟩ := rv2.get (List.getElem?_eq_getElem hj)
  rw [hx'] at hu
  rw [hy'] at hv
  cases hu
  cases hv
  exact ⟨[xs[i], ys[i]], (show 2 ≤ sizeLine by decide), .cons ru (.cons rv .nil), xs[i], ys[i], List.getElem?_eq_getElem hi, List.getElem?_eq_getElem hj, rfl⟩
section
variable {X : Cx} {K : PySem.W.Frag} {elts : List Expr} {kk : Nat} {tpos : Pos}
def iZipL (K : PySem.W.Frag) (ta : TA) : TI := fun σ H R => ta σ H fun vs H1 => ∃ a b xs ys, vs = [.ref a, .ref b] ∧ SqL K H1 a xs ∧ SqL K H1 b ys ∧ R (ItZL K a b xs ys) H1
theorem pqQ {a b : Expr} {ta : TA} {p pos : Pos} (h : X.K = K) (hg : Gl X "zip") (hm : X.mg "zip" = none) (ha : PA X [a, b] ta) (hs : starEach [a, b] X.env = [(false, eval a X.env), (false, eval b X.env)] := by rfl) (hs2 : starEach [b] X.env = [(false, eval b X.env)] := by rfl) : PI X (.Tuple elts kk tpos) (.Call (.Name "zip" p) [a, b] [] pos) (iZipL K ta) := by
 subst h
 intro pins s σ H R I q
 refine Call_ (gqs I hg hm boot_zip (PyProof.Rows.callWith_type1 (thn (ha pos pins s σ H _ I q) fun us s1 W' => ?_) (by rw [hs, hs2]) (by rw [hs2]; rfl)))
 obtain ⟨vs, H1, I1, r1, q1⟩ := W'
 obtain ⟨a, b, xs, ys, e, hq1, hq2, q⟩ := q1
 subst e
 obtain ⟨u, v, rfl, ru, rv⟩ := vals2 r1
 cases ru
 cases rv
 obtain ⟨l1, rv1, p1, hz1⟩ := I1.list hq1
 obtain ⟨l2, rv2, p2, hz2⟩ := I1.list hq2
 refine lqY p1.isList p2.isList fun h' he hI hO hi hj hk => ?_
 refine wpAny_pyIter_zip (s := { s1 with heap := h' }) he ?_
 have hal : a < s1.heap.objs.size := by obtain ⟨o, _, ho, _⟩ := p1; exact Heap.lt_size ho
 have hbl : b < s1.heap.objs.size := by obtain ⟨o, _, ho, _⟩ := p2; exact Heap.lt_size ho
 have hkept : Inv X pins σ H1 { s1 with heap := h' } := I1.kept (t' := s1.toks) hk
 refine ⟨s1.heap.objs.size + 4, [s1.heap.objs.size + 4, s1.heap.objs.size + 3, s1.heap.objs.size, s1.heap.objs.size + 1, s1.heap.objs.size + 2], _, _, H1, rfl, hkept, mqu xs ys (pqv hal hbl) (Nat.ne_of_lt hal) (Nat.ne_of_lt (Nat.lt_succ_of_lt hbl)), ⟨he, hI, ⟨_, _, hO⟩, hi, hj⟩, fun b hb => ?_, q⟩
 simp only [List.mem_cons, List.not_mem_nil, or_false] at hb
 have hb' : s1.heap.objs.size ≤ b := by
  rcases hb with rfl | rfl | rfl | rfl | rfl
  ·exact Nat.le_add_right _ _
  ·exact Nat.le_add_right _ _
  ·exact Nat.le_refl _
  ·exact Nat.le_add_right _ _
  ·exact Nat.le_add_right _ _
 exact I1.fpOk hb' (I1.hok.fresh hb')
variable {σ : St} {H : Hp} {D : Ends} {g : TG} {tb : TS} {aa : TA}
theorem nqC : (tFor (iZipL K aa) g tb D σ H) = (aa σ H fun vs H1 => ∃ a b xs ys, vs = [.ref a, .ref b] ∧ SqL K H1 a xs ∧ SqL K H1 b ys ∧ LoopI (ItZL K a b xs ys) g tb D σ H1) := rfl
variable {p : Addr} {fv : St} {tt : TT} {te : TE} {Q : VK} {H1 : Hp} {fr : List Nat}
theorem lqx : (tComp2 K (iZipL K aa) fr tt te σ H Q) = (aa σ H fun vs H1 => ∃ a b xs ys, vs = [.ref a, .ref b] ∧ SqL K H1 a xs ∧ SqL K H1 b ys ∧ ∀ p, H1 p = none → CompI2 K (ItZL K a b xs ys) p (frV σ fr) tt te Q H1) := rfl
end
section
variable {K : PySem.W.Frag} {p : Addr} {fv : St} {te : TE} {Q : VK} {H1 : Hp}
theorem lqd {a b : Addr} {xs ys : List V} (J : Nat → List V → Hp → Prop) (hm : ∀ i ws H H', Same H H' → J i ws H → J i ws H') (hlen : xs.length ≤ sizeLine) (h0 : J 0 [] (upd H1 p (.lst []))) (hS : ∀ i ws H2, J i ws H2 → SqL K H2 a xs ∧ SqL K H2 b ys)
  (he : ∀ (i : Nat) (x y : V) (ws : List V) (H2 : Hp) (T : VK), xs[i]? = some x → ys[i]? = some y → J i ws H2 → H2 p = some (.lst ws) → (∀ z H3, H3 p = some (.lst ws) → J (i + 1) (ws ++ [z]) (upd H3 p (.lst (ws ++ [z]))) → T z H3) → te (some x :: some y :: fv) H2 T)
  (hQ : ∀ ws H2, J (min xs.length ys.length) ws H2 → H2 p = some (.lst ws) → Q (.ref p) H2) : CompI2 K (ItZL K a b xs ys) p fv tYes te Q H1 := by
 refine ⟨fun i m ws H2 => m = min xs.length ys.length - i ∧ i ≤ min xs.length ys.length ∧ ws.length = i ∧ H2 p = some (.lst ws) ∧ J i ws H2, ⟨min xs.length ys.length, by simp, Nat.zero_le _, rfl, aqk, h0⟩, ?_⟩
 rintro i m ws H2 ⟨rfl, hi, hwl, hp2, hJ⟩
 refine ⟨hp2, ?_⟩
 obtain ⟨qx, qy⟩ := hS _ _ _ hJ
 by_cases hlt : i < min xs.length ys.length
 ·refine .inr ⟨⟨hlt, qx, qy⟩, by omega, fun x H3 y => ?_⟩
  obtain ⟨T, vs, rfl, hT, rfl, x, y, hx, hy, rfl⟩ := y
  have s3 : Same H2 (upd H2 T (.tup [x, y])) := fun b o e => by rw [aqw (aqo e hT)]; exact e
  refine ⟨T, x, y, rfl, .inl (.inl aqk), ?_⟩
  unfold tYes
  dsimp only
  rw [if_pos rfl]
  exact he i x y ws _ _ hx hy (hm _ _ _ _ s3 hJ) (s3 _ _ hp2) fun z H5 hp5 hJ5 => ⟨hp5, min xs.length ys.length - (i + 1), by omega, rfl, hlt, by rw [List.length_append, hwl]; rfl, aqk, hJ5⟩
 ·have e : i = min xs.length ys.length := by omega
  subst e
  exact .inl ⟨⟨rfl, qx, qy⟩, hQ ws H2 hJ hp2⟩
end
section
variable {prog : Program} {w : World} {A : Around} {E : Value → Shared → Prop} {s : Shared}
end
def ItEL (K : PySem.W.Frag) (a : Addr) (xs : List V) : It := ItW xs.length (fun H => SqL K H a xs) fun i _ ys => ∃ v, xs[i]? = some v ∧ ys = [.int (i : Int), v]
section
variable {X : Cx} {K : PySem.W.Frag} {elts : List Expr} {kk : Nat} {tpos : Pos}
def iEnumL (K : PySem.W.Frag) (ta : TA) : TI := fun σ H R => ta σ H fun vs H1 => ∃ a xs, vs = [.ref a] ∧ SqL K H1 a xs ∧ R (ItEL K a xs) H1
variable {σ : St} {H : Hp} {D : Ends} {g : TG} {tb : TS} {aa : TA}
theorem mq5 : (tFor (iEnumL K aa) g tb D σ H) = (aa σ H fun vs H1 => ∃ a xs, vs = [.ref a] ∧ SqL K H1 a xs ∧ LoopI (ItEL K a xs) g tb D σ H1) := rfl
variable {p : Addr} {fv : St} {tt : TT} {te : TE} {Q : VK} {H1 : Hp} {fr : List Nat}
theorem lqo : (tComp2 K (iEnumL K aa) fr tt te σ H Q) = (aa σ H fun vs H1 => ∃ a xs, vs = [.ref a] ∧ SqL K H1 a xs ∧ ∀ p, H1 p = none → CompI2 K (ItEL K a xs) p (frV σ fr) tt te Q H1) := rfl
theorem lqh : (tComp2 K (iEnum K aa) fr tt te σ H Q) = (aa σ H fun vs H1 => ∃ a xs, vs = [.ref a] ∧ SqT K H1 a xs ∧ ∀ p, H1 p = none → CompI2 K (ItE K a xs) p (frV σ fr) tt te Q H1) := rfl
end
section
variable {X : Cx}
def rStart1 : V → List V → Hp → VK → Prop := fun x vs H Q => ∃ z y : List Nat, x = .str ⟨z.toArray⟩ ∧ vs = [.str ⟨y.toArray⟩] ∧ Q (.bl (decide (z.take y.length = y))) H
def rEnd1 : V → List V → Hp → VK → Prop := fun x vs H Q => ∃ z y : List Nat, x = .str ⟨z.toArray⟩ ∧ vs = [.str ⟨y.toArray⟩] ∧ Q (.bl (decide (z.drop (z.length - y.length) = y))) H
theorem rqb (z y : List Nat) (i : Nat) : Builtin.Str.subAt ⟨z.toArray⟩ ⟨y.toArray⟩ i = decide ((z.drop i).take y.length = y) := by
 unfold Builtin.Str.subAt
 have hl : (⟨y.toArray⟩ : Str).length = y.length := rfl
 rw [hl, Bool.eq_iff_iff, beq_iff_eq, decide_eq_true_eq]
 show (z.toArray.extract i (i + y.length) = y.toArray) ↔ _
 rw [← Array.toList_inj]
 simp
theorem nqX (z y : List Nat) : (decide (0 + (⟨y.toArray⟩ : Str).length ≤ (⟨z.toArray⟩ : Str).length) && Builtin.Str.subAt ⟨z.toArray⟩ ⟨y.toArray⟩ 0) = decide (z.take y.length = y) := by
 rw [rqb, List.drop_zero]
 show (decide (0 + y.length ≤ z.length) && _) = _
 by_cases h : z.take y.length = y
 ·have := congrArg List.length h
  rw [List.length_take] at this
  rw [decide_eq_true h, decide_eq_true (show 0 + y.length ≤ z.length by omega)]
  rfl
 ·rw [decide_eq_false h, Bool.and_false]
theorem jql : MtR X "str.startswith" rStart1 := by
 intro pins s σ H x vs v us Q I rx rv h
 obtain ⟨z, y, rfl, rfl, q⟩ := h
 obtain ⟨t, rfl⟩ := rx
 obtain ⟨u, rfl, t', rfl⟩ := vals1 rv
 refine call_meets F.slot_str_startswith (typeIs_str _ _ _) F.entry_str_startswith (F.args_str_startswith_2 _ _) (gives_str_startswith _ _ t t').meets ?_
 refine ⟨.bl _, H, I, rfl, ?_⟩
 rw [← nqX] at q
 exact q
theorem qqq {i j : Nat} {ta : TA} {D : Ends} {σ : St} {H : Hp} : (tPar i j ta D σ H) = (ta σ H fun vs H1 => ∃ v w, vs = [v, w] ∧ D.nx ((σ.set i (some v)).set j (some w)) H1) := rfl
theorem pqK {z y : List Nat} {H : Hp} {Q : VK} : rStart1 (.str ⟨z.toArray⟩) [.str ⟨y.toArray⟩] H Q ↔ Q (.bl (decide (z.take y.length = y))) H :=
 ⟨fun ⟨z', y', e1, e2, h⟩ => by
  injection e1 with e1; injection e1 with e1
  injection e2 with e2; injection e2 with e2; injection e2 with e2
  have h1 : z = z' := by simpa using congrArg Array.toList e1
  have h2 : y = y' := by simpa using congrArg Array.toList e2
  subst h1 h2; exact h, fun h => ⟨z, y, rfl, rfl, h⟩⟩
theorem oqW {z y : List Nat} {H : Hp} {Q : VK} : rEnd1 (.str ⟨z.toArray⟩) [.str ⟨y.toArray⟩] H Q ↔ Q (.bl (decide (z.drop (z.length - y.length) = y))) H :=
 ⟨fun ⟨z', y', e1, e2, h⟩ => by
  injection e1 with e1; injection e1 with e1
  injection e2 with e2; injection e2 with e2; injection e2 with e2
  have h1 : z = z' := by simpa using congrArg Array.toList e1
  have h2 : y = y' := by simpa using congrArg Array.toList e2
  subst h1 h2; exact h, fun h => ⟨z, y, rfl, rfl, h⟩⟩
end
end L2
namespace L2
open PySem
section
variable {p : Addr} {fv : St} {tt : TT} {te : TE} {Q : VK} {H1 : Hp} {K : PySem.W.Frag}
end
end L2
namespace Wm
open PySem L2
inductive Pc
 | step (s : List Nat)
 | part (h n t : List Nat)
 | num (n : List Nat)
 | word (n : List Nat)
 | gap (n : List Nat)
 | rest (n : List Nat)
abbrev tV (l : List Nat) : V := .str ⟨l.toArray⟩
def Pc.kw : Pc → Str
 | .step _ => Str.ofString "step"
 | .part .. => Str.ofString "part"
 | .num _ => Str.ofString "number"
 | .word _ => Str.ofString "word"
 | .gap _ => Str.ofString "gap"
 | .rest _ => Str.ofString "rest"
def Pc.tl : Pc → List V
 | .step s => [tV s]
 | .part h n t => [tV h, tV n, tV t]
 | .num n => [tV n]
 | .word n => [tV n]
 | .gap n => [tV n]
 | .rest n => [tV n]
def Pc.vals (c : Pc) : List V := .str c.kw :: c.tl
def Pc.name : Pc → List Nat
 | .step _ => []
 | .part _ n _ => n
 | .num n => n
 | .word n => n
 | .gap n => n
 | .rest n => n
def Pc.head : Pc → List Nat | .part h _ _ => h | _ => []
def Pc.tail : Pc → List Nat | .part _ _ t => t | _ => []
def Pc.isStep : Pc → Bool | .step _ => true | _ => false
def Pc.isPart : Pc → Bool | .part .. => true | _ => false
def Pc.isRest : Pc → Bool | .rest _ => true | _ => false
theorem Pc.at0 (c : Pc) : atI c.vals 0 = some (.str c.kw) := aqg (j := 0) rfl
theorem pqr (c : Pc) : decide (c.kw = Str.ofString "step") = c.isStep := by cases c <;> first | exact decide_eq_true rfl | exact decide_eq_false (show ¬ (Str.ofString _ = Str.ofString _) by decide +kernel)
theorem pqY (c : Pc) : decide (c.kw = Str.ofString "part") = c.isPart := by cases c <;> first | exact decide_eq_true rfl | exact decide_eq_false (show ¬ (Str.ofString _ = Str.ofString _) by decide +kernel)
theorem pqp (c : Pc) : decide (c.kw = Str.ofString "rest") = c.isRest := by cases c <;> first | exact decide_eq_true rfl | exact decide_eq_false (show ¬ (Str.ofString _ = Str.ofString _) by decide +kernel)
def isSma (c : Nat) : Bool := decide (97 ≤ c ∧ c ≤ 122)
inductive Vl
 | txt (l : List Nat)
 | int (i : Int)
 | lst (ls : List (List Nat))
def VlV (H : Hp) : Vl → V → Prop
 | .txt l, v => v = tV l
 | .int i, v => v = .int i
 | .lst ls, v => ∃ p, v = .ref p ∧ H p = some (.lst (ls.map tV))
inductive PcAll (K : PySem.W.Frag) (H : Hp) : List Pc → List V → Prop
 | nil : PcAll K H [] []
 | cons {c : Pc} {p : Addr} {cs : List Pc} {xs : List V} : SqT K H p c.vals → PcAll K H cs xs → PcAll K H (c :: cs) (.ref p :: xs)
theorem PcAll.mono {K : PySem.W.Frag} {H H' : Hp} (s : Same H H') : ∀ {cs : List Pc} {xs : List V}, PcAll K H cs xs → PcAll K H' cs xs
 | _, _, .nil => .nil
 | _, _, .cons h r => .cons (s.tup h) (PcAll.mono s r)
theorem PcAll.length {K : PySem.W.Frag} {H : Hp} : ∀ {cs : List Pc} {xs : List V}, PcAll K H cs xs → xs.length = cs.length
 | _, _, .nil => rfl
 | _, _, .cons _ r => by simp [PcAll.length r]
theorem PcAll.get {K : PySem.W.Frag} {H : Hp} : ∀ {cs : List Pc} {xs : List V}, PcAll K H cs xs → ∀ {i : Nat} {v : V}, xs[i]? = some v → ∃ c p, cs[i]? = some c ∧ v = .ref p ∧ SqT K H p c.vals
 | _, _, .nil, i, v, e => by simp at e
 | _, _, .cons h r, 0, v, e => by cases e; exact ⟨_, _, rfl, rfl, h⟩
 | _, _, .cons h r, i + 1, v, e => by simp only [List.getElem?_cons_succ] at e ⊢; exact r.get e
def smaL : List Nat := (Str.ofString "abcdefghijklmnopqrstuvwxyz").cps.toList
theorem mqm : ∀ c, c < 128 → (c ∈ smaL ↔ isSma c = true) := by decide +kernel
theorem kqH : ∀ c ∈ smaL, c < 128 := by decide +kernel
theorem pqw (l : List Nat) : l.all isSma = l.all fun c => decide (c ∈ smaL) := by
 congr 1
 funext c
 by_cases h : c < 128
 ·rw [Bool.eq_iff_iff, decide_eq_true_eq]; exact (mqm c h).symm
 ·have h1 : ¬ c ∈ smaL := fun z => h (kqH c z)
  rw [decide_eq_false h1]
  unfold isSma
  exact decide_eq_false (by omega)
inductive BndV (H : Hp) (l : Addr) : List (List Nat × Vl) → List V → Prop
 | nil : BndV H l [] []
 | cons {n : List Nat} {x : Vl} {p : Addr} {v : V} {bs : List (List Nat × Vl)} {ys : List V} : H p = some (.tup [tV n, v]) → VlV H x v → (∀ q, v = .ref q → q ≠ l) → BndV H l bs ys → BndV H l ((n, x) :: bs) (.ref p :: ys)
theorem nqs (xs : List V) (i : Nat) : cutV xs (some (i : Int)) none = xs.drop i := by
 unfold cutV
 rw [HT.sIx_none, HT.sIx_nat]
 by_cases h : i ≤ xs.length
 ·rw [Nat.min_eq_left h, List.take_of_length_le (by rw [List.length_drop]; omega)]
 ·rw [Nat.min_eq_right (by omega), List.drop_of_length_le (Nat.le_refl _), List.drop_of_length_le (by omega)]
  simp
theorem oqj (i : Int) : ∃ c, atI smaL (i % 26) = some c ∧ isSma c = true := by
 have h1 := Int.emod_nonneg i (show (26 : Int) ≠ 0 by decide)
 have h2 := Int.emod_lt_of_pos i (show (0 : Int) < 26 by decide)
 have hl : smaL.length = 26 := by decide +kernel
 have h3 : (i % 26).toNat < smaL.length := by omega
 refine ⟨smaL[(i % 26).toNat], ?_, (mqm _ (kqH _ (List.getElem_mem h3))).mp (List.getElem_mem h3)⟩
 have := aqg (List.getElem?_eq_getElem h3)
 rw [Int.toNat_of_nonneg h1] at this
 exact this
def PcOk : Pc → Prop
 | .step s => 0 < s.length ∧ s.length ≤ 100 ∧ (∀ c ∈ s, isSg c = true) ∧ isDot s = false
 | .part h _ t => h.length ≤ 100 ∧ t.length ≤ 100 ∧ (∀ c ∈ h, isSg c = true) ∧ (∀ c ∈ t, isSg c = true) ∧ h ++ t ≠ []
 | _ => True
theorem mqi (s : Stp) : inV (sV s) [sV [], sV sStay, sV sUp] = (decide (s = []) || isDot s) := by
 have e : ∀ a : Stp, eqV (sV a) (sV s) = decide (s = a) := fun a => by
  show ((⟨a.toArray⟩ : Str) == ⟨s.toArray⟩) = decide (s = a)
  rw [Bool.eq_iff_iff, beq_iff_eq, decide_eq_true_eq, cqr]
  exact ⟨Eq.symm, Eq.symm⟩
 have h := oq5 s
 unfold inV at h ⊢
 rw [List.any_cons, h, e]
theorem nqz (l : List Nat) (d : Nat) (h : d ≠ 46) : isDot (l ++ [d]) = false := by
 refine jq3.mpr ⟨fun z => ?_, fun z => ?_⟩
 ·have : (l ++ [d]).getLast? = sUp.getLast? := by rw [z]
  rw [List.getLast?_append] at this
  exact h (by simpa [sUp] using this)
 ·have : (l ++ [d]).getLast? = sStay.getLast? := by rw [z]
  rw [List.getLast?_append] at this
  exact h (by simpa [sStay] using this)
theorem layL {n : Nat} {ds : List PyData} (h : ∀ d ∈ ds, LayAt n d) : LayAt (n + 1) (.list ds) := by
 obtain ⟨h1, h2⟩ := layAll h
 exact ⟨by simp only [PyData.canLay0, h1], by simp only [PyData.depth]; omega⟩
theorem qq1 {l : List Nat} (h : l.all isSma = true) : ∀ c ∈ l, isSg c = true := fun c hc => by
 have := List.all_eq_true.mp h c hc
 simp only [isSma, decide_eq_true_eq] at this
 simp only [isSg, Bool.and_eq_true, decide_eq_true_eq, Bool.not_eq_true', decide_eq_false_iff_not]
 omega
def PatOk (ps : List Pc) : Prop := (∀ c ∈ ps, PcOk c) ∧ ∀ i c, ps[i]? = some c → c.isRest = true → i + 1 = ps.length
def NmAt (X : Int) (a k : Nat) (n : List Nat) : Prop := ∃ d, n[a]? = some d ∧ atI smaL ((X + (k : Int)) % 26) = some d
theorem NmAt.app {X : Int} {a k : Nat} {n m : List Nat} (h : NmAt X a k n) : NmAt X a k (n ++ m) := by
 obtain ⟨d, h1, h2⟩ := h
 exact ⟨d, by rw [List.getElem?_append_left (List.getElem?_eq_some_iff.mp h1).1]; exact h1, h2⟩
theorem pqq : ∀ i, i < 26 → ∀ j, j < 26 → smaL[i]? = smaL[j]? → i = j := by decide +kernel
theorem mq1 {X : Int} {a : Nat} {ns : List (List Nat)} (h : ∀ (k : Nat) (n : List Nat), ns[k]? = some n → NmAt X a k n) (hl : ns.length ≤ 26) : ns.Nodup := by
 rw [List.nodup_iff_pairwise_ne, List.pairwise_iff_getElem]
 intro i j hi hj hij e
 obtain ⟨d, h1, h2⟩ := h i _ (List.getElem?_eq_getElem hi)
 obtain ⟨d', h3, h4⟩ := h j _ (List.getElem?_eq_getElem hj)
 rw [e, h3] at h1
 cases h1
 have m1 := Int.emod_nonneg (X + (i : Int)) (show (26 : Int) ≠ 0 by decide)
 have m2 := Int.emod_lt_of_pos (X + (i : Int)) (show (0 : Int) < 26 by decide)
 have m3 := Int.emod_nonneg (X + (j : Int)) (show (26 : Int) ≠ 0 by decide)
 have m4 := Int.emod_lt_of_pos (X + (j : Int)) (show (0 : Int) < 26 by decide)
 have at_get : ∀ {z : Int}, 0 ≤ z → z < 26 → atI smaL z = smaL[z.toNat]? := fun {z} z0 z1 => by
  obtain ⟨n, rfl⟩ := Int.eq_ofNat_of_zero_le z0
  have hl : smaL.length = 26 := by decide +kernel
  have hn : n < smaL.length := by omega
  rw [aqg (List.getElem?_eq_getElem hn), ← List.getElem?_eq_getElem hn]
  rfl
 rw [at_get m1 m2] at h2
 rw [at_get m3 m4] at h4
 have := pqq _ (by omega) _ (by omega) (h2.trans h4.symm)
 omega
inductive PcT (H : Hp) : List Pc → List V → Prop
 | nil : PcT H [] []
 | cons {c : Pc} {p : Addr} {cs : List Pc} {xs : List V} : H p = some (.tup c.vals) → PcT H cs xs → PcT H (c :: cs) (.ref p :: xs)
theorem PcT.mono {H H' : Hp} (s : SameT H H') : ∀ {cs : List Pc} {xs : List V}, PcT H cs xs → PcT H' cs xs
 | _, _, .nil => .nil
 | _, _, .cons h r => .cons (s _ _ h) (PcT.mono s r)
theorem PcT.length {H : Hp} : ∀ {cs : List Pc} {xs : List V}, PcT H cs xs → xs.length = cs.length
 | _, _, .nil => rfl
 | _, _, .cons _ r => by simp [PcT.length r]
theorem PcT.append {H : Hp} {ds : List Pc} {ys : List V} (h2 : PcT H ds ys) : ∀ {cs : List Pc} {xs : List V}, PcT H cs xs → PcT H (cs ++ ds) (xs ++ ys)
 | _, _, .nil => h2
 | _, _, .cons h r => .cons h (PcT.append h2 r)
theorem PcT.take {H : Hp} : ∀ {cs : List Pc} {xs : List V} (n : Nat), PcT H cs xs → PcT H (cs.take n) (xs.take n)
 | _, _, 0, _ => .nil
 | _, _, _ + 1, .nil => .nil
 | _, _, n + 1, .cons h r => .cons h (PcT.take n r)
theorem PcT.get {H : Hp} : ∀ {cs : List Pc} {xs : List V}, PcT H cs xs → ∀ {i : Nat} {v : V}, xs[i]? = some v → ∃ c p, cs[i]? = some c ∧ v = .ref p ∧ H p = some (.tup c.vals)
 | _, _, .cons h _, 0, _, e => by cases e; exact ⟨_, _, rfl, rfl, h⟩
 | _, _, .cons _ r, i + 1, _, e => PcT.get r (i := i) (by simpa using e)
 | _, _, .nil, _, _, e => by cases e
def pcD (c : Pc) : PyData := .tuple (.str c.kw :: match c with
 | .step s => [st s]
 | .part h n t => [st h, st n, st t]
 | .num n => [st n]
 | .word n => [st n]
 | .gap n => [st n]
 | .rest n => [st n])
theorem PcT.isT {H : Hp} : ∀ {cs : List Pc} {xs : List V}, PcT H cs xs → IsTAll H (cs.map pcD) xs
 | _, _, .nil => .nil
 | c :: _, _, .cons h r => by
  refine .cons ?_ (PcT.isT r)
  cases c with
  | step s => exact .tup h (.cons (.str _) (.cons (.str _) .nil))
  | part a b d => exact .tup h (.cons (.str _) (.cons (.str _) (.cons (.str _) (.cons (.str _) .nil))))
  | num n => exact .tup h (.cons (.str _) (.cons (.str _) .nil))
  | word n => exact .tup h (.cons (.str _) (.cons (.str _) .nil))
  | gap n => exact .tup h (.cons (.str _) (.cons (.str _) .nil))
  | rest n => exact .tup h (.cons (.str _) (.cons (.str _) .nil))
def PcSg (c : Pc) : Prop := (∀ l, c = .step l → ∀ x ∈ l, isSg x = true) ∧ (∀ h n t, c = .part h n t → (∀ x ∈ h, isSg x = true) ∧ ∀ x ∈ t, isSg x = true) ∧ ∀ x ∈ c.name, isSg x = true
theorem lq1 {c : Pc} (h : PcSg c) : LayAt 1 (pcD c) := by
 have kwl : ∀ s : Str, s ∈ [Str.ofString "step", Str.ofString "part", Str.ofString "number", Str.ofString "word", Str.ofString "gap", Str.ofString "rest"] → LayAt 0 (PyData.str s) := fun s hs => by
  have all : ∀ s ∈ [Str.ofString "step", Str.ofString "part", Str.ofString "number", Str.ofString "word", Str.ofString "gap", Str.ofString "rest"], ∀ x ∈ s.cps.toList, isSg x = true := by decide +kernel
  exact LayAt.st (l := s.cps.toList) (all s hs)
 have one : ∀ (k : Str) (l : List Nat), k ∈ [Str.ofString "step", Str.ofString "part", Str.ofString "number", Str.ofString "word", Str.ofString "gap", Str.ofString "rest"] → (∀ x ∈ l, isSg x = true) → LayAt 1 (.tuple [.str k, st l]) := fun k l hk hl => LayAt.tup (n := 0) fun d hd => by
  simp only [List.mem_cons, List.not_mem_nil, or_false] at hd
  rcases hd with rfl | rfl
  ·exact kwl k hk
  ·exact LayAt.st hl
 cases c with
 | step s => exact one _ s (by simp [Pc.kw]) (h.1 s rfl)
 | part a b d =>
  obtain ⟨h1, h2⟩ := h.2.1 a b d rfl
  refine LayAt.tup (n := 0) fun x hx => ?_
  simp only [List.mem_cons, List.not_mem_nil, or_false] at hx
  rcases hx with rfl | rfl | rfl | rfl
  ·exact kwl _ (by simp [Pc.kw])
  ·exact LayAt.st h1
  ·exact LayAt.st h.2.2
  ·exact LayAt.st h2
 | num n => exact one _ n (by simp [Pc.kw]) h.2.2
 | word n => exact one _ n (by simp [Pc.kw]) h.2.2
 | gap n => exact one _ n (by simp [Pc.kw]) h.2.2
 | rest n => exact one _ n (by simp [Pc.kw]) h.2.2
theorem kqO {cs : List Pc} (h : ∀ c ∈ cs, PcSg c) : LayAt 2 (.list (cs.map pcD)) := layL fun d hd => by
 obtain ⟨c, hc, rfl⟩ := List.mem_map.mp hd
 exact lq1 (h c hc)
theorem kqQ {cs : List Pc} (h : ∀ c ∈ cs, PcSg c) : LayAt 2 (.tuple (cs.map pcD)) := LayAt.tup fun d hd => by
 obtain ⟨c, hc, rfl⟩ := List.mem_map.mp hd
 exact lq1 (h c hc)
end Wm
namespace L2
open PySem PySem.Spec PyProof.Rows
section
variable {p : Addr} {fv : St} {tt : TT} {te : TE} {Q : VK} {H H1 : Hp} {K : PySem.W.Frag}
theorem rqy {l b : Addr} : rExtend (.ref l) [.ref b] H Q ↔ ∃ xs zs, H l = some (.lst xs) ∧ H b = some (.lst zs) ∧ xs.length + zs.length ≤ sizeLine ∧ Q .non (upd H l (.lst (xs ++ zs))) := by
 constructor
 ·rintro ⟨l', b', xs, zs, h1, h2, h3⟩
  cases h1; cases h2
  exact ⟨xs, zs, h3⟩
 ·rintro ⟨xs, zs, h⟩
  exact ⟨l, b, xs, zs, rfl, rfl, h⟩
theorem mqB {tl : TE} {fr : List Nat} {σ : St} : (tComp2 K (iList K tl) fr tt te σ H Q) = (tl σ H fun x H1 => ∃ a, x = .ref a ∧ (∃ xs, SqL K H1 a xs) ∧ ∀ p, H1 p = none → CompI2 K (Itl K a) p (frV σ fr) tt te Q H1) := rfl
theorem lqg {a : Addr} {xs : List V} (t : Nat → Bool) (g : Nat → V) (hxs : SqT K H1 a xs) (hlen : xs.length ≤ sizeLine) (hp : H1 p = none)
  (ht : ∀ (i : Nat) (x : V), xs[i]? = some x → ∀ (H' : Hp) (R : Bool → Hp → Prop), Same H1 H' → (∀ H'', Same H' H'' → R (t i) H'') → tt (some x :: fv) H' R)
  (he : ∀ (i : Nat) (x : V), xs[i]? = some x → t i = true → ∀ (H' : Hp) (T : VK), Same H1 H' → (∀ H'', Same H' H'' → T (g i) H'') → te (some x :: fv) H' T)
  (hQ : ∀ H', Same H1 H' → H' p = some (.lst (((List.range xs.length).filter t).map g)) → Q (.ref p) H') : CompI (Itt K a) p fv tt te Q H1 := by
 refine ⟨fun i m ys H2 => m = xs.length - i ∧ i ≤ xs.length ∧ ys = ((List.range i).filter t).map g ∧ H2 p = some (.lst ys) ∧ Same H1 H2, ⟨xs.length, by simp, Nat.zero_le _, by simp, aqk, fun b o e => by rw [aqw (aqo e hp)]; exact e⟩, ?_⟩
 rintro i m ys H2 ⟨rfl, hi, rfl, hp2, sm⟩
 refine ⟨hp2, ?_⟩
 have q := sm.tup hxs
 by_cases hlt : i < xs.length
 ·refine .inr ⟨⟨xs, xs[i], q, by simp [hlt]⟩, ?_, fun x H3 y => ?_⟩
  ·rw [List.length_map]
   have := List.length_filter_le t (List.range i)
   rw [List.length_range] at this
   omega
  ·obtain ⟨rfl, y⟩ := y
   have hc := y xs q
   refine ht i x hc _ _ sm fun H4 s4 => ?_
   by_cases hf : t i = true
   ·rw [if_pos hf]
    refine he i x hc hf _ _ (sm.trans s4) fun H5 s5 => ⟨(s4.trans s5) _ _ hp2, xs.length - (i + 1), by omega, rfl, hlt, ?_, aqk, fun b o e => ?_⟩
    ·rw [List.range_succ, List.filter_append, List.map_append]; simp [hf]
    ·rw [aqw (aqo e hp)]; exact (s4.trans s5) _ _ (sm _ _ e)
   ·rw [if_neg hf]
    refine ⟨xs.length - (i + 1), by omega, rfl, hlt, ?_, s4 _ _ hp2, sm.trans s4⟩
    rw [List.range_succ, List.filter_append, List.map_append]; simp [hf]
 ·have e : i = xs.length := by omega
  subst e
  exact .inl ⟨⟨xs, q, Nat.le_refl _⟩, hQ H2 sm hp2⟩
end
end L2
namespace Wm
open PySem L2
theorem gqu {α β : Type} (f : α → Bool) (g : α → β) (d : β) : ∀ (l : List α), ((List.range l.length).filter fun i => (l[i]?.map f).getD false).map (fun i => (l[i]?.map g).getD d) = (l.filter f).map g
 | [] => rfl
 | a :: l => by
  have ih := gqu f g d l
  have e2 : ((((List.range l.length).map Nat.succ).filter fun i => (((a :: l)[i]?).map f).getD false).map fun i => (((a :: l)[i]?).map g).getD d) = (l.filter f).map g := by
   rw [List.filter_map, List.map_map, ← ih]
   rfl
  rw [List.length_cons, List.range_succ_eq_map, List.filter_cons]
  by_cases hf : f a = true
  ·rw [if_pos (by simp [hf]), List.map_cons, e2, List.filter_cons, if_pos hf, List.map_cons]
   rfl
  ·rw [if_neg (by simp [hf]), e2, List.filter_cons, if_neg hf]
def canD : PyData → Bool
 | .str s => s.cps.toList.all isSg && decide (0 < s.length) && !isDot s.cps.toList
 | _ => false
inductive VlsV (H : Hp) : List (List Nat × PyData) → List V → Prop
 | nil : VlsV H [] []
 | cons {n : List Nat} {d : PyData} {p : Addr} {v : V} {vs : List (List Nat × PyData)} {xs : List V} : H p = some (.tup [tV n, v]) → Is H d v → VlsV H vs xs → VlsV H ((n, d) :: vs) (.ref p :: xs)
def gapsM (cs : List Pc) : List (List Nat) := (cs.filter fun c => !c.isStep).map Pc.name
def named (vs : List (List Nat × PyData)) (n : List Nat) : List PyData := (vs.filter fun p => decide (p.1 = n)).map (·.2)
end Wm
namespace L2
open PySem
end L2
namespace Wm
open PySem L2
theorem nqT (cs : List Pc) : (gapsM cs).length ≤ cs.length := by
 unfold gapsM
 rw [List.length_map]
 exact List.length_filter_le _ _
theorem iqf {ns : List (List Nat)} (hn : ns.Nodup) : ∀ {cs : List Pc} (k : Nat), (∀ (i : Nat) (c : Pc), cs[i]? = some c → c.isStep = false → ns[k + i]? = some c.name) → (gapsM cs).Nodup ∧ ∀ n ∈ gapsM cs, ∃ j, k ≤ j ∧ ns[j]? = some n
 | [], _, _ => ⟨List.nodup_nil, fun n h => by cases h⟩
 | c :: cs, k, h => by
  obtain ⟨i1, i2⟩ := iqf hn (cs := cs) (k + 1) fun i d hd hs => by
   have := h (i + 1) d (by simpa using hd) hs
   rw [← this]; congr 1; omega
  have e : gapsM (c :: cs) = (if c.isStep then [] else [c.name]) ++ gapsM cs := by
   unfold gapsM
   rw [List.filter_cons]
   cases c.isStep <;> rfl
  rw [e]
  cases hs : c.isStep with
  | true => exact ⟨i1, fun n hn' => by obtain ⟨j, h1, h2⟩ := i2 n hn'; exact ⟨j, by omega, h2⟩⟩
  | false =>
   have h0 : ns[k]? = some c.name := h 0 c rfl hs
   refine ⟨?_, fun n hn' => ?_⟩
   ·show (c.name :: gapsM cs).Nodup
    rw [List.nodup_cons]
    refine ⟨fun z => ?_, i1⟩
    obtain ⟨j, h1, h2⟩ := i2 _ z
    obtain ⟨a1, a2⟩ := List.getElem?_eq_some_iff.mp h0
    obtain ⟨b1, b2⟩ := List.getElem?_eq_some_iff.mp h2
    rw [List.nodup_iff_pairwise_ne, List.pairwise_iff_getElem] at hn
    exact hn k j a1 b1 (by omega) (a2.trans b2.symm)
   ·rcases List.mem_cons.mp (show n ∈ c.name :: gapsM cs from hn') with rfl | z
    ·exact ⟨k, Nat.le_refl _, h0⟩
    ·obtain ⟨j, h1, h2⟩ := i2 n z; exact ⟨j, by omega, h2⟩
theorem hqD : ∀ {ds : List PyData}, (∀ d ∈ ds, PyData.eqv d d = true) → PyData.eqvAll ds ds = true
 | [], _ => by simp [PyData.eqvAll]
 | d :: ds, h => by
  have h1 := h d (List.mem_cons_self ..)
  have h2 := hqD (ds := ds) fun x hx => h x (List.mem_cons_of_mem _ hx)
  simp [PyData.eqvAll, h1, h2]
theorem iqB {ds : List PyData} (h : ∀ d ∈ ds, PyData.eqv d d = true) : PyData.eqv (.tuple ds) (.tuple ds) = true := by
 simp [PyData.eqv, hqD h]
theorem kqZ (l : List Nat) : PyData.eqv (st l) (st l) = true := by simp [PyData.eqv]
theorem nqk (b : Bool) : PyData.eqv (.bool b) (.bool b) = true := by simp [PyData.eqv]
theorem qqj {α : Type} (xs : List α) (a b : Nat) : (cutA xs (some (a : Int)) (some (b : Int))).length ≤ b - a := by
 unfold cutA
 rw [HT.sIx_nat, HT.sIx_nat, List.length_take, List.length_drop]
 omega
theorem nqU (xs : List V) (i : Nat) : cutV xs none (some (i : Int)) = xs.take i := by
 unfold cutV
 rw [HT.sIx_none, HT.sIx_nat, List.drop_zero, Nat.sub_zero]
 by_cases h : i ≤ xs.length
 ·rw [Nat.min_eq_left h]
 ·rw [Nat.min_eq_right (by omega), List.take_length, List.take_of_length_le (by omega)]
end Wm
namespace L2
open PySem PySem.Spec PyProof.Rows
section
variable {X : Cx}
theorem jqO : ∀ (l : List Str) (n : Nat), Vals (l.map V.str) (strsFrom n l)
 | [], _ => .nil
 | z :: l, n => .cons ⟨n, rfl⟩ (jqO l (n + 1))
def rSplit : V → List V → Hp → VK → Prop := fun x vs H Q => ∃ (z : Str) (c : Nat), x = .str z ∧ vs = [.str ⟨#[c]⟩] ∧ z.length ≤ 100000 ∧ ∀ p, H p = none → Q (.ref p) (upd H p (.lst ((Txt.split z ⟨#[c]⟩).map V.str)))
theorem iqy : MtR X "str.split" rSplit := by
 intro pins s σ H x vs v us Q I rx rv h
 obtain ⟨z, c, rfl, rfl, hz, q⟩ := h
 obtain ⟨t, rfl⟩ := rx
 obtain ⟨u, rfl, t', rfl⟩ := vals1 rv
 have hf : H s.heap.objs.size = none := I.hok.fresh (Nat.le_refl _)
 have q := q _ hf
 have hw := split_weight z ⟨#[c]⟩ (Nat.le_refl 1)
 have hsl : z.length ≤ sizeLine := Nat.le_trans hz (by decide)
 unfold Txt.split at q hw
 cases h1 : (decide (z.length < (⟨#[c]⟩ : Str).length) || decide (Builtin.Str.strKind z < Builtin.Str.strKind ⟨#[c]⟩)) with
 | true =>
  rw [if_pos h1] at q
  refine call_meets F.slot_str_split (typeIs_str _ _ _) F.entry_str_split (F.args_str_split_2 _ _) (meets_str_split_cannot_occur z ⟨#[c]⟩ t t' h1) ?_
  refine ⟨.ref s.heap.objs.size, _, I.laid (t' := s.toks) (o := .lst [.str z]) (fun b u e => Heap.get?_push_of_some _ e) (Nat.le_refl _) ?_, rfl, q⟩
  exact ⟨by show 1 ≤ sizeLine; decide, [.str z t], 0, .cons ⟨_, rfl⟩ .nil, Heap.get?_push_size _ rfl⟩
 | false =>
  rw [if_neg (by rw [h1]; decide)] at q hw
  cases h2 : (Builtin.Str.occurrences z ⟨#[c]⟩ 0 z.length (z.length + 1)).isEmpty with
  | true =>
   rw [if_pos h2] at q
   refine call_meets F.slot_str_split (typeIs_str _ _ _) F.entry_str_split (F.args_str_split_2 _ _) (meets_str_split_not_found z ⟨#[c]⟩ t t' h1 rfl h2) ?_
   refine ⟨.ref s.heap.objs.size, _, I.laid (t' := s.toks) (o := .lst [.str z]) (fun b u e => Heap.get?_push_of_some _ e) (Nat.le_refl _) ?_, rfl, q⟩
   exact ⟨by show 1 ≤ sizeLine; decide, [.str z t], 0, .cons ⟨_, rfl⟩ .nil, Heap.get?_push_size _ rfl⟩
  | false =>
   rw [if_neg (by rw [h2]; decide)] at q hw
   have hn : (Builtin.Str.partsBetween z (Builtin.Str.occurrences z ⟨#[c]⟩ 0 z.length (z.length + 1)) (⟨#[c]⟩ : Str).length).length ≤ 100001 := by omega
   have hn2 : (Builtin.Str.partsBetween z (Builtin.Str.occurrences z ⟨#[c]⟩ 0 z.length (z.length + 1)) (⟨#[c]⟩ : Str).length).length ≤ sizeLine := Nat.le_trans hn (by decide)
   refine call_meets F.slot_str_split (typeIs_str _ _ _) F.entry_str_split (F.args_str_split_2 _ _) (meets_str_split_sep z ⟨#[c]⟩ t t' h1 rfl h2 hsl hn2) ?_
   refine ⟨.ref s.heap.objs.size, _, I.laid (o := .lst _) (fun b u e => Heap.get?_push_of_some _ e) (Nat.le_refl _) ?_, rfl, q⟩
   exact ⟨by rw [List.length_map]; exact hn2, _, 0, jqO _ _, Heap.get?_push_size _ rfl⟩
end
theorem oq7 {z : Str} {c : Nat} {H : Hp} {Q : VK} : rSplit (.str z) [.str ⟨#[c]⟩] H Q ↔ z.length ≤ 100000 ∧ ∀ p, H p = none → Q (.ref p) (upd H p (.lst ((Txt.split z ⟨#[c]⟩).map V.str))) := by
 constructor
 ·rintro ⟨z', c', e1, e2, h⟩
  cases e1
  cases e2
  exact h
 ·exact fun h => ⟨z, c, rfl, rfl, h⟩
def sitO (x : Str) (t : Tok) : Obj := { cls := .type "str_ascii_iterator", data := .fields #[.str x t, .int 0 0] }
theorem lqV (x : Str) (t : Tok) (hx : (x.cps.all fun c => decide (c < 128)) = true) : Meets (Builtin.«enumerate.__new__» ⟨[.type "enumerate", .str x t], []⟩) (fun _ R s =>
  R (.ok (.ret (.ref (s.heap.push (sitO x t)).objs.size))) { s with heap := (s.heap.push (sitO x t)).push (enuO s.heap.objs.size) }) :=
 .of_wp fun prog w A R s h => by
  obtain ⟨hp, g, d, tk, os⟩ := s
  have hsub := sub_enumerate
  wp_walk using wpAny_pyIter_ascii hx
  refine wpAny_stack_any fun _ => wpAny_pure ?_
  split
  ·rename_i z _ _ _ _ _
   cases (z == Value.type "enumerate") <;> (wp_walk using wpAny_pyIter_ascii hx) <;> exact ⟨_, rfl, h⟩
  ·wp_walk using wpAny_pyIter_ascii hx
   exact ⟨_, rfl, h⟩
section
variable {prog : Program} {w : World} {A : Around} {E : Value → Shared → Prop} {s : Shared}
theorem lqy {x : Str} {t : Tok} {Q : Value → Shared → Prop} (hx : (x.cps.all fun c => decide (c < 128)) = true)
  (h : ∀ h', IsEnum h' (s.heap.objs.size + 1) s.heap.objs.size 0 .none → h'.IsStrIter s.heap.objs.size "str_ascii_iterator" x t 0 → (∀ b o, s.heap.get? b = some o → h'.get? b = some o) → Q (.ref (s.heap.objs.size + 1)) { s with heap := h' }) :
  wpAny (model prog w) A (call (.type "enumerate") [.str x t]) Q E s := by
 refine callType_new F.called_enumerate (by decide) (F.typeCall_enumerate_1 _) (F.newCall_enumerate_1 _) (fun obj => F.args_object_init_2 obj _) F.entry_enumerate_new (lqV x t hx) ?_
 have hz : (s.heap.push (sitO x t)).objs.size = s.heap.objs.size + 1 := Heap.size_push ..
 show _ ∧ _
 rw [hz]
 have he : IsEnum ((s.heap.push (sitO x t)).push (enuO s.heap.objs.size)) (s.heap.objs.size + 1) s.heap.objs.size 0 .none := by
  have := Heap.get?_push_size (s.heap.push (sitO x t)) (o := enuO s.heap.objs.size) rfl
  rw [hz] at this
  exact this
 exact ⟨⟨_, he, rfl⟩, h _ he ⟨_, Heap.get?_push_of_some _ (Heap.get?_push_size _ rfl), rfl, rfl⟩ fun b o x => Heap.get?_push_of_some _ (Heap.get?_push_of_some _ x)⟩
end
def ItES (x : Str) : It := ItW x.cps.size (fun _ => True) fun i _ ys => ∃ c, x.cps[i]? = some c ∧ ys = [.int (i : Int), .str ⟨#[c]⟩]
theorem lqs {P : Program} {w : World} {K : PySem.W.Frag} {elts : List Expr} {k : Nat} {pos : Pos} (it e : Addr) (x : Str) (t : Tok) (h2 : e ≠ it) :
  Turn P w K (.Tuple elts k pos) (ItES x) [e, it] e (fun i h => (∃ old, IsEnum h e it i old) ∧ h.IsStrIter it "str_ascii_iterator" x t i) := by
 refine jqr (fp := e :: [it]) (α := Unit) (Pt := fun _ i vals => ∃ t' v, (∃ c u, x.cps[i]? = some c ∧ v = Value.str ⟨#[c]⟩ u) ∧ vals = #[.int i t', v])
  (Sn := fun _ i h => (∃ old, IsEnum h e it i old) ∧ h.IsStrIter it "str_ascii_iterator" x t i) (Mid := fun _ i T h => (∃ x, IsEnumOut h e it ((i : Int) + 1) x T) ∧ h.IsStrIter it "str_ascii_iterator" x t (i + 1) ∧ T ≠ e ∧ T ≠ it)
  (by simp) (fun _ z => z) (fun A z hh => ?_) (fun A i s Q E st q => ?_) (fun i h st b hb => ?_) (fun i h h' st kp => ?_) ?_ (fun z i h st => ⟨st.1, st.2⟩)
 ·exact WalksT.enumerateD (Draws.strAscii (prog := P) (w := w) (A := A.in1) hh it x t) e h2 (by simp [h2]) (by simp)
 ·obtain ⟨⟨old, he⟩, _⟩ := st
  exact wpAny_pyIter_enum he q
 ·obtain ⟨⟨old, he⟩, o, ho, hc, hd⟩ := st
  rcases List.mem_cons.mp hb with rfl | hb
  ·exact ⟨_, he, fun v z => by cases z⟩
  ·rw [List.mem_singleton.mp hb]
   exact ⟨o, ho, fun v z => by rw [hd] at z; cases z⟩
 ·obtain ⟨⟨old, he⟩, o, ho, r⟩ := st
  exact ⟨⟨old, kp e (by simp) _ he⟩, o, kp it (by simp) o ho, r⟩
 ·intro X hP hw hK i pins s σ H J hf st hok
  subst hP hw hK
  refine ⟨(), ⟨st.1, st.2⟩, ?_⟩
  rintro vals ⟨t', v, ⟨c, u, hc, rfl⟩, rfl⟩
  exact ⟨[.int (i : Int), .str ⟨#[c]⟩], (show 2 ≤ sizeLine by decide), .cons ⟨t', rfl⟩ (.cons ⟨u, rfl⟩ .nil), c, hc, rfl⟩
section
variable {X : Cx} {elts : List Expr} {kk : Nat} {tpos : Pos}
def iEnumS (ta : TA) : TI := fun σ H R => ta σ H fun vs H1 => ∃ x : Str, vs = [.str x] ∧ (x.cps.all fun c => decide (c < 128)) = true ∧ R (ItES x) H1
theorem mq3 {a : Expr} {ta : TA} {p pos : Pos} (hg : Gl X "enumerate") (hm : X.mg "enumerate" = none) (ha : PA X [a] ta) (hs : starEach [a] X.env = [(false, eval a X.env)] := by rfl) : PI X (.Tuple elts kk tpos) (.Call (.Name "enumerate" p) [a] [] pos) (iEnumS ta) := by
 intro pins s σ H R I q
 refine Call_ (gqs I hg hm boot_enumerate (PyProof.Rows.callWith_type1 (thn (ha pos pins s σ H _ I q) fun us s1 W' => ?_) hs rfl))
 obtain ⟨vs, H1, I1, r1, q1⟩ := W'
 obtain ⟨x, e, hx, q⟩ := q1
 subst e
 obtain ⟨u, rfl, t, rfl⟩ := vals1 r1
 refine lqy hx fun h' he hi hk => ?_
 refine wpAny_pyIter_enum (s := { s1 with heap := h' }) he ?_
 have hkept : Inv X pins σ H1 { s1 with heap := h' } := I1.kept (t' := s1.toks) hk
 refine ⟨s1.heap.objs.size + 1, [s1.heap.objs.size + 1, s1.heap.objs.size], _, _, H1, rfl, hkept, lqs s1.heap.objs.size (s1.heap.objs.size + 1) x t (Nat.succ_ne_self _), ⟨⟨_, he⟩, hi⟩, fun b hb => ?_, q⟩
 simp only [List.mem_cons, List.not_mem_nil, or_false] at hb
 have hb' : s1.heap.objs.size ≤ b := by
  rcases hb with rfl | rfl
  ·exact Nat.le_succ _
  ·exact Nat.le_refl _
 exact I1.fpOk hb' (I1.hok.fresh hb')
variable {σ : St} {H : Hp} {D : Ends} {g : TG} {tb : TS} {aa : TA}
theorem nqP : (tFor (iEnumS aa) g tb D σ H) = (aa σ H fun vs H1 => ∃ x : Str, vs = [.str x] ∧ (x.cps.all fun c => decide (c < 128)) = true ∧ LoopI (ItES x) g tb D σ H1) := rfl
theorem kq9 {x : Str} (Pv : Nat → St → Hp → Prop) (h0 : Pv 0 σ H)
  (hs : ∀ i c σ H T, x.cps[i]? = some c → Pv i σ H → H T = none → g (.ref T) σ (upd H T (.tup [.int (i : Int), .str ⟨#[c]⟩])) fun σ2 H2 => tb { D with nx := Pv (i + 1), ct := Pv (i + 1), bk := D.nx } σ2 H2) (hd : ∀ σ H, Pv x.cps.size σ H → D.nx σ H) : LoopI (ItES x) g tb D σ H :=
 lqF Pv h0 (fun _ _ _ _ _ => trivial) (fun i σ H T ys _ p hT hy => by obtain ⟨c, hc, rfl⟩ := hy; exact hs i c σ H T hc p hT) hd
end
section
variable {κ : Type} [DecidableEq κ]
end
section
variable {P : Program} {w : World} {H : Hp} {h : Heap} {a : Addr}
end
section
variable {X : Cx} {pins : List (Addr × Obj)} {σ : St} {H : Hp} {s : Shared} {a : Addr} {y v : V} {u r : Value} {o : Option V} {A : Around} {E : Value → Shared → Prop}
theorem Inv.big (I : Inv X pins σ H s) : sysModules < s.heap.objs.size := by
 have h : mainGlobals < s.heap.objs.size := (I.mod.glob.keeps I.bk).lt
 exact Nat.lt_trans (by decide) h
end
section
variable {X : Cx} {pins : List (Addr × Obj)} {σ : St} {H : Hp} {s : Shared} {a : Addr} {kvs : List (Key × V)} {k : Key} {u : Value} {A : Around} {E : Value → Shared → Prop}
end
section
variable {X : Cx} {o i e value : Expr} {pos pos' tpos : Pos} {td ty tv : TE}
end
theorem nqN {P : Program} {w : World} {H : Hp} (h : Heap) (hb : sysModules < h.objs.size) : ObjOk P w H (h.push { cls := .type "dict", data := .dict #[] }) h.objs.size (.dK []) :=
 ⟨Nat.zero_le _, beq_eq_false_iff_ne.mpr (Ne.symm (Nat.ne_of_lt hb)), [], .nil, Heap.DictOf.new h⟩
def tDNewK : TE := fun _ H Q => ∀ p, H p = none → Q (.ref p) (upd H p (.dK []))
section
variable {X : Cx} {pos : Pos}
theorem nqA : PE X (.Dict [] [] pos) tDNewK := fun pins s σ H Q I h =>
 wpAny_Dict_empty ⟨.ref s.heap.objs.size, _, I.laid (a := s.heap.objs.size) (o := .dK []) (t' := s.toks) (fun _ _ q => Heap.get?_push_of_some _ q) (Nat.le_refl _) (nqN s.heap I.big), rfl, h _ (I.hok.fresh (Nat.le_refl _))⟩
end
structure M1 (X : Cx) (o : Expr) (m : Str) (apos : Pos) (e : Expr) (cpos : Pos) : Prop where
 base : attributeBase o m X.env (eval o X.env) = eval o X.env
 few : ((backTo cpos (starEach [e] X.env)).all (fun x => !x.1) && (backToKw cpos (keywordEach [] X.env)).all (fun x => x.1.isSome)
  && decide (([e] : List Expr).length + ([] : List Keyword).length + (if ([] : List Keyword).isEmpty then 0 else 1) < 30)) = true
 line : (apos.endLine == cpos.line) = true
 trees : backTo cpos (starEach [e] X.env) = [(false, eval e X.env)]
structure M2 (X : Cx) (o : Expr) (m : Str) (apos : Pos) (e f : Expr) (cpos : Pos) : Prop where
 base : attributeBase o m X.env (eval o X.env) = eval o X.env
 few : ((backTo cpos (starEach [e, f] X.env)).all (fun x => !x.1) && (backToKw cpos (keywordEach [] X.env)).all (fun x => x.1.isSome)
  && decide (([e, f] : List Expr).length + ([] : List Keyword).length + (if ([] : List Keyword).isEmpty then 0 else 1) < 30)) = true
 line : (apos.endLine == cpos.line) = true
 trees : backTo cpos (starEach [e, f] X.env) = [(false, eval e X.env), (false, eval f X.env)]
section
variable {X : Cx} {pins : List (Addr × Obj)} {σ : St} {H : Hp} {s : Shared} {a : Addr} {y d : V} {u r : Value} {o : Option V} {A : Around} {E : Value → Shared → Prop}
end
section
variable {X : Cx} {o e f : Expr} {apos cpos : Pos} {td ty tx : TE}
end
section
variable {X : Cx} {pins : List (Addr × Obj)} {σ : St} {H : Hp} {s : Shared} {a : Addr} {kvs : List (Key × V)} {A : Around} {E : Value → Shared → Prop}
end
section
variable {X : Cx} {pins : List (Addr × Obj)} {σ : St} {H : Hp} {s : Shared} {a : Addr} {y : V} {u : Value} {A : Around} {E : Value → Shared → Prop}
end
end L2
namespace PySem
open PyProof.Rows
section
variable {K : Type} [DecidableEq K]
def fstU (l : List K) : List K := l.foldl (fun acc k => if k ∈ acc then acc else acc ++ [k]) []
theorem hqq (l : List K) (k : K) : fstU (l ++ [k]) = if k ∈ fstU l then fstU l else fstU l ++ [k] := by
 unfold fstU; rw [List.foldl_append]; rfl
theorem iqN : ∀ (n : Nat) (l : List K), l.length = n → ∀ k, k ∈ fstU l ↔ k ∈ l
 | 0, l, h, k => by rw [List.length_eq_zero_iff.mp h]; exact Iff.rfl
 | n + 1, l, h, k => by
  obtain ⟨l', x, rfl⟩ : ∃ l' x, l = l' ++ [x] := ⟨l.dropLast, l.getLast (fun z => by rw [z] at h; cases h), (List.dropLast_concat_getLast _).symm⟩
  have ih := iqN n l' (by rw [List.length_append, List.length_singleton] at h; omega)
  rw [hqq, List.mem_append, List.mem_singleton]
  split
  ·next hx =>
   rw [ih k]
   exact ⟨.inl, fun z => by rcases z with z | rfl; exact z; exact (ih _).mp hx⟩
  ·rw [List.mem_append, List.mem_singleton, ih k]
theorem eqN : ∀ (n : Nat) (l : List K), l.length = n → ((fstU l).length ≤ l.length ∧ ((fstU l).length = l.length ↔ l.Nodup))
 | 0, l, h => by rw [List.length_eq_zero_iff.mp h]; simp [fstU]
 | n + 1, l, h => by
  obtain ⟨l', x, rfl⟩ : ∃ l' x, l = l' ++ [x] := ⟨l.dropLast, l.getLast (fun z => by rw [z] at h; cases h), (List.dropLast_concat_getLast _).symm⟩
  have hl : l'.length = n := by rw [List.length_append, List.length_singleton] at h; omega
  obtain ⟨i1, i2⟩ := eqN n l' hl
  have im := iqN n l' hl x
  have hp : (l' ++ [x]).Nodup ↔ x ∉ l' ∧ l'.Nodup := by
   rw [← List.nodup_cons]
   exact (List.perm_append_singleton x l').nodup_iff
  rw [hp, hqq, List.length_append, List.length_singleton]
  split
  ·next hx =>
   refine ⟨by omega, fun z => ?_, fun z => absurd (im.mp hx) z.1⟩
   exact absurd z (by omega)
  ·next hx =>
   rw [List.length_append, List.length_singleton]
   refine ⟨by omega, fun z => ⟨fun y => hx (im.mpr y), i2.mp (by omega)⟩, fun z => by rw [i2.mpr z.2]⟩
end
section
variable {prog : Program} {w : World} {K : Type} [DecidableEq K] {knd : KeyKind prog w K} {A : Around} {R : Result → Shared → Prop} {h0 : Heap} {d it l : Addr} {items : Array Value} {ks : List K}
theorem kqU {h : Heap} {S S' : K → Bool} {n n' : Nat} (e : ∀ k, S k = S' k) (en : n = n') (hs : h.SetOf knd d S n) : h.SetOf knd d S' n' := by
 subst en
 rw [← (funext e : S = S')]
 exact hs
theorem nqw (hd0 : h0.get? d = none) (hi0 : h0.get? it = none) (hdi : d ≠ it) (hl : h0.IsList l items) (hp : ∀ (i : Nat) (x : Value), items[i]? = some x → ∃ k, ks[i]? = some k ∧ knd.is k x = true ∧ x.scannable = true) (hn : items.size = ks.length) (hsz : ks.length + 1 < scanBound) (hh : A.in1.handled = none) :
  ∀ (k i : Nat) (s : Shared), items.size - i = k → i ≤ items.size → (∀ b o, h0.get? b = some o → s.heap.get? b = some o) → s.heap.IsListIter it l i → s.heap.SetOf knd d (fun k => decide (k ∈ ks.take i)) (fstU (ks.take i)).length →
  (∀ (h' : Heap) (n : Nat), (∀ b o, h0.get? b = some o → h'.get? b = some o) → h'.SetOf knd d (fun k => decide (k ∈ ks)) (fstU ks).length → R (.ok (.ret .none)) { s with heap := h', toks := n }) →
  codeAny (model prog w) A (.builtin "set.update.loop" ⟨[.ref d, .ref it], []⟩) R s := by
 intro k
 induction k with
 | zero =>
  intro i s hk hi sm hit hd hR
  have hin : i = items.size := Nat.le_antisymm hi (by omega)
  obtain ⟨o, ho, r⟩ := hl
  refine codeAny_builtin F.entry_set_update_loop ?_
  rw [Around.under_plainId F.plain_set_update_loop _]
  show wpAny _ A.in1 (pyNext (.ref it) >>= _) _ _ s
  refine wpAny_bind (wpAny_pyNext_list_end hh hit ⟨o, sm _ _ ho, r⟩ (by rw [hin]; simp) fun h' he => ?_)
  rw [hin, hn, List.take_length] at hd
  refine wpAny_pure (hR h' s.toks (fun b o e => he b o (fun z => by rw [z, hi0] at e; cases e) (sm b o e)) ?_)
  obtain ⟨o, es, ep, t, h1, h2⟩ := hd
  exact ⟨o, es, ep, t, he d o hdi h1, h2⟩
 | succ k ih =>
  intro i s hk hi sm hit hd hR
  have hlt : i < items.size := Nat.lt_of_sub_pos (by omega)
  obtain ⟨key, hkv, hkey, hsc⟩ := hp i items[i] (Array.getElem?_eq_getElem hlt)
  obtain ⟨ol, hol, rl⟩ := id hl
  refine codeAny_builtin F.entry_set_update_loop ?_
  rw [Around.under_plainId F.plain_set_update_loop _]
  show wpAny _ A.in1 (pyNext (.ref it) >>= _) _ _ s
  refine wpAny_bind (wpAny_pyNext_list_item hit ⟨ol, sm _ _ hol, rl⟩ (x := items[i]) (Array.getElem?_eq_getElem hlt) fun h1 hit1 hs1 => ?_)
  have sm1 : ∀ b o, h0.get? b = some o → h1.get? b = some o := fun b o e => by
   rw [hs1.2 b (fun z => by rw [z, hi0] at e; cases e)]
   exact sm b o e
  have hd1 : h1.SetOf knd d (fun k => decide (k ∈ ks.take i)) (fstU (ks.take i)).length := by
   obtain ⟨o, es, ep, t, e1, e2⟩ := hd
   exact ⟨o, es, ep, t, by rw [hs1.2 d hdi]; exact e1, e2⟩
  have hml := (eqN _ (ks.take i) rfl).1
  have hfm := iqN _ (ks.take i) rfl
  rw [List.length_take] at hml
  refine wpAny_bind (wpAny_holding ?_)
  unfold setAdd
  refine wpAny_holding (wpAny_bind (knd.pyHash hkey ?_))
  refine wpAny_setAddHashed_of (s := { s with heap := h1, toks := _ }) hkey hsc hd1 (by omega) fun h2 hs2 hd2 => ?_
  have sm2 : ∀ b o, h0.get? b = some o → h2.get? b = some o := fun b o e => by
   rw [hs2.2 b (fun z => by rw [z, hd0] at e; cases e)]
   exact sm1 b o e
  have hit2 : h2.IsListIter it l (i + 1) := by
   obtain ⟨o, e1, e2⟩ := hit1
   exact ⟨o, by rw [hs2.2 it (Ne.symm hdi)]; exact e1, e2⟩
  have et : ks.take (i + 1) = ks.take i ++ [key] := by rw [List.take_add_one, hkv]; rfl
  refine wpAny_pure ⟨plainId_quiet F.plain_set_update_loop _, ?_⟩
  refine ih (i + 1) _ (by omega) (by omega) sm2 hit2 (kqU (fun k => ?_) ?_ hd2) (fun h' n e1 e2 => hR h' n e1 e2)
  ·rw [et]
   by_cases h1 : k ∈ ks.take i
   ·rw [decide_eq_true h1, decide_eq_true (List.mem_append_left _ h1)]; rfl
   ·by_cases h2 : k = key
    ·rw [decide_eq_true h2, decide_eq_true (List.mem_append_right _ (List.mem_singleton.mpr h2)), Bool.or_true]
    ·rw [decide_eq_false h1, decide_eq_false h2, decide_eq_false (fun z => by rcases List.mem_append.mp z with y | y; exact h1 y; exact h2 (List.mem_singleton.mp y))]; rfl
  ·rw [et, hqq]
   by_cases h1 : key ∈ ks.take i
   ·rw [if_pos (decide_eq_true h1), if_pos ((hfm _).mpr h1)]
   ·rw [if_neg (by rw [decide_eq_false h1]; decide), if_neg (fun z => h1 ((hfm _).mp z)), List.length_append]; rfl
end
section
variable {prog : Program} {w : World} {K : Type} [DecidableEq K] {knd : KeyKind prog w K} {A : Around} {E : Value → Shared → Prop} {s : Shared} {l : Addr} {items : Array Value} {ks : List K} {Q : Value → Shared → Prop}
theorem mqD (hl : s.heap.IsList l items) (hp : ∀ (i : Nat) (x : Value), items[i]? = some x → ∃ k, ks[i]? = some k ∧ knd.is k x = true ∧ x.scannable = true) (hn : items.size = ks.length) (hsz : ks.length + 1 < scanBound) (hA : A.handled = none)
  (h : ∀ (h' : Heap) (n : Nat), (∀ b o, s.heap.get? b = some o → h'.get? b = some o) → h'.SetOf knd s.heap.objs.size (fun k => decide (k ∈ ks)) (fstU ks).length → Q (.ref s.heap.objs.size) { s with heap := h', toks := n }) :
  wpAny (model prog w) A (call (.type "set") [.ref l]) Q E s := by
 obtain ⟨c, tl, hmro⟩ := F.called_set.mro
 have hmade := F.called_set.made
 have hsub := F.called_set.sub
 have h1 := F.called_set.notType
 have h2 := F.called_set.canCreate
 refine wpAny_call (codeAny_of_tree (wpAny_pure ⟨Code.quiet_builtin _ (by decide +kernel), codeAny_builtin F.entry_type_call ?_⟩))
 rw [Around.under_plain (weight_type_call_type "set" [.ref l] []) rfl]
 unfold Builtin.«type.__call__»
 refine wpAny_ite_false (by rw [h1]; rfl) ?_
 refine wpAny_ite_false (by rw [h2]; rfl) ?_
 refine wpAny_bind (wpAny_of_eq (F.typeCall_set_1 _) ?_)
 refine wpAny_bind (wpAny_of_eq hmro ?_)
 refine wpAny_ite_false rfl ?_
 refine wpAny_bind (wpAny_of_eq hmade ?_)
 refine wpAny_bind (wpAny_pure ?_)
 show wpAny _ _ (holding [Value.builtin "set.__new__"] (call (Value.builtin "set.__new__") [.type "set", .ref l] []) >>= _) _ _ _
 refine wpAny_bind (wpAny_holding (wpAny_call (codeAny_mono (code_set_new_1 (E := E) (Q₁ := fun x s₁ => ∃ led, x = .ref s.heap.objs.size ∧ s₁ = { s with heap := s.heap.push { cls := .type "set", data := .set #[] 0 (SetTable.fresh 0 0 led) } }) (.ref l) fun led => ⟨led, rfl, rfl⟩) fun r s₁ hr => ?_)))
 cases r with
 | error e => exact hr
 | ok fl =>
  cases fl with
  | next => exact hr
  | brk => exact hr
  | cont => exact hr
  | ret v =>
   obtain ⟨led, rfl, rfl⟩ := hr
   have ns : (s.heap.push { cls := .type "set", data := .set #[] 0 (SetTable.fresh 0 0 led) }).get? s.heap.objs.size = some { cls := .type "set", data := .set #[] 0 (SetTable.fresh 0 0 led) } := Heap.get?_push_size _ rfl
   have ty : ({ s with heap := s.heap.push { cls := .type "set", data := .set #[] 0 (SetTable.fresh 0 0 led) } } : Shared).TypeIs (.ref s.heap.objs.size) "set" := ⟨_, ns, rfl⟩
   refine wpAny_bind (wpAny_isInstance ty hsub ?_)
   refine wpAny_ite_false rfl ?_
   refine wpAny_bind (wpAny_holding ?_)
   unfold callSpecial?
   refine wpAny_bind (wpAny_specialOf ty F.called_set.init.lookup ?_)
   refine wpAny_holding (wpAny_bind (wpAny_of_eq (F.called_set.init.bind _) ?_))
   refine wpAny_bind (wpAny_call (codeAny_mono (R := wants (fun r s₂ => r = Value.none ∧ Q (.ref s.heap.objs.size) s₂) E) (codeAny_call_builtin F.called_set.init.plain F.entry_set_init (check_set_init_1 ty ?_)) fun r₂ s₂ hr₂ => ?_))
   rotate_left
   ·cases r₂ with
    | error e => exact hr₂
    | ok fl =>
     cases fl with
     | next => exact hr₂
     | brk => exact hr₂
     | cont => exact hr₂
     | ret v =>
      obtain ⟨rfl, hq⟩ := hr₂
      exact wpAny_pure (wpAny_ite_false rfl (wpAny_pure hq))
   have sm0 : ∀ b o, s.heap.get? b = some o → (s.heap.push { cls := .type "set", data := .set #[] 0 (SetTable.fresh 0 0 led) }).get? b = some o := fun b o e => Heap.get?_push_of_some _ e
   obtain ⟨ol, hol, rl⟩ := id hl
   have hl1 : (s.heap.push { cls := .type "set", data := .set #[] 0 (SetTable.fresh 0 0 led) }).IsList l items := ⟨ol, sm0 _ _ hol, rl⟩
   have tl1 : ({ s with heap := s.heap.push { cls := .type "set", data := .set #[] 0 (SetTable.fresh 0 0 led) } } : Shared).TypeIs (.ref l) "list" := ⟨ol, sm0 _ _ hol, rl.1⟩
   have hsub1 := F.sub_list_set
   have hsub2 := F.sub_list_frozenset
   generalize hG : s.heap.push { cls := .type "set", data := .set #[] 0 (SetTable.fresh 0 0 led) } = G at ns ty sm0 hl1 tl1 ⊢
   unfold Builtin.«set.__init__»
   wp_walk using wpAny_pyIter_list hl1
   have out : ∀ b, s.heap.objs.size ≤ b → s.heap.get? b = none := fun b hb => by
    cases e : s.heap.get? b with
    | none => rfl
    | some o => exact absurd (Heap.lt_size e) (Nat.not_lt.mpr hb)
   have hlt : s.heap.objs.size < G.objs.size := Heap.lt_size ns
   have hs0 : (G.push { cls := .type "list_iterator", data := .fields #[.ref l, .int 0 0] }).SetOf knd s.heap.objs.size (fun k => decide (k ∈ ks.take 0)) (fstU (ks.take 0)).length := by
    letI : BEq K := instBEqOfDecidableEq
    refine kqU (S := fun _ => false) (fun k => ?_) rfl ((setObjOf_fresh (knd := knd) led).setOf (Heap.get?_push_of_some _ ns) (by decide))
    rw [List.take_zero, decide_eq_false List.not_mem_nil]
   exact @nqw prog w K _ knd A.in1.in1 _ s.heap s.heap.objs.size G.objs.size l items ks (out _ (Nat.le_refl _)) (out _ (Nat.le_of_lt hlt)) (Nat.ne_of_lt hlt) hl hp hn hsz hA items.size 0
    { s with heap := G.push { cls := .type "list_iterator", data := .fields #[.ref l, .int 0 0] } } rfl (Nat.zero_le _) (fun b o e => Heap.get?_push_of_some _ (sm0 b o e)) ⟨_, Heap.get?_push_size _ rfl, rfl, rfl⟩ hs0 (fun h' n e1 e2 => wpAny_pure (wpAny_pure ⟨rfl, h h' n e1 e2⟩))
end
end PySem
namespace L2
open PySem PySem.Spec PyProof.Rows
section
variable {X : Cx}
theorem jqv : ∀ {ss : List Str} {its : List Value}, Vals (ss.map V.str) its → its.length = ss.length ∧ ∀ (i : Nat) (x : Value), its[i]? = some x → ∃ z t, ss[i]? = some z ∧ x = .str z t
 | [], _, h => by cases h; exact ⟨rfl, fun i x h => by simp at h⟩
 | z :: ss, _, h => by
  cases h with
  | cons r rs =>
   obtain ⟨h1, h2⟩ := jqv rs
   obtain ⟨t, rfl⟩ := r
   refine ⟨by simp [h1], fun i x hx => ?_⟩
   cases i with
   | zero => cases hx; exact ⟨z, t, rfl, rfl⟩
   | succ i => exact h2 i x (by simpa using hx)
def tLenSet (ta : TA) : TE := fun σ H Q => ta σ H fun vs H1 => ∃ (l : Addr) (ss : List Str), vs = [.ref l] ∧ H1 l = some (.lst (ss.map V.str)) ∧ ss.length ≤ 1000 ∧ Q (.int ((fstU ss).length : Nat)) H1
theorem lq3 {a : Expr} {ta : TA} {p p' pos pos' : Pos} (hc : X.calm = true) (hg : Gl X "set") (hm : X.mg "set" = none) (hl : Gl X "len") (hlm : X.mg "len" = none) (hb : bootBuiltins "len" = some (.builtin "len")) (ha : PA X [a] ta)
  (hs : starEach [a] X.env = [(false, eval a X.env)] := by rfl)
  (hs' : starEach [.Call (.Name "set" p) [a] [] pos] X.env = [(false, eval (.Call (.Name "set" p) [a] [] pos) X.env)] := by rfl) :
  PE X (.Call (.Name "len" p') [.Call (.Name "set" p) [a] [] pos] [] pos') (tLenSet ta) := by
 intro pins s σ H Q I h
 refine wpAny_Call_Name_kw (gqs I hl hlm hb (PyProof.Rows.callWith_builtin1 ?_ hs' rfl) (by decide) (by decide))
 rw [hs']
 refine Calls.spliced_cons ?_
 refine wpAny_Call_Name_kw (gqs I hg hm boot_set (PyProof.Rows.callWith_type1 (thn (ha pos pins s σ H _ I h) fun us s1 W' => ?_) hs rfl) (by decide) (by decide))
 obtain ⟨vs, H1, I1, r1, q1⟩ := W'
 obtain ⟨l, ss, e, hls, hz, q⟩ := q1
 subst e
 obtain ⟨u, rfl, r⟩ := vals1 r1
 cases r
 obtain ⟨z, its, n, rv, e⟩ := I1.hok l _ hls
 obtain ⟨v1, v2⟩ := jqv rv
 have hfn := (eqN _ ss rfl).1
 refine mqD (knd := PySem.strKind X.prog X.w) (ks := ss) (items := its.toArray) ⟨_, e, rfl, _, rfl⟩ (fun i x hx => ?_) (by rw [List.size_toArray]; exact v1) (by show ss.length + 1 < 4096; omega) (I1.ok.hd hc) fun h' t' sm hset => ?_
 ·obtain ⟨y, t, h1, rfl⟩ := v2 i x (by simpa using hx)
  exact ⟨y, h1, PySem.strKind_is _ _ _ _, rfl⟩
 have I2 : Inv X pins σ H1 { s1 with heap := h', toks := t' } := I1.kept sm
 refine Calls.spliced_nil ?_
 obtain ⟨o, es, ep, tt, g1, g2, g3, g4, g5, g6, g7, g8⟩ := hset
 refine call_len_set (s := { s1 with heap := h', toks := t' }) g1 g2 g3 g7 (by rw [g8]; omega) ?_
 rw [g8]
 refine ⟨.int _, H1, I1.kept (t' := t' + 1 + 1) sm, ⟨_, rfl⟩, q⟩
end
theorem lqT {ta : TA} {σ : St} {H : Hp} {Q : VK} : (tLenSet ta σ H Q) = (ta σ H fun vs H1 => ∃ (l : Addr) (ss : List Str), vs = [.ref l] ∧ H1 l = some (.lst (ss.map V.str)) ∧ ss.length ≤ 1000 ∧ Q (.int ((fstU ss).length : Nat)) H1) := rfl
section
variable {X : Cx}
def rDigit : V → List V → Hp → VK → Prop := fun x vs H Q => ∃ z, x = .str z ∧ vs = [] ∧ Q (.bl (Txt.isdigit z)) H
theorem oqo {z : Str} {H : Hp} {Q : VK} : rDigit (.str z) [] H Q ↔ Q (.bl (Txt.isdigit z)) H := ⟨fun ⟨_, e, _, q⟩ => by cases e; exact q, fun q => ⟨z, rfl, rfl, q⟩⟩
end
def tCsts (vs : List V) : TA := fun _ H Q => Q vs H
section
variable {X : Cx}
theorem pqU : PA X [] (tCsts []) := aqb
theorem cqp {e : Expr} {es : List Expr} {v : V} {vs : List V} (h1 : PE X e (tC v)) (h2 : PA X es (tCsts vs)) (hs : starEach (e :: es) X.env = (false, eval e X.env) :: starEach es X.env := by rfl) : PA X (e :: es) (tCsts (v :: vs)) := aqa h1 h2 hs
end
theorem pqe {vs : List V} {σ : St} {H : Hp} {Q : List V → Hp → Prop} : (tCsts vs σ H Q) = (Q vs H) := rfl
end L2
namespace Wm
open PySem L2
abbrev mkS (l : List Nat) : Str := ⟨l.toArray⟩
theorem kqx (sep : Nat) : ∀ ys : List (List Nat), Str.join (mkS [sep]) (ys.map mkS) = mkS (joinT sep ys)
 | [] => by rw [List.map_nil, Str.join.eq_1]; rfl
 | [x] => by rw [List.map_cons, List.map_nil, Str.join.eq_2]; simp [joinT, tlT]
 | x :: y :: r => by
  rw [List.map_cons, Str.join.eq_3 _ _ _ (by simp), kqx sep (y :: r), cql, cql]
  simp [joinT, tlT]
theorem bqq (z : Str) : mkS z.cps.toList = z := by cases z; simp
theorem gqo {c : Nat} {ts : List (List Nat)} (hf : Free c ts) (h : ts ≠ []) : Txt.split (mkS (joinT c ts)) ⟨#[c]⟩ = ts.map mkS := by
 obtain ⟨qs, hq⟩ : ∃ qs : List (List Nat), qs = (Txt.split (mkS (joinT c ts)) ⟨#[c]⟩).map (fun z => z.cps.toList) := ⟨_, rfl⟩
 have e : Txt.split (mkS (joinT c ts)) ⟨#[c]⟩ = qs.map mkS := by
  rw [hq, List.map_map]
  conv => lhs; rw [← List.map_id (Txt.split (mkS (joinT c ts)) ⟨#[c]⟩)]
  exact List.map_congr_left fun z _ => (bqq z).symm
 have hj := StrLaws.join_split (mkS (joinT c ts)) ⟨#[c]⟩
 rw [e] at hj
 have hj2 : joinT c qs = joinT c ts := cqr.mp ((kqx c qs).symm.trans hj)
 have hfq : Free c qs := fun s hs d hd => by
  rw [hq] at hs
  obtain ⟨z, hz, rfl⟩ := List.mem_map.mp hs
  exact fun y => StrLaws.split_free _ c z hz (by rw [← y]; exact hd)
 have hn : qs ≠ [] := fun z => by
  have hl := PyProof.Rows.len_of_split (l := (Txt.split (mkS (joinT c ts)) ⟨#[c]⟩).map fun z => (z, 0)) (x := mkS (joinT c ts)) (y := ⟨#[c]⟩) (by
   rw [List.map_map]
   conv => rhs; rw [← List.map_id (Txt.split (mkS (joinT c ts)) ⟨#[c]⟩)]
   rfl)
  rw [List.length_map, e, z] at hl
  exact absurd hl (by decide)
 rw [e, nqI hfq hf hn h hj2]
theorem pq3 (t : List Nat) (c i : Nat) : (decide (i + (mkS [c]).length ≤ (mkS t).length) && Builtin.Str.subAt (mkS t) (mkS [c]) i) = decide (t[i]? = some c) := by
 by_cases hi : i ≤ t.length
 ·rw [rqw t [c] i hi, decide_eq_decide]
  cases h : t.drop i with
  | nil =>
   have : t[i]? = none := List.getElem?_eq_none (by have := congrArg List.length h; rw [List.length_drop, List.length_nil] at this; omega)
   rw [this]
   simp
  | cons d r =>
   have : t[i]? = some d := by rw [← List.head?_drop, h]; rfl
   rw [this]
   simp
 ·rw [List.getElem?_eq_none (by omega), aq8, aq8, decide_eq_false (by rw [List.length_singleton]; omega)]
  rfl
theorem jqt (t : List Nat) (c : Nat) : Builtin.Str.occurrences (mkS t) (mkS [c]) 0 (mkS t).length 1 = ((List.range' 0 (t.length + 1)).find? fun i => decide (t[i]? = some c)).toList := by
 rw [StrLaws.occ_eq, occ1 _ _ _ _ (fun i _ => Nat.zero_le i)]
 simp only [pq3]
 rw [aq8]
 rfl
theorem jqW {t : List Nat} {c : Nat} (h : c ∉ t) : Txt.partition (mkS t) (mkS [c]) = (mkS t, ⟨#[]⟩, ⟨#[]⟩) := by
 unfold Txt.partition
 rw [jqt, List.find?_eq_none.mpr fun i _ z => h (List.mem_of_getElem? (of_decide_eq_true z))]
 rfl
theorem oqO {a b : List Nat} {c : Nat} (h : c ∉ a) : Txt.partition (mkS (a ++ c :: b)) (mkS [c]) = (mkS a, mkS [c], mkS b) := by
 unfold Txt.partition
 have e : (List.range' 0 ((a ++ c :: b).length + 1)).find? (fun i => decide ((a ++ c :: b)[i]? = some c)) = some a.length := by
  rw [List.find?_range'_eq_some]
  refine ⟨decide_eq_true (by simp), ?_, fun j _ hj => ?_⟩
  ·rw [List.mem_range'_1]
   simp only [List.length_append, List.length_cons]
   omega
  ·rw [decide_eq_false fun z => ?_]
   ·rfl
   ·rw [List.getElem?_append_left hj] at z
    exact h (List.mem_of_getElem? z)
 rw [jqt, e]
 show (Builtin.Str.strSub (mkS (a ++ c :: b)) 0 a.length, mkS [c], Builtin.Str.strSub (mkS (a ++ c :: b)) (a.length + (mkS [c]).length) (mkS (a ++ c :: b)).length) = _
 rw [aq8, aq8]
 refine Prod.ext ?_ (Prod.ext rfl ?_)
 ·show (⟨(a ++ c :: b).toArray.extract 0 a.length⟩ : Str) = _
  simp
 ·show (⟨(a ++ c :: b).toArray.extract (a.length + 1) (a ++ c :: b).length⟩ : Str) = _
  simp
  exact List.take_of_length_le (by omega)
def nameD : PyData → Bool
 | .str s => decide (1 ≤ s.length ∧ s.length ≤ 8) && s.cps.toList.all isSma
 | _ => false
def endsD : PyData → PyData → Bool
 | .str a, .str b => a.cps.toList.all isSg && b.cps.toList.all isSg && !decide (a.cps.toList ++ b.cps.toList = [])
 | _, _ => false
def NmOk (n : List Nat) : Prop := (1 ≤ n.length ∧ n.length ≤ 8) ∧ n.all isSma = true
inductive PcW : Pc → List Nat → Prop
 | step {s w : List Nat} : WrT frS s w → s ≠ [] → PcW (.step s) w
 | part {h n t a b : List Nat} : WrT frS h a → WrT frS t b → h ++ t ≠ [] → NmOk n → PcW (.part h n t) (a ++ 123 :: (n ++ 125 :: b))
 | gap {n : List Nat} : NmOk n → PcW (.gap n) (123 :: (n ++ [125]))
 | num {n : List Nat} : NmOk n → PcW (.num n) (123 :: (n ++ 58 :: ([110, 117, 109, 98, 101, 114] ++ [125])))
 | word {n : List Nat} : NmOk n → PcW (.word n) (123 :: (n ++ 58 :: ([119, 111, 114, 100] ++ [125])))
 | rest {n : List Nat} : NmOk n → PcW (.rest n) (123 :: (n ++ 58 :: ([114, 101, 115, 116] ++ [125])))
theorem eq9 {n : List Nat} (h : n.all isSma = true) : ∀ c ∈ n, 97 ≤ c ∧ c ≤ 122 := fun c hc => by
 have := List.all_eq_true.mp h c hc
 unfold isSma at this
 simpa using this
theorem fqi {s w : List Nat} (h : WrT frS s w) : ∀ c ∈ w, c ≠ 47 ∧ c ≠ 123 ∧ c ≠ 125 := by
 have key : ∀ c, (isPl c = true ∨ c ∈ frS) → c ≠ 47 ∧ c ≠ 123 ∧ c ≠ 125 := fun c hc => by
  rcases hc with hc | hc
  ·refine ⟨fun z => ?_, fun z => ?_, fun z => ?_⟩ <;> (rw [z] at hc; exact absurd hc (by decide +kernel))
  ·refine ⟨fun z => ?_, fun z => ?_, fun z => ?_⟩ <;> (rw [z] at hc; exact absurd hc (by decide +kernel))
 induction h with
 | nil => intro c hc; cases hc
 | self h1 h2 _ ih =>
  intro c hc
  rcases List.mem_cons.mp hc with rfl | hc
  ·exact key c h1
  ·exact ih c hc
 | pair h1 _ ih =>
  intro c hc
  obtain ⟨f1, f2, f3, _⟩ := iq8 h1
  simp only [List.mem_cons] at hc
  have fg : ∀ {a b d : Nat}, sgO a b = some d → (a ≠ 47 ∧ a ≠ 123 ∧ a ≠ 125) ∧ (b ≠ 47 ∧ b ≠ 123 ∧ b ≠ 125) := fun {a b d} h => by
   refine ⟨⟨fun z => ?_, fun z => ?_, fun z => ?_⟩, ⟨fun z => ?_, fun z => ?_, fun z => ?_⟩⟩ <;> (subst z; unfold sgO at h; simp [fig] at h)
  obtain ⟨g1, g2⟩ := fg h1
  rcases hc with rfl | rfl | rfl | hc
  ·decide
  ·exact g1
  ·exact g2
  ·exact ih c hc
def kwN : List Str := [Str.ofString "number", Str.ofString "word", Str.ofString "gap", Str.ofString "rest"]
def stepD : List PyData → Bool
 | [x] => canD x
 | _ => false
def partD : List PyData → Bool
 | [h, n, t] => nameD n && endsD h t
 | _ => false
def namD : List PyData → Bool
 | [n] => nameD n
 | _ => false
def pieceK (k : Str) (r : List PyData) : Bool := if k = Str.ofString "step" then stepD r else if k = Str.ofString "part" then partD r else decide (k ∈ kwN) && namD r
def pieceD : PyData → Bool
 | .tuple (.str k :: r) => pieceK k r
 | _ => false
def pcOne (k : Str) (a : List Nat) : Pc := if k = Str.ofString "step" then .step a else if k = Str.ofString "number" then .num a else if k = Str.ofString "word" then .word a else if k = Str.ofString "gap" then .gap a else .rest a
def pcOf : PyData → Pc
 | .tuple [.str k, .str a] => pcOne k a.cps.toList
 | .tuple [_, .str h, .str n, .str t] => .part h.cps.toList n.cps.toList t.cps.toList
 | _ => .step []
def restsL (cs : List Pc) : Bool := cs.dropLast.all fun c => !c.isRest
def piecesD (ds : List PyData) : Bool := decide (ds.length ≤ 12) && (ds.all pieceD && (restsL (ds.map pcOf) && decide ((gapsM (ds.map pcOf)).Nodup)))
def patD : PyData → Bool
 | .tuple [.tuple ds, .bool e] => piecesD ds && (e || decide (0 < ds.length))
 | _ => false
theorem mqd : Str.ofString "number" ≠ Str.ofString "step" ∧ Str.ofString "word" ≠ Str.ofString "step" ∧ Str.ofString "gap" ≠ Str.ofString "step" ∧ Str.ofString "rest" ≠ Str.ofString "step" ∧ Str.ofString "part" ≠ Str.ofString "step" ∧ Str.ofString "number" ≠ Str.ofString "part" ∧ Str.ofString "word" ≠ Str.ofString "part" ∧ Str.ofString "gap" ≠ Str.ofString "part" ∧ Str.ofString "rest" ≠ Str.ofString "part" ∧ Str.ofString "word" ≠ Str.ofString "number" ∧ Str.ofString "gap" ≠ Str.ofString "number" ∧ Str.ofString "rest" ≠ Str.ofString "number" ∧ Str.ofString "gap" ≠ Str.ofString "word" ∧ Str.ofString "rest" ≠ Str.ofString "word" ∧ Str.ofString "rest" ≠ Str.ofString "gap" := by decide +kernel
theorem hqm (z : Str) : st z.cps.toList = .str z := congrArg PyData.str (bqq z)
theorem kqN {x : PyData} (hx : nameD x = true) : ∃ s : Str, x = .str s ∧ NmOk s.cps.toList := by
 cases x with
 | str s =>
  simp only [nameD, Bool.and_eq_true, decide_eq_true_eq] at hx
  exact ⟨s, rfl, ⟨hx.1, hx.2⟩⟩
 | _ => cases hx
theorem mq9 {r : List PyData} (h : stepD r = true) : ∃ s : Str, r = [.str s] := by
 cases r with
 | nil => cases h
 | cons a r =>
  cases r with
  | nil =>
   cases a with
   | str s => exact ⟨s, rfl⟩
   | _ => cases h
  | cons b r => cases h
theorem oq4 {r : List PyData} (h : namD r = true) : ∃ s : Str, r = [.str s] ∧ NmOk s.cps.toList := by
 cases r with
 | nil => cases h
 | cons a r =>
  cases r with
  | nil => obtain ⟨s, rfl, hs⟩ := kqN (show nameD a = true from h); exact ⟨s, rfl, hs⟩
  | cons b r => cases h
theorem nq9 {r : List PyData} (h : partD r = true) : ∃ a s b : Str, r = [.str a, .str s, .str b] ∧ NmOk s.cps.toList := by
 match r, h with
 | [x, y, z], h =>
  have h : (nameD y && endsD x z) = true := h
  rw [Bool.and_eq_true] at h
  obtain ⟨s, rfl, hs⟩ := kqN h.1
  cases x with
  | str a =>
   cases z with
   | str b => exact ⟨a, s, b, rfl, hs⟩
   | _ => cases h.2
  | _ => cases h.2
theorem lqc {d : PyData} (h : pieceD d = true) : d = pcD (pcOf d) ∧ ((pcOf d).isStep = false → NmOk (pcOf d).name) := by
 obtain ⟨n1, n2, n3, n4, n5, n6, n7, n8, n9, n10, n11, n12, n13, n14, n15⟩ := mqd
 cases d with
 | tuple l =>
  cases l with
  | nil => cases h
  | cons a r =>
   cases a with
   | str k =>
    have h : pieceK k r = true := h
    unfold pieceK at h
    by_cases h1 : k = Str.ofString "step"
    ·rw [if_pos h1] at h
     obtain ⟨s, rfl⟩ := mq9 h
     have ep : pcOf (.tuple [.str k, .str s]) = .step s.cps.toList := by
      show pcOne k s.cps.toList = _
      unfold pcOne
      rw [if_pos h1]
     rw [ep, h1]
     refine ⟨?_, fun z => by cases z⟩
     show _ = PyData.tuple [.str (Str.ofString "step"), st s.cps.toList]
     rw [hqm]
    ·rw [if_neg h1] at h
     by_cases h2 : k = Str.ofString "part"
     ·rw [if_pos h2] at h
      obtain ⟨a, s, b, rfl, hs⟩ := nq9 h
      refine ⟨?_, fun _ => hs⟩
      show _ = PyData.tuple [.str (Str.ofString "part"), st a.cps.toList, st s.cps.toList, st b.cps.toList]
      rw [hqm, hqm, hqm, h2]
     ·rw [if_neg h2, Bool.and_eq_true] at h
      obtain ⟨hk, h⟩ := h
      obtain ⟨s, rfl, hs⟩ := oq4 h
      have hk := of_decide_eq_true hk
      unfold kwN at hk
      simp only [List.mem_cons, List.not_mem_nil, or_false] at hk
      have e : ∀ (kk : Str) (c : Pc), pcOf (.tuple [.str kk, .str s]) = c → pcD c = .tuple [.str kk, st s.cps.toList] → c.name = s.cps.toList → PyData.tuple [.str kk, .str s] = pcD (pcOf (.tuple [.str kk, .str s])) ∧ ((pcOf (.tuple [.str kk, .str s])).isStep = false → NmOk (pcOf (.tuple [.str kk, .str s])).name) := fun kk c e1 e2 e3 => by
       rw [e1, e2, e3, hqm]
       exact ⟨rfl, fun _ => hs⟩
      rcases hk with rfl | rfl | rfl | rfl
      ·exact e _ (.num s.cps.toList) (by show pcOne _ _ = _; unfold pcOne; rw [if_neg h1, if_pos rfl]) rfl rfl
      ·exact e _ (.word s.cps.toList) (by show pcOne _ _ = _; unfold pcOne; rw [if_neg h1, if_neg n10, if_pos rfl]) rfl rfl
      ·exact e _ (.gap s.cps.toList) (by show pcOne _ _ = _; unfold pcOne; rw [if_neg h1, if_neg n11, if_neg n13, if_pos rfl]) rfl rfl
      ·exact e _ (.rest s.cps.toList) (by show pcOne _ _ = _; unfold pcOne; rw [if_neg h1, if_neg n12, if_neg n14, if_neg n15]) rfl rfl
   | _ => cases h
 | _ => cases h
theorem eqO {c : Pc} (ok : PcOk c) (hn : c.isStep = false → NmOk c.name) : pieceD (pcD c) = true ∧ pcOf (pcD c) = c := by
 obtain ⟨n1, n2, n3, n4, n5, n6, n7, n8, n9, n10, n11, n12, n13, n14, n15⟩ := mqd
 have nm : ∀ {n : List Nat}, NmOk n → nameD (st n) = true := fun {n} h => by
  show (decide (1 ≤ (mkS n).length ∧ (mkS n).length ≤ 8) && n.all isSma) = true
  rw [aq8, decide_eq_true h.1, h.2]
  rfl
 cases c with
 | step s =>
  obtain ⟨o1, o2, o3, o4⟩ := ok
  refine ⟨?_, ?_⟩
  ·show pieceK (Str.ofString "step") _ = true
   unfold pieceK
   rw [if_pos rfl]
   show (s.all isSg && decide (0 < (mkS s).length) && !isDot s) = true
   rw [aq8, decide_eq_true o1, o4, List.all_eq_true.mpr o3]
   rfl
  ·show pcOne (Str.ofString "step") _ = _
   unfold pcOne
   rw [if_pos rfl]
 | part h n t =>
  obtain ⟨o1, o2, o3, o4, o5⟩ := ok
  refine ⟨?_, rfl⟩
  show pieceK (Str.ofString "part") _ = true
  unfold pieceK
  rw [if_neg n5, if_pos rfl]
  show (nameD (st n) && endsD (st h) (st t)) = true
  rw [show nameD (st n) = true from nm (hn rfl), Bool.true_and]
  show (h.all isSg && t.all isSg && !decide (h ++ t = [])) = true
  rw [List.all_eq_true.mpr o3, List.all_eq_true.mpr o4, decide_eq_false o5]
  rfl
 | num n =>
  refine ⟨?_, ?_⟩
  ·show pieceK (Str.ofString "number") _ = true
   unfold pieceK
   rw [if_neg n1, if_neg n6, decide_eq_true (by unfold kwN; simp), show namD [st n] = true from nm (hn rfl)]
   rfl
  ·show pcOne (Str.ofString "number") _ = _
   unfold pcOne
   rw [if_neg n1, if_pos rfl]
 | word n =>
  refine ⟨?_, ?_⟩
  ·show pieceK (Str.ofString "word") _ = true
   unfold pieceK
   rw [if_neg n2, if_neg n7, decide_eq_true (by unfold kwN; simp), show namD [st n] = true from nm (hn rfl)]
   rfl
  ·show pcOne (Str.ofString "word") _ = _
   unfold pcOne
   rw [if_neg n2, if_neg n10, if_pos rfl]
 | gap n =>
  refine ⟨?_, ?_⟩
  ·show pieceK (Str.ofString "gap") _ = true
   unfold pieceK
   rw [if_neg n3, if_neg n8, decide_eq_true (by unfold kwN; simp), show namD [st n] = true from nm (hn rfl)]
   rfl
  ·show pcOne (Str.ofString "gap") _ = _
   unfold pcOne
   rw [if_neg n3, if_neg n11, if_neg n13, if_pos rfl]
 | rest n =>
  refine ⟨?_, ?_⟩
  ·show pieceK (Str.ofString "rest") _ = true
   unfold pieceK
   rw [if_neg n4, if_neg n9, decide_eq_true (by unfold kwN; simp), show namD [st n] = true from nm (hn rfl)]
   rfl
  ·show pcOne (Str.ofString "rest") _ = _
   unfold pcOne
   rw [if_neg n4, if_neg n12, if_neg n14, if_neg n15]
theorem cqb {n : Nat} {ds : List PyData} : tupN (n : Int) (.tuple ds) = true ↔ ds.length = n := by
 show decide ((ds.length : Int) = (n : Int)) = true ↔ _
 rw [decide_eq_true_iff]
 omega
theorem hqs {K : PySem.W.Frag} {H : Hp} : ∀ {ss : List Str} {xs : List V}, IsKAll K H (ss.map PyData.str) xs → xs = ss.map V.str
 | [], _, .nil => rfl
 | s :: ss, _, .cons h r => by cases h; rw [hqs r]; rfl
theorem kqy {K : PySem.W.Frag} {H : Hp} {ss : List Str} {p : Addr} (h : IsK K H (.tuple (ss.map PyData.str)) (.ref p)) : SqT K H p (ss.map V.str) := by
 cases h with
 | tup hp r => rw [← hqs r]; exact hp
theorem iqZ (k : Str) : ∀ ss : List Str, inV (.str k) (ss.map V.str) = decide (k ∈ ss)
 | [] => rfl
 | s :: ss => by
  have ih := iqZ k ss
  have e : eqV (.str s) (.str k) = decide (k = s) := by
   show (s == k) = decide (k = s)
   rw [Bool.eq_iff_iff, beq_iff_eq, decide_eq_true_eq]
   exact ⟨Eq.symm, Eq.symm⟩
  unfold inV at ih ⊢
  rw [List.map_cons, List.any_cons, ih, e, Bool.eq_iff_iff, Bool.or_eq_true, decide_eq_true_eq, decide_eq_true_eq, decide_eq_true_eq, List.mem_cons]
theorem iqn (xs : List V) : cutV xs none (some (-1)) = xs.dropLast := lqw xs
theorem kqV {H : Hp} : ∀ {ds : List PyData} {xs : List V}, IsAll H ds xs → ∀ {i : Nat} {x : V}, xs[i]? = some x → ∃ d, ds[i]? = some d ∧ Is H d x
 | _, _, .nil, i, x, h => by simp at h
 | _, _, .cons q t, 0, x, h => by simp at h; subst h; exact ⟨_, rfl, q⟩
 | _, _, .cons _ t, i + 1, x, h => by
  obtain ⟨d, h1, h2⟩ := kqV t (i := i) (by simpa using h)
  exact ⟨d, by simpa using h1, h2⟩
theorem gqf {H : Hp} : ∀ {ds : List PyData} {xs : List V}, IsAll H ds xs → xs.length = ds.length
 | _, _, .nil => rfl
 | _, _, .cons _ t => by rw [List.length_cons, List.length_cons, gqf t]
theorem jqN {H : Hp} : ∀ {l : List (List Nat)} {xs : List V}, IsAll H (l.map st) xs → xs = l.map tV
 | [], _, .nil => rfl
 | a :: l, _, .cons h r => by cases h; rw [jqN r]; rfl
theorem rqH {H : Hp} {c : Pc} {x : V} (h : Is H (pcD c) x) : ∃ p, x = .ref p ∧ H p = some (.tup c.vals) := by
 have key : ∀ (k : Str) (l : List (List Nat)), Is H (.tuple (.str k :: l.map st)) x → ∃ p, x = .ref p ∧ H p = some (.tup (.str k :: l.map tV)) := fun k l h => by
  cases h with
  | tup hp r =>
   cases r with
   | cons h1 r =>
    cases h1
    have e := jqN r
    subst e
    exact ⟨_, rfl, hp⟩
 cases c with
 | step s => exact key _ [s] h
 | part a n t => exact key _ [a, n, t] h
 | num n => exact key _ [n] h
 | word n => exact key _ [n] h
 | gap n => exact key _ [n] h
 | rest n => exact key _ [n] h
theorem iqJ {K : PySem.W.Frag} {H : Hp} : ∀ {ds : List PyData} {xs : List V}, IsAll H ds xs → ds.all pieceD = true → PcAll K H (ds.map pcOf) xs
 | _, _, .nil, _ => .nil
 | d :: ds, _, .cons h t, ha => by
  rw [List.all_cons, Bool.and_eq_true] at ha
  have hb := (lqc ha.1).1
  rw [hb] at h
  obtain ⟨p, rfl, hp⟩ := rqH h
  exact .cons (.of hp) (iqJ t ha.2)
theorem lqL {l : List (List Nat)} : (l.map mkS).Nodup ↔ l.Nodup := by
 constructor
 ·intro h
  rw [List.nodup_iff_pairwise_ne] at h ⊢
  rw [List.pairwise_map] at h
  exact h.imp fun a b => a (congrArg mkS b)
 ·intro h
  rw [List.nodup_iff_pairwise_ne] at h ⊢
  rw [List.pairwise_map]
  exact h.imp fun a b => a (cqr.mp b)
def pcT : Pc → List Nat
 | .step s => wr s
 | .part h n t => wr h ++ 123 :: (n ++ 125 :: wr t)
 | .gap n => 123 :: (n ++ [125])
 | .num n => 123 :: (n ++ 58 :: ([110, 117, 109, 98, 101, 114] ++ [125]))
 | .word n => 123 :: (n ++ 58 :: ([119, 111, 114, 100] ++ [125]))
 | .rest n => 123 :: (n ++ 58 :: ([114, 101, 115, 116] ++ [125]))
theorem rqI {c : Pc} (ok : PcOk c) (hn : c.isStep = false → NmOk c.name) : PcW c (pcT c) := by
 cases c with
 | step s => exact .step (jqf ok.2.2.1) (List.length_pos_iff.mp ok.1)
 | part h n t => exact .part (jqf ok.2.2.1) (jqf ok.2.2.2.1) ok.2.2.2.2 (hn rfl)
 | gap n => exact .gap (hn rfl)
 | num n => exact .num (hn rfl)
 | word n => exact .word (hn rfl)
 | rest n => exact .rest (hn rfl)
inductive PcWs : List Pc → List (List Nat) → Prop
 | nil : PcWs [] []
 | cons {c : Pc} {w : List Nat} {cs : List Pc} {ws : List (List Nat)} : PcW c w → PcWs cs ws → PcWs (c :: cs) (w :: ws)
theorem PcWs.length {cs : List Pc} {ws : List (List Nat)} (h : PcWs cs ws) : ws.length = cs.length := by
 induction h with
 | nil => rfl
 | cons _ _ ih => rw [List.length_cons, List.length_cons, ih]
theorem PcWs.snoc {c : Pc} {w : List Nat} (h : PcW c w) : ∀ {cs : List Pc} {ws : List (List Nat)}, PcWs cs ws → PcWs (cs ++ [c]) (ws ++ [w])
 | _, _, .nil => .cons h .nil
 | _, _, .cons a r => .cons a (PcWs.snoc h r)
theorem PcWs.get {cs : List Pc} {ws : List (List Nat)} (h : PcWs cs ws) : ∀ {i : Nat} {w : List Nat}, ws[i]? = some w → ∃ c, cs[i]? = some c ∧ PcW c w := by
 induction h with
 | nil => intro i w h; simp at h
 | cons a r ih =>
  intro i w hw
  cases i with
  | zero => cases hw; exact ⟨_, rfl, a⟩
  | succ i => exact ih (by simpa using hw)
theorem jq4 {s w : List Nat} (h : WrT frS s w) : und frS w = some s := by
 induction h with
 | nil => exact kqg _
 | self h1 h2 _ ih =>
  rw [fqv h2 (by rcases h1 with h | h; rw [h]; rfl; rw [decide_eq_true h, Bool.or_true]), ih]
  rfl
 | pair h1 _ ih => rw [gqT h1, ih]; rfl
theorem iqx {s w : List Nat} (h : WrT frS s w) : ∀ c ∈ w, c < 128 := pq5 (by decide +kernel) h
theorem mqn {c : Pc} {w : List Nat} (h : PcW c w) : w ≠ [] ∧ ∀ x ∈ w, x ≠ 47 := by
 have nm : ∀ {n : List Nat}, NmOk n → ∀ x ∈ n, x ≠ 47 := fun {n} hn x hx => by have := eq9 hn.2 x hx; omega
 cases h with
 | @step s w h hs =>
  refine ⟨fun z => ?_, fun x hx => (fqi h x hx).1⟩
  have := kqk h
  rw [z, List.length_nil] at this
  exact hs (List.length_eq_zero_iff.mp (by omega))
 | part h1 h2 h3 h4 =>
  refine ⟨by simp, fun x hx => ?_⟩
  simp only [List.mem_append, List.mem_cons] at hx
  rcases hx with hx | rfl | hx | rfl | hx
  ·exact (fqi h1 x hx).1
  ·decide
  ·exact nm h4 x hx
  ·decide
  ·exact (fqi h2 x hx).1
 | gap h1 =>
  refine ⟨by simp, fun x hx => ?_⟩
  simp only [List.mem_append, List.mem_cons, List.not_mem_nil, or_false] at hx
  rcases hx with rfl | hx | rfl
  ·decide
  ·exact nm h1 x hx
  ·decide
 | num h1 =>
  refine ⟨by simp, fun x hx => ?_⟩
  simp only [List.mem_append, List.mem_cons, List.not_mem_nil, or_false] at hx
  rcases hx with rfl | hx | hx
  ·decide
  ·exact nm h1 x hx
  ·omega
 | word h1 =>
  refine ⟨by simp, fun x hx => ?_⟩
  simp only [List.mem_append, List.mem_cons, List.not_mem_nil, or_false] at hx
  rcases hx with rfl | hx | hx
  ·decide
  ·exact nm h1 x hx
  ·omega
 | rest h1 =>
  refine ⟨by simp, fun x hx => ?_⟩
  simp only [List.mem_append, List.mem_cons, List.not_mem_nil, or_false] at hx
  rcases hx with rfl | hx | hx
  ·decide
  ·exact nm h1 x hx
  ·omega
theorem lqQ {cs : List Pc} {ws : List (List Nat)} {e : Bool} (h : PcWs cs ws) (h0 : cs = [] → e = true) : slT true ws e = 47 :: joinT 47 (ws ++ if e then [[]] else []) ∧ Free 47 (ws ++ if e then [[]] else []) ∧ (ws ++ if e then [[]] else []) ≠ [] := by
 have hl := h.length
 refine ⟨?_, fun s hs c hc => ?_, ?_⟩
 ·unfold slT
  cases ws with
  | nil =>
   rw [List.length_nil] at hl
   rw [h0 (List.length_eq_zero_iff.mp hl.symm)]
   rfl
  | cons w ws =>
   cases e with
   | false => simp
   | true =>
    have e := lq9 47 [] (show w :: ws ≠ [] by simp)
    simp
    rw [show w :: (ws ++ [[]]) = (w :: ws) ++ [[]] from rfl, e]
 ·rcases List.mem_append.mp hs with z | z
  ·obtain ⟨i, hi, ei⟩ := List.getElem_of_mem z
   obtain ⟨d, _, hd⟩ := h.get (List.getElem?_eq_some_iff.mpr ⟨hi, ei⟩)
   exact (mqn hd).2 c hc
  ·cases e with
   | false => cases z
   | true => rw [List.mem_singleton.mp z] at hc; cases hc
 ·cases ws with
  | nil =>
   rw [List.length_nil] at hl
   rw [h0 (List.length_eq_zero_iff.mp hl.symm)]
   simp
  | cons w ws => simp
theorem hqg {H : Hp} : ∀ {l : List Int}, IsAll H (l.map PyData.int) (l.map V.int)
 | [] => .nil
 | i :: _ => .cons (.int i) hqg
def kwW : List Str := [Str.ofString "number", Str.ofString "word", Str.ofString "rest"]
def bfo (c : Nat) (t : List Nat) : List Nat := t.takeWhile fun x => decide (x ≠ c)
def aft (c : Nat) (t : List Nat) : List Nat := (t.dropWhile fun x => decide (x ≠ c)).tail
theorem bqV {c : Nat} : ∀ {a b : List Nat}, c ∉ a → bfo c (a ++ c :: b) = a ∧ aft c (a ++ c :: b) = b
 | [], b, _ => by simp [bfo, aft]
 | x :: a, b, h => by
  have hx : x ≠ c := fun z => h (by rw [z]; exact List.mem_cons_self ..)
  obtain ⟨h1, h2⟩ := bqV (a := a) (b := b) fun z => h (List.mem_cons_of_mem _ z)
  refine ⟨?_, ?_⟩
  ·unfold bfo at h1 ⊢
   rw [List.cons_append, List.takeWhile_cons_of_pos (p := fun x => decide (x ≠ c)) (decide_eq_true hx), h1]
  ·unfold aft at h2 ⊢
   rw [List.cons_append, List.dropWhile_cons_of_pos (p := fun x => decide (x ≠ c)) (decide_eq_true hx), h2]
theorem gql {c : Nat} {t : List Nat} (h : c ∈ t) : ∃ a b, t = a ++ c :: b ∧ c ∉ a ∧ bfo c t = a ∧ aft c t = b := by
 obtain ⟨a, b, e, h1⟩ := List.eq_append_cons_of_mem h
 obtain ⟨e1, e2⟩ := bqV (b := b) h1
 rw [← e] at e1 e2
 exact ⟨a, b, e, h1, e1, e2⟩
def gapD (h i t : List Nat) : PyData := if h = [] ∧ t = [] then (if 58 ∈ i then (if mkS (aft 58 i) ∈ kwW then .tuple [.str (mkS (aft 58 i)), st (bfo 58 i)] else .none) else .tuple [.str (Str.ofString "gap"), st i]) else .tuple [.str (Str.ofString "part"), oD (und frS h), st i, oD (und frS t)]
def rpcD (t : List Nat) : PyData := if 123 ∈ t then (if 125 ∈ aft 123 t then gapD (bfo 123 t) (bfo 125 (aft 123 t)) (aft 125 (aft 123 t)) else .none) else .tuple [.str (Str.ofString "step"), oD (und frS t)]
def rptE (ts : List (List Nat)) : Bool := decide (ts.getLast? = some [])
def rptL (ts : List (List Nat)) : List (List Nat) := if rptE ts then ts.dropLast else ts
def rptD (ts : List (List Nat)) : PyData := .tuple [.tuple ((rptL ts).map rpcD), .bool (rptE ts)]
theorem kqj {fr : List Nat} : ∀ (n : Nat) (t s : List Nat), t.length ≤ n → und fr t = some s → s.length ≤ t.length
 | n, [], s, _, h => by rw [kqg] at h; cases h; exact Nat.le_refl _
 | n + 1, c :: r, s, hn, h => by
  rw [List.length_cons] at hn
  by_cases hc : c = 126
  ·subst hc
   match r with
   | [] => rw [hqo (by decide)] at h; cases h
   | [a] => rw [hqo (by simp)] at h; cases h
   | a :: b :: r =>
    cases e : sgO a b with
    | none => rw [iqh e] at h; cases h
    | some d =>
     rw [gqT e] at h
     cases e2 : und fr r with
     | none => rw [e2] at h; cases h
     | some s' =>
      rw [e2] at h
      cases h
      simp only [List.length_cons] at hn ⊢
      have := kqj n r s' (by omega) e2
      omega
  ·by_cases h2 : (isPl c || decide (c ∈ fr)) = true
   ·rw [fqv hc h2] at h
    cases e2 : und fr r with
    | none => rw [e2] at h; cases h
    | some s' =>
     rw [e2] at h
     cases h
     have := kqj n r s' (by omega) e2
     simp only [List.length_cons]
     omega
   ·rw [oqc hc h2] at h; cases h
theorem hqj {t : List Nat} (h : t.length ≤ 100000) : smallD (oD (und frS t)) = true := by
 cases e : und frS t with
 | none => rfl
 | some s =>
  have := kqj _ t s (Nat.le_refl _) e
  show decide ((mkS s).length ≤ 100000) = true
  rw [aq8]
  exact decide_eq_true (by omega)
theorem fq0 {t : List Nat} (h : t.length ≤ 100000) : smallD (st t) = true := by
 show decide ((mkS t).length ≤ 100000) = true
 rw [aq8]
 exact decide_eq_true h
theorem mqb {h i t : List Nat} (h1 : h.length ≤ 100000) (h2 : i.length ≤ 100000) (h3 : t.length ≤ 100000) : smallD (gapD h i t) = true := by
 unfold gapD
 split
 ·split
  ·rename_i hm
   obtain ⟨a, b, e, _, e1, e2⟩ := gql hm
   have hl := congrArg List.length e
   rw [List.length_append, List.length_cons] at hl
   split
   ·exact bqv (by simp) (by simp only [smallAll]; rw [show smallD (.str (mkS (aft 58 i))) = true from fq0 (by rw [e2]; omega), fq0 (by rw [e1]; omega)]; rfl)
   ·rfl
  ·exact bqv (by simp) (by simp only [smallAll]; rw [show smallD (.str (Str.ofString "gap")) = true by decide +kernel, fq0 h2]; rfl)
 ·exact bqv (by simp) (by simp only [smallAll]; rw [show smallD (.str (Str.ofString "part")) = true by decide +kernel, fq0 h2, hqj h1, hqj h3]; rfl)
theorem mqh {t : List Nat} (h : t.length ≤ 100000) : smallD (rpcD t) = true := by
 unfold rpcD
 split
 ·rename_i hm
  obtain ⟨a, b, e, _, e1, e2⟩ := gql hm
  have hl := congrArg List.length e
  rw [List.length_append, List.length_cons] at hl
  rw [e1, e2]
  split
  ·rename_i hm2
   obtain ⟨a2, b2, e3, _, e4, e5⟩ := gql hm2
   have hl2 := congrArg List.length e3
   rw [List.length_append, List.length_cons] at hl2
   rw [e4, e5]
   exact mqb (by omega) (by omega) (by omega)
  ·rfl
 ·exact bqv (by simp) (by simp only [smallAll]; rw [show smallD (.str (Str.ofString "step")) = true by decide +kernel, hqj h]; rfl)
theorem iq1 {ts : List (List Nat)} (h1 : ts.length ≤ 100000) (h2 : ∀ t ∈ ts, t.length ≤ 100000) : smallD (rptD ts) = true := by
 have hs : (rptL ts).length ≤ ts.length ∧ ∀ t ∈ rptL ts, t ∈ ts := by
  unfold rptL
  split
  ·exact ⟨by rw [List.length_dropLast]; omega, fun t ht => List.dropLast_subset _ ht⟩
  ·exact ⟨Nat.le_refl _, fun t ht => ht⟩
 refine bqv (by simp) ?_
 simp only [smallAll]
 rw [bqv (by rw [List.length_map]; omega) (gq1 fun d hd => ?_)]
 ·rfl
 ·obtain ⟨t, ht, rfl⟩ := List.mem_map.mp hd
  exact mqh (h2 t (hs.2 t ht))
theorem iqo {c : Pc} {w : List Nat} (h : PcW c w) : rpcD w = pcD c := by
 have nm : ∀ {n : List Nat}, NmOk n → 125 ∉ n ∧ 58 ∉ n := fun {n} hn => ⟨fun z => by have := eq9 hn.2 _ z; omega, fun z => by have := eq9 hn.2 _ z; omega⟩
 have kw : ∀ (k n : List Nat) (z : Str), NmOk n → 125 ∉ k → z = mkS k → z ∈ kwW → rpcD (123 :: (n ++ 58 :: (k ++ [125]))) = .tuple [.str z, st n] := fun k n z hn hk ez hz => by
  obtain ⟨n1, n2⟩ := nm hn
  have e1 := bqV (c := 123) (a := []) (b := n ++ 58 :: (k ++ [125])) (by simp)
  have e2 := bqV (c := 125) (a := n ++ 58 :: k) (b := []) (by simp; exact ⟨n1, hk⟩)
  have e3 := bqV (c := 58) (a := n) (b := k) n2
  rw [List.nil_append] at e1
  rw [List.append_assoc, List.cons_append] at e2
  unfold rpcD
  rw [if_pos (List.mem_cons_self ..), e1.1, e1.2, if_pos (by simp), e2.1, e2.2]
  unfold gapD
  rw [if_pos ⟨rfl, rfl⟩, if_pos (by simp), e3.1, e3.2, ← ez, if_pos hz]
 cases h with
 | step h1 h2 =>
  unfold rpcD
  rw [if_neg (fun z => (fqi h1 _ z).2.1 rfl), jq4 h1]
  rfl
 | @part h n t a b h1 h2 h3 h4 =>
  obtain ⟨n1, n2⟩ := nm h4
  have e1 := bqV (c := 123) (a := a) (b := n ++ 125 :: b) (fun z => (fqi h1 _ z).2.1 rfl)
  have e2 := bqV (c := 125) (a := n) (b := b) n1
  unfold rpcD
  rw [if_pos (by simp), e1.1, e1.2, if_pos (by simp), e2.1, e2.2]
  unfold gapD
  rw [if_neg (fun z => h3 ?_), jq4 h1, jq4 h2]
  ·rfl
  ·have l1 := kqk h1
   have l2 := kqk h2
   rw [z.1, List.length_nil] at l1
   rw [z.2, List.length_nil] at l2
   rw [List.length_eq_zero_iff.mp (show h.length = 0 by omega), List.length_eq_zero_iff.mp (show t.length = 0 by omega)]
   rfl
 | @gap n h1 =>
  obtain ⟨n1, n2⟩ := nm h1
  have e1 := bqV (c := 123) (a := []) (b := n ++ [125]) (by simp)
  have e2 := bqV (c := 125) (a := n) (b := []) n1
  rw [List.nil_append] at e1
  unfold rpcD
  rw [if_pos (List.mem_cons_self ..), e1.1, e1.2, if_pos (by simp), e2.1, e2.2]
  unfold gapD
  rw [if_pos ⟨rfl, rfl⟩, if_neg n2]
  rfl
 | num h1 => exact kw _ _ (Str.ofString "number") h1 (by decide) (by decide +kernel) (by unfold kwW; simp)
 | word h1 => exact kw _ _ (Str.ofString "word") h1 (by decide) (by decide +kernel) (by unfold kwW; simp)
 | rest h1 => exact kw _ _ (Str.ofString "rest") h1 (by decide) (by decide +kernel) (by unfold kwW; simp)
theorem nqM {cs : List Pc} {ws : List (List Nat)} {e : Bool} (h : PcWs cs ws) : rptD (ws ++ if e then [[]] else []) = .tuple [.tuple (cs.map pcD), .bool e] := by
 have em : ∀ {cs : List Pc} {ws : List (List Nat)}, PcWs cs ws → ws.map rpcD = cs.map pcD := fun {cs ws} h => by
  induction h with
  | nil => rfl
  | cons a _ ih => rw [List.map_cons, List.map_cons, ih, iqo a]
 have e1 : rptE (ws ++ if e then [[]] else []) = e := by
  unfold rptE
  cases e with
  | true => simp
  | false =>
   rw [if_neg (by decide), List.append_nil]
   refine decide_eq_false fun z => ?_
   obtain ⟨c, _, hc⟩ := h.get (i := ws.length - 1) (w := []) (by rw [← List.getLast?_eq_getElem?]; exact z)
   exact (mqn hc).1 rfl
 unfold rptD
 rw [e1, ← em h]
 congr 3
 unfold rptL
 rw [e1]
 cases e <;> simp
theorem nqY {cs : List Pc} {e : Bool} (ok : PatOk cs) (hn : ∀ c ∈ cs, c.isStep = false → NmOk c.name) (nd : (gapsM cs).Nodup) (hl : cs.length ≤ 12) (he : cs = [] → e = true) : patD (.tuple [.tuple (cs.map pcD), .bool e]) = true := by
 have eb : (cs.map pcD).map pcOf = cs := by
  rw [List.map_map]
  conv => rhs; rw [← List.map_id cs]
  exact List.map_congr_left fun c hc => (eqO (ok.1 c hc) (hn c hc)).2
 show (piecesD (cs.map pcD) && (e || decide (0 < (cs.map pcD).length))) = true
 unfold piecesD
 rw [eb, List.length_map, decide_eq_true hl, decide_eq_true nd]
 have h1 : (cs.map pcD).all pieceD = true := List.all_eq_true.mpr fun d hd => by
  obtain ⟨c, hc, rfl⟩ := List.mem_map.mp hd
  exact (eqO (ok.1 c hc) (hn c hc)).1
 have h2 : restsL cs = true := List.all_eq_true.mpr fun c hc => by
  obtain ⟨i, hi, ei⟩ := List.getElem_of_mem hc
  rw [List.length_dropLast] at hi
  rw [List.getElem_dropLast] at ei
  cases er : c.isRest with
  | false => rfl
  | true =>
   have := ok.2 i c (List.getElem?_eq_some_iff.mpr ⟨by omega, ei⟩) er
   omega
 rw [h1, h2]
 cases cs with
 | nil => rw [he rfl]; rfl
 | cons a b => simp
theorem jq5 {t : List Nat} {c : Nat} (h : c ∈ t) : Txt.partition (mkS t) (mkS [c]) = (mkS (bfo c t), mkS [c], mkS (aft c t)) := by
 obtain ⟨a, b, e, h1, e1, e2⟩ := gql h
 rw [e1, e2, e, oqO h1]
theorem jq6 {H : Hp} (o : Option (List Nat)) : IsT H (oD o) (undV o) := by
 cases o with
 | none => exact .non
 | some l => exact .str _
theorem fqD (sep n : Nat) : ∀ {ws : List (List Nat)}, (∀ w ∈ ws, w.length ≤ n) → (joinT sep ws).length ≤ ws.length * (n + 1) ∧ (ws.map (·.length)).sum ≤ ws.length * n
 | [], _ => ⟨by simp [joinT], by simp⟩
 | w :: ws, h => by
  have tl : ∀ {ws : List (List Nat)}, (∀ w ∈ ws, w.length ≤ n) → (tlT sep ws).length ≤ ws.length * (n + 1) ∧ (ws.map (·.length)).sum ≤ ws.length * n := fun {ws} => by
   induction ws with
   | nil => exact fun _ => ⟨by simp [tlT], by simp⟩
   | cons a r ih =>
    intro h
    obtain ⟨i1, i2⟩ := ih fun w hw => h w (List.mem_cons_of_mem _ hw)
    have := h a (List.mem_cons_self ..)
    simp only [tlT, List.length_cons, List.length_append, List.map_cons, List.sum_cons, Nat.add_mul, Nat.one_mul]
    exact ⟨by omega, by omega⟩
  obtain ⟨i1, i2⟩ := tl fun w hw => h w (List.mem_cons_of_mem _ hw)
  have := h w (List.mem_cons_self ..)
  simp only [joinT, List.length_cons, List.length_append, List.map_cons, List.sum_cons, Nat.add_mul, Nat.one_mul]
  exact ⟨by omega, by omega⟩
theorem oq1 {c : Pc} (ok : PcOk c) (hn : c.isStep = false → NmOk c.name) : (pcT c).length ≤ 700 := by
 cases c with
 | step s => have := ok.2.1; have := mql s; show (wr s).length ≤ 700; omega
 | part h n t =>
  obtain ⟨o1, o2, _⟩ := ok
  have l3 : n.length ≤ 8 := (hn rfl).1.2
  have l1 := mql h
  have l2 := mql t
  simp only [pcT, List.length_append, List.length_cons]
  omega
 | gap n => have l3 : n.length ≤ 8 := (hn rfl).1.2; simp only [pcT, List.length_append, List.length_cons, List.length_nil]; omega
 | num n => have l3 : n.length ≤ 8 := (hn rfl).1.2; simp only [pcT, List.length_append, List.length_cons, List.length_nil]; omega
 | word n => have l3 : n.length ≤ 8 := (hn rfl).1.2; simp only [pcT, List.length_append, List.length_cons, List.length_nil]; omega
 | rest n => have l3 : n.length ≤ 8 := (hn rfl).1.2; simp only [pcT, List.length_append, List.length_cons, List.length_nil]; omega
theorem mqI {c : Pc} (o : PcOk c) (hn : c.isStep = false → NmOk c.name) : PcSg c := by
 refine ⟨fun l e => by rw [e] at o; exact o.2.2.1, fun h n t e => by rw [e] at o; exact ⟨o.2.2.1, o.2.2.2.1⟩, ?_⟩
 have nm : ∀ {n : List Nat}, NmOk n → ∀ x ∈ n, isSg x = true := fun {n} h x hx => by
  have := eq9 h.2 x hx
  unfold isSg
  simp
  omega
 cases c with
 | step s => intro x hx; cases hx
 | part h n t => exact nm (hn rfl)
 | num n => exact nm (hn rfl)
 | word n => exact nm (hn rfl)
 | gap n => exact nm (hn rfl)
 | rest n => exact nm (hn rfl)
theorem oqf : ∀ {cs : List Pc}, (∀ c ∈ cs, PcW c (pcT c)) → PcWs cs (cs.map pcT)
 | [], _ => .nil
 | c :: cs, h => .cons (h c (List.mem_cons_self ..)) (oqf fun d hd => h d (List.mem_cons_of_mem _ hd))
theorem oqB {c : Pc} {w : List Nat} (h : PcW c w) : ∀ x ∈ w, x < 128 := by
 have nm : ∀ {n : List Nat}, NmOk n → ∀ x ∈ n, x < 128 := fun {n} hn x hx => by have := eq9 hn.2 x hx; omega
 cases h with
 | step h hs => exact iqx h
 | part h1 h2 h3 h4 =>
  intro x hx
  simp only [List.mem_append, List.mem_cons] at hx
  rcases hx with hx | rfl | hx | rfl | hx
  ·exact iqx h1 x hx
  ·decide
  ·exact nm h4 x hx
  ·decide
  ·exact iqx h2 x hx
 | gap h1 =>
  intro x hx
  simp only [List.mem_append, List.mem_cons, List.not_mem_nil, or_false] at hx
  rcases hx with rfl | hx | rfl
  ·decide
  ·exact nm h1 x hx
  ·decide
 | _ h1 =>
  intro x hx
  simp only [List.mem_append, List.mem_cons, List.not_mem_nil, or_false] at hx
  rcases hx with rfl | hx | hx
  ·decide
  ·exact nm h1 x hx
  ·omega
def OddT (t : List Nat) : Prop := pieceD (rpcD t) = false ∧ (∀ c ∈ t, c ≠ 47 ∧ c < 128) ∧ t.length ≤ 100
def oddB (t : List Nat) : Bool := !pieceD (rpcD t) && (t.all (fun c => decide (c ≠ 47) && decide (c < 128)) && decide (t.length ≤ 100))
theorem hqa {t : List Nat} (h : oddB t = true) : OddT t := by
 unfold oddB at h
 simp only [Bool.and_eq_true, List.all_eq_true, decide_eq_true_eq, Bool.not_eq_true'] at h
 exact ⟨h.1, h.2.1, h.2.2⟩
theorem lqE {fr r : List Nat} : ∀ {n : List Nat}, n.all isSma = true → und fr (n ++ r) = (und fr r).map (n ++ ·)
 | [], _ => by simp
 | c :: n, h => by
  rw [List.all_cons, Bool.and_eq_true] at h
  have hc := eq9 (n := [c]) (by simpa using h.1) c (by simp)
  have hp : isPl c = true := by unfold isPl; simp; omega
  rw [List.cons_append, fqv (by omega) (by rw [hp]; rfl), lqE h.2, Option.map_map]
  rfl
theorem iqG {h i r : List Nat} (h1 : 123 ∉ h) (h2 : 125 ∉ i) : rpcD (h ++ 123 :: (i ++ 125 :: r)) = gapD h i r := by
 obtain ⟨e1, e2⟩ := bqV (c := 123) (a := h) (b := i ++ 125 :: r) h1
 obtain ⟨e3, e4⟩ := bqV (c := 125) (a := i) (b := r) h2
 unfold rpcD
 rw [if_pos (by simp), e1, e2, if_pos (by simp), e3, e4]
theorem dqP {h t i : PyData} (hb : nameD i = false ∨ endsD h t = false) : pieceD (.tuple [.str (Str.ofString "part"), h, i, t]) = false := by
 obtain ⟨n1, n2, n3, n4, n5, n6, n7, n8, n9, n10, n11, n12, n13, n14, n15⟩ := mqd
 show pieceK (Str.ofString "part") [h, i, t] = false
 unfold pieceK
 rw [if_neg n5, if_pos rfl]
 show (nameD i && endsD h t) = false
 rcases hb with z | z
 ·rw [z, Bool.false_and]
 ·rw [z, Bool.and_false]
theorem pqf {i : PyData} (hb : nameD i = false) : pieceD (.tuple [.str (Str.ofString "gap"), i]) = false := by
 obtain ⟨n1, n2, n3, n4, n5, n6, n7, n8, n9, n10, n11, n12, n13, n14, n15⟩ := mqd
 show pieceK (Str.ofString "gap") [i] = false
 unfold pieceK
 rw [if_neg n3, if_neg n8]
 show (decide _ && nameD i) = false
 rw [hb, Bool.and_false]
theorem kqY : pieceD (.tuple [.str (Str.ofString "step"), .none]) = false := by decide +kernel
theorem jqZ {i : List Nat} {c : Nat} (hc : c ∈ i) (h : isSma c = false) : nameD (st i) = false := by
 show (decide _ && i.all isSma) = false
 rw [show i.all isSma = false from List.all_eq_false.mpr ⟨c, hc, by rw [h]; decide⟩, Bool.and_false]
theorem hqi {h : PyData} {t : List Nat} (e : und frS t = none) : endsD h (oD (und frS t)) = false := by
 rw [e]
 cases h <;> rfl
theorem nqb {n k : List Nat} (hn : 58 ∉ n) (hk : mkS k ∉ kwW) : gapD [] (n ++ 58 :: k) [] = .none := by
 obtain ⟨e1, e2⟩ := bqV (c := 58) (a := n) (b := k) hn
 unfold gapD
 rw [if_pos ⟨rfl, rfl⟩, if_pos (by simp), e2, if_neg hk]
theorem dqG {h i t : List Nat} (hne : ¬ (h = [] ∧ t = [])) : gapD h i t = .tuple [.str (Str.ofString "part"), oD (und frS h), st i, oD (und frS t)] := by
 unfold gapD
 rw [if_neg hne]
def oddN (n : List Nat) : List (List Nat) := [[123] ++ n, n ++ [125], [123, 123] ++ n ++ [125], [123] ++ n ++ [125, 125], [123] ++ n ++ [58, 125], [123] ++ n ++ [58, 109, 97, 110, 121, 125], [123] ++ n ++ [58, 78, 117, 109, 98, 101, 114, 125], [123] ++ n ++ [58, 110, 117, 109, 98, 101, 114, 58, 119, 111, 114, 100, 125], [97, 123] ++ n ++ [58, 119, 111, 114, 100, 125], [123] ++ n ++ [58, 110, 117, 109, 98, 101, 114, 125, 98], [123] ++ n ++ [125, 126], [123] ++ n ++ [58, 103, 97, 112, 125]]
theorem dqr {n : List Nat} (hn : NmOk n) : ∀ t ∈ oddN n, OddT t := by
 have sm := eq9 hn.2
 have no : ∀ c, (c < 97 ∨ 122 < c) → c ∉ n := fun c hc z => by have := sm c z; omega
 have hl := hn.1.2
 have mk : ∀ a b t : List Nat, t = a ++ n ++ b → pieceD (rpcD t) = false → ((a ++ b).all fun c => decide (c ≠ 47) && decide (c < 128)) = true → a.length + b.length ≤ 50 → OddT t := fun a b t e h1 h2 h3 => ⟨h1, fun c hc => by
  have h2 := List.all_eq_true.mp h2
  rw [e] at hc
  rcases List.mem_append.mp hc with z | z
  ·rcases List.mem_append.mp z with y | y
   ·simpa using h2 c (List.mem_append_left _ y)
   ·have := sm c y; omega
  ·simpa using h2 c (List.mem_append_right _ z), by rw [e]; simp only [List.length_append]; omega⟩
 have gp : ∀ (h i r t : List Nat), t = h ++ 123 :: (i ++ 125 :: r) → 123 ∉ h → 125 ∉ i → pieceD (gapD h i r) = false → pieceD (rpcD t) = false := fun h i r t e h1 h2 h3 => by
  rw [e, iqG h1 h2]; exact h3
 have w : ∀ k : List Nat, mkS k ∉ kwW → pieceD (gapD [] (n ++ 58 :: k) []) = false := fun k hk => by rw [nqb (no 58 (by decide)) hk]; rfl
 intro t ht
 unfold oddN at ht
 simp only [List.mem_cons, List.not_mem_nil, or_false] at ht
 rcases ht with rfl | rfl | rfl | rfl | rfl | rfl | rfl | rfl | rfl | rfl | rfl | rfl
 ·refine mk [123] [] _ (by simp) ?_ (by decide) (by decide)
  obtain ⟨e1, e2⟩ := bqV (c := 123) (a := []) (b := n) (by simp)
  unfold rpcD
  rw [if_pos (by simp), show [123] ++ n = [] ++ 123 :: n from rfl, e2, if_neg (no 125 (by decide))]
  rfl
 ·refine mk [] [125] _ (by simp) ?_ (by decide) (by decide)
  unfold rpcD
  rw [if_neg (by simp; exact no 123 (by decide)), lqE hn.2, show und frS [125] = none by decide +kernel]
  exact kqY
 ·exact mk [123, 123] [125] _ rfl (gp [] (123 :: n) [] _ (by simp) (by simp) (by simp; exact no 125 (by decide)) (by
   unfold gapD
   rw [if_pos ⟨rfl, rfl⟩, if_neg (by simp; exact no 58 (by decide))]
   exact pqf (jqZ (c := 123) (by simp) (by decide)))) (by decide) (by decide)
 ·exact mk [123] [125, 125] _ rfl (gp [] n [125] _ (by simp) (by simp) (no 125 (by decide)) (by rw [dqG (by simp)]; exact dqP (.inr (hqi (by decide +kernel))))) (by decide) (by decide)
 ·exact mk [123] [58, 125] _ rfl (gp [] (n ++ 58 :: []) [] _ (by simp) (by simp) (by simp; exact no 125 (by decide)) (w _ (by decide +kernel))) (by decide) (by decide)
 ·exact mk [123] [58, 109, 97, 110, 121, 125] _ rfl (gp [] (n ++ 58 :: [109, 97, 110, 121]) [] _ (by simp) (by simp) (by simp; exact no 125 (by decide)) (w _ (by decide +kernel))) (by decide) (by decide)
 ·exact mk [123] [58, 78, 117, 109, 98, 101, 114, 125] _ rfl (gp [] (n ++ 58 :: [78, 117, 109, 98, 101, 114]) [] _ (by simp) (by simp) (by simp; exact no 125 (by decide)) (w _ (by decide +kernel))) (by decide) (by decide)
 ·exact mk [123] [58, 110, 117, 109, 98, 101, 114, 58, 119, 111, 114, 100, 125] _ rfl (gp [] (n ++ 58 :: [110, 117, 109, 98, 101, 114, 58, 119, 111, 114, 100]) [] _ (by simp) (by simp) (by simp; exact no 125 (by decide)) (w _ (by decide +kernel))) (by decide) (by decide)
 ·exact mk [97, 123] [58, 119, 111, 114, 100, 125] _ rfl (gp [97] (n ++ 58 :: [119, 111, 114, 100]) [] _ (by simp) (by simp) (by simp; exact no 125 (by decide)) (by rw [dqG (by simp)]; exact dqP (.inl (jqZ (c := 58) (by simp) (by decide))))) (by decide) (by decide)
 ·exact mk [123] [58, 110, 117, 109, 98, 101, 114, 125, 98] _ rfl (gp [] (n ++ 58 :: [110, 117, 109, 98, 101, 114]) [98] _ (by simp) (by simp) (by simp; exact no 125 (by decide)) (by rw [dqG (by simp)]; exact dqP (.inl (jqZ (c := 58) (by simp) (by decide))))) (by decide) (by decide)
 ·exact mk [123] [125, 126] _ rfl (gp [] n [126] _ (by simp) (by simp) (no 125 (by decide)) (by rw [dqG (by simp)]; exact dqP (.inr (hqi (by decide +kernel))))) (by decide) (by decide)
 ·exact mk [123] [58, 103, 97, 112, 125] _ rfl (gp [] (n ++ 58 :: [103, 97, 112]) [] _ (by simp) (by simp) (by simp; exact no 125 (by decide)) (w _ (by decide +kernel))) (by decide) (by decide)
theorem kqw {ts : List (List Nat)} {t : List Nat} (h : t ∈ rptL ts) (hb : pieceD (rpcD t) = false) : patD (rptD ts) = false := by
 show (piecesD ((rptL ts).map rpcD) && _) = false
 have : ((rptL ts).map rpcD).all pieceD = false := List.all_eq_false.mpr ⟨rpcD t, List.mem_map.mpr ⟨t, h, rfl⟩, by rw [hb]; decide⟩
 unfold piecesD
 rw [this, Bool.false_and, Bool.and_false, Bool.false_and]
theorem pqo {A r : List (List Nat)} {x : List Nat} (h : r ≠ []) : x ∈ rptL (A ++ x :: r) := by
 unfold rptL
 split
 ·rw [List.dropLast_append_of_ne_nil (by simp), List.dropLast_cons_of_ne_nil h]
  simp
 ·simp
theorem kqF {A r : List (List Nat)} {x : List Nat} (h : r ≠ []) (hb : pieceD (rpcD x) = false) : patD (rptD (A ++ x :: r)) = false := kqw (pqo h) hb
theorem jqU : pieceD (rpcD []) = false := by decide +kernel
theorem pqg {A : List (List Nat)} {x : List Nat} (h : x ≠ []) (hb : pieceD (rpcD x) = false) : patD (rptD (A ++ [x])) = false := by
 refine kqw (t := x) ?_ hb
 unfold rptL
 rw [if_neg (fun z => ?_)]
 ·simp
 ·unfold rptE at z
  rw [List.getLast?_append] at z
  simp at z
  exact h z
theorem oq6 : patD (rptD [[123, 97, 58, 114, 101, 115, 116, 125], [98]]) = false := by decide +kernel
theorem pqR {n : Nat} (h : 12 < n) : patD (rptD (List.replicate n [97])) = false := by
 show (piecesD ((rptL (List.replicate n [97])).map rpcD) && _) = false
 have e : rptL (List.replicate n [97]) = List.replicate n [97] := by
  unfold rptL rptE
  rw [if_neg]
  rw [List.getLast?_replicate]
  simp
 unfold piecesD
 rw [e, List.length_map, List.length_replicate, decide_eq_false (by omega), Bool.false_and, Bool.false_and]
theorem nqr {n : List Nat} (hn : NmOk n) : patD (rptD [[123] ++ n ++ [125], [120, 123] ++ n ++ [125]]) = false := by
 have no : ∀ c, (c < 97 ∨ 122 < c) → c ∉ n := fun c hc z => by have := eq9 hn.2 c z; omega
 have e1 : rpcD ([123] ++ n ++ [125]) = pcD (.gap n) := by
  rw [show [123] ++ n ++ [125] = 123 :: (n ++ [125]) by simp]
  exact iqo (.gap hn)
 have e2 : rpcD ([120, 123] ++ n ++ [125]) = pcD (.part [120] n []) := by
  rw [show [120, 123] ++ n ++ [125] = [120] ++ 123 :: (n ++ 125 :: []) by simp]
  exact iqo (.part (.self (.inl (by decide +kernel)) (by decide) .nil) .nil (by simp) hn)
 have e3 : rptL [[123] ++ n ++ [125], [120, 123] ++ n ++ [125]] = [[123] ++ n ++ [125], [120, 123] ++ n ++ [125]] := by
  unfold rptL rptE
  rw [if_neg (by simp)]
 show (piecesD ((rptL _).map rpcD) && _) = false
 rw [e3]
 unfold piecesD
 rw [List.map_cons, List.map_cons, List.map_nil, e1, e2]
 have g1 := (eqO (c := .gap n) trivial fun _ => hn).2
 have g2 := (eqO (c := .part [120] n []) ⟨by decide, by decide, by decide +kernel, by simp, by simp⟩ fun _ => hn).2
 rw [List.map_cons, List.map_cons, List.map_nil, g1, g2, show decide ((gapsM [Pc.gap n, Pc.part [120] n []]).Nodup) = false from decide_eq_false (by
  show ¬ [n, n].Nodup
  simp), Bool.and_false, Bool.and_false, Bool.and_false, Bool.false_and]
theorem oqx {c : Pc} (ok : PcOk c) (hn : c.isStep = false → NmOk c.name) : pieceD (rpcD (pcT c ++ [63])) = false := by
 have u : und frS [63] = none := by decide +kernel
 have no : ∀ {n : List Nat}, NmOk n → ∀ c, (c < 97 ∨ 122 < c) → c ∉ n := fun {n} hn c hc z => by have := eq9 hn.2 c z; omega
 have kw : ∀ (n k : List Nat), NmOk n → 125 ∉ k → pieceD (rpcD (123 :: (n ++ 58 :: (k ++ [125])) ++ [63])) = false := fun n k h hk => by
  rw [show 123 :: (n ++ 58 :: (k ++ [125])) ++ [63] = [] ++ 123 :: ((n ++ 58 :: k) ++ 125 :: [63]) by simp, iqG (by simp) (by simp; exact ⟨no h 125 (by decide), hk⟩), dqG (by simp)]
  exact dqP (.inr (hqi u))
 cases c with
 | step s =>
  show pieceD (rpcD (wr s ++ [63])) = false
  have hw := fqi (jqf (fr := frS) ok.2.2.1)
  unfold rpcD
  rw [if_neg (fun z => ?_), mqr s [63] ok.2.2.1, u]
  ·exact kqY
  ·rcases List.mem_append.mp z with y | y
   ·exact (hw _ y).2.1 rfl
   ·simp at y
 | part h n t =>
  have hw := fqi (jqf (fr := frS) ok.2.2.1)
  rw [show pcT (.part h n t) ++ [63] = wr h ++ 123 :: (n ++ 125 :: (wr t ++ [63])) by simp [pcT], iqG (fun z => (hw _ z).2.1 rfl) (show 125 ∉ n from no (hn rfl) 125 (by decide)), dqG (by simp)]
  exact dqP (.inr (hqi (by rw [mqr t [63] ok.2.2.2.1, u]; rfl)))
 | gap n =>
  rw [show pcT (.gap n) ++ [63] = [] ++ 123 :: (n ++ 125 :: [63]) by simp [pcT], iqG (h := []) (by simp) (show 125 ∉ n from no (hn rfl) 125 (by decide)), dqG (by simp)]
  exact dqP (.inr (hqi u))
 | num n => exact kw n _ (hn rfl) (by decide)
 | word n => exact kw n _ (hn rfl) (by decide)
 | rest n => exact kw n _ (hn rfl) (by decide)
theorem hql (sep : Nat) (t : List Nat) (B : List (List Nat)) : ∀ {A : List (List Nat)}, A ≠ [] → joinT sep (A ++ t :: B) = joinT sep A ++ sep :: joinT sep (t :: B)
 | a :: A, _ => by
  have tl : ∀ A : List (List Nat), tlT sep (A ++ t :: B) = tlT sep A ++ sep :: (t ++ tlT sep B) := fun A => by
   induction A with
   | nil => simp [tlT]
   | cons b A ih => rw [List.cons_append]; simp only [tlT]; rw [ih]; simp
  show a ++ tlT sep (A ++ t :: B) = (a ++ tlT sep A) ++ sep :: (t ++ tlT sep B)
  rw [tl]
  simp
def NoPt (K : PySem.W.Frag) (H : Hp) (v : V) : Prop := (∃ ty, TyOf K H v ty ∧ PySem.W.kitOne K ty (.type "str") = some false) ∨ (∃ t : List Nat, v = tV t ∧ t.take 1 ≠ [47]) ∨ ∃ ts : List (List Nat), v = tV (47 :: joinT 47 ts) ∧ ts ≠ [] ∧ Free 47 ts ∧ ts.length ≤ 100 ∧ (∀ t ∈ ts, t.length ≤ 800 ∧ ∀ c ∈ t, c < 128) ∧ patD (rptD ts) = false
theorem oqL (k : Nat) (h : k < 5) : MulOk (⟨[47, 97].toArray⟩ : Str) ((13 + k : Nat) : Int) ∧ Txt.mul (⟨[47, 97].toArray⟩ : Str) ((13 + k : Nat) : Int) = ⟨(47 :: joinT 47 (List.replicate (13 + k) [97])).toArray⟩ := by
 refine ⟨⟨?_, fun h1 _ => ?_, fun _ _ => notTooLong ?_⟩, ?_⟩
 ·rw [decide_eq_false (by omega), decide_eq_false (by omega)]; rfl
 ·show ¬ (2 : Int) > _
  have : (2 : Int) ≤ (2 ^ 63 - 1) / ((13 + k : Nat) : Int) := by
   rw [Int.le_ediv_iff_mul_le (by omega)]
   omega
  omega
 ·show 2 * _ ≤ _
  have : (((13 + k : Nat) : Int)).toNat = 13 + k := by omega
  rw [this]
  exact Nat.le_trans (show 2 * (13 + k) ≤ 100 by omega) (by decide)
 ·have key : ∀ k, k < 5 → Txt.mul (⟨[47, 97].toArray⟩ : Str) ((13 + k : Nat) : Int) = ⟨(47 :: joinT 47 (List.replicate (13 + k) [97])).toArray⟩ := by decide +kernel
  exact key k h
theorem oqi {X : List (List Nat)} (h : X ≠ []) : joinT 47 ([] :: X) = 47 :: joinT 47 X := by
 cases X with
 | nil => exact absurd rfl h
 | cons a b => rfl
theorem NoPt.mono {K : PySem.W.Frag} {H H' : Hp} {v : V} (sm : Same H H') (h : NoPt K H v) : NoPt K H' v := by
 rcases h with ⟨ty, h1, h2⟩ | h | h
 ·refine .inl ⟨ty, ?_, h2⟩
  cases h1 with
  | non => exact .non
  | bl x => exact .bl x
  | int i => exact .int i
  | str x => exact .str x
  | flt x => exact .flt x
  | lst e => exact .lst (sm _ _ e)
  | frz e => exact .frz (sm _ _ e)
  | tup e => exact .tup (sm _ _ e)
  | dK e => exact .dK (sm _ _ e)
  | dT e => exact .dT (sm _ _ e)
  | ins e a b c d f => exact .ins (sm _ _ e) a b c d f
 ·exact .inr (.inl h)
 ·exact .inr (.inr h)
theorem nqO {cs : List Pc} {ws : List (List Nat)} {e : Bool} (h : PcWs cs ws) (h0 : cs = [] → e = true) : (joinT 47 (ws ++ if e then [[]] else [])).take 1 ≠ [47] := by
 cases h with
 | nil => rw [h0 rfl]; decide
 | @cons c w cs ws a r =>
  obtain ⟨n1, n2⟩ := mqn a
  rw [List.cons_append]
  show (w ++ _).take 1 ≠ [47]
  cases w with
  | nil => exact absurd rfl n1
  | cons x w =>
   have := n2 x (List.mem_cons_self ..)
   simpa using this
theorem pqu {cs : List Pc} {e : Bool} (ok : ∀ c ∈ cs, PcOk c ∧ (c.isStep = false → NmOk c.name)) (h0 : cs = [] → e = true) : ∀ l, (cs.map pcT ++ if e then [[]] else []).getLast? = some l → pieceD (rpcD (l ++ [63])) = false := fun l hl => by
 cases e with
 | true =>
  rw [if_pos rfl] at hl
  simp at hl
  subst hl
  decide +kernel
 | false =>
  rw [if_neg (by decide), List.append_nil, List.getLast?_map] at hl
  cases hc : cs.getLast? with
  | none => rw [hc] at hl; cases hl
  | some c =>
   rw [hc] at hl
   cases hl
   obtain ⟨o1, o2⟩ := ok c (List.mem_of_getLast? hc)
   exact oqx o1 o2
theorem oq9 (c : Pc) : PyData.eqv (pcD c) (pcD c) = true := by
 have eq : ∀ s : Str, PyData.eqv (.str s) (.str s) = true := fun s => by simp [PyData.eqv]
 have two : ∀ (k : Str) (l : List Nat), PyData.eqv (.tuple [.str k, st l]) (.tuple [.str k, st l]) = true := fun k l => iqB fun d hd => by
  simp only [List.not_mem_nil, List.mem_cons, or_false] at hd
  rcases hd with rfl | rfl
  ·exact eq _
  ·exact kqZ l
 cases c with
 | part h n t =>
  refine iqB fun d hd => ?_
  simp only [List.not_mem_nil, List.mem_cons, or_false] at hd
  rcases hd with rfl | rfl | rfl | rfl
  ·exact eq _
  ·exact kqZ _
  ·exact kqZ _
  ·exact kqZ _
 | step s => exact two _ s
 | num n => exact two _ n
 | word n => exact two _ n
 | gap n => exact two _ n
 | rest n => exact two _ n
theorem pqC (cs : List Pc) (e : Bool) : PyData.eqv (.tuple [.tuple (cs.map pcD), .bool e]) (.tuple [.tuple (cs.map pcD), .bool e]) = true := iqB fun d hd => by
 simp only [List.mem_cons, List.not_mem_nil, or_false] at hd
 rcases hd with rfl | rfl
 ·exact iqB fun d hd => by
   obtain ⟨c, _, rfl⟩ := List.mem_map.mp hd
   exact oq9 c
 ·exact nqk _
def top (i : Nat) : Stmt := PySem.Challenge.pw_waymark_k52_texts_of_no_pattern.main.body.getD i (.Pass ⟨0, 0, 0, 0⟩)
abbrev fqF : Stmt := top 11
abbrev bqM : Stmt := top 13
abbrev bqJ : Stmt := top 14
abbrev eqF : Stmt := top 18
abbrev gqW : Stmt := top 31
abbrev aqY : Stmt := top 44
abbrev gqM : Stmt := top 47
abbrev fq7 : Stmt := top 48
abbrev cqe : Stmt := top 53
abbrev cqW : Stmt := top 54
abbrev cq7 : Stmt := top 55
abbrev dqX : Stmt := top 60
abbrev bqA : Stmt := top 64
abbrev fqH : Stmt := top 10
abbrev fqJ : Stmt := top 12
abbrev fqY : Stmt := top 43
abbrev eqD : Stmt := top 46
abbrev dqB : Stmt := top 56
abbrev bq5 : Stmt := top 61
abbrev cqc : Stmt := top 65
abbrev bq6 : Stmt := top 16
abbrev bqt : Stmt := top 19
abbrev aqW : Stmt := top 42
abbrev aq1 : Stmt := top 45
abbrev dqE : Stmt := top 57
abbrev bqg : Stmt := top 62
abbrev gqQ : Stmt := top 15
abbrev eqK : Stmt := top 41
abbrev cq4 : Stmt := top 58
abbrev aqN : Stmt := top 63
abbrev cqZ : Stmt := top 40
abbrev eqH : Stmt := top 51
abbrev bq9 : Stmt := top 59
abbrev dqa : Stmt := top 39
abbrev cqU : Stmt := top 50
abbrev bq3 : Stmt := top 49
abbrev bqY : Stmt := top 66
abbrev nqq : Stmt := top 67
abbrev lqO : V := .str (Str.ofString " !\"#$&'()*+,-./0123456789:;<=>?@ABCDEFGHIJKLMNOPQRSTUVWXYZ[\\]^_`abcdefghijklmnopqrstuvwxyz{|}~")
abbrev eqg : V := .str (Str.ofString "abcdefghijklmnopqrstuvwxyz")
abbrev pql : V := .str (Str.ofString "abcdefghijklmnopqrstuvwxyzABCDEFGHIJKLMNOPQRSTUVWXYZ0123456789-_.")
abbrev aq7 : V := .str (Str.ofString "!$'()*,;@&=+")
abbrev eq3 : V := .int 32
abbrev iqp : V := .int 126
abbrev dqt : V := .int 37
abbrev eqd : V := .str (Str.ofString "0123456789abcdef")
abbrev eqw : V := .str (Str.ofString "0123456789ABCDEF")
abbrev qqG : V := .str (Str.ofString ".")
abbrev k_UP : V := .str (Str.ofString "..")
abbrev iqR : V := .int 0
abbrev kqT : V := .int 1
abbrev iqE : V := .int 12
abbrev hqV : V := .int 8
set_option genInjectivity false
set_option genSizeOf false
set_option genSizeOfSpec false
structure G (K : W.Frag) (mg : Str → Option Value) where
 fqT : Addr
 eqQ : FuncData
 fqS : Fun K "made_of" "made_of" fqF fqT eqQ
 hqL : mg "made_of" = some (.ref fqT)
 hqB : Binds K eqQ ["text", "signs"] []
 bqG : Addr
 bqs : FuncData
 bqI : Fun K "figure_number" "figure_number" bqM bqG bqs
 cqR : mg "figure_number" = some (.ref bqG)
 cqL : Binds K bqs ["figure"] []
 bqN : Addr
 bqo : FuncData
 cqO : Fun K "sign_numbered" "sign_numbered" bqJ bqN bqo
 dq5 : mg "sign_numbered" = some (.ref bqN)
 eqi : Binds K bqo ["number"] []
 eqR : Addr
 dqA : FuncData
 cqB : Fun K "is_tuple" "is_tuple" eqF eqR dqA
 dqw : mg "is_tuple" = some (.ref eqR)
 dqz : Binds K dqA ["thing", "count"] []
 gqX : Addr
 fqA : FuncData
 iqF : Fun K "is_dot" "is_dot" gqW gqX fqA
 kqA : mg "is_dot" = some (.ref gqX)
 kqD : Binds K fqA ["step"] []
 aq0 : Addr
 aqP : FuncData
 bqQ : Fun K "rests_stand_last" "rests_stand_last" aqY aq0 aqP
 dqc : mg "rests_stand_last" = some (.ref aq0)
 dqg : Binds K aqP ["pieces"] []
 gqL : Addr
 fqw : FuncData
 iqv : Fun K "is_gap" "is_gap" gqM gqL fqw
 kqG : mg "is_gap" = some (.ref gqL)
 kqv : Binds K fqw ["piece"] []
 fq1 : Addr
 eqP : FuncData
 hqx : Fun K "name_of" "name_of" fq7 fq1 eqP
 jqq : mg "name_of" = some (.ref fq1)
 iq3 : Binds K eqP ["gap"] []
 bq4 : Addr
 bqx : FuncData
 bqk : Fun K "_law_cell_at" "_law_cell_at" cqe bq4 bqx
 cqf : mg "_law_cell_at" = some (.ref bq4)
 bqZ : Binds K bqx ["_law_script", "_law_k"] []
 cq3 : Addr
 cqz : FuncData
 dq9 : Fun K "_law_names" "_law_names" cqW cq3 cqz
 gqr : mg "_law_names" = some (.ref cq3)
 gqA : Binds K cqz ["_law_cell", "_law_many"] []
 cq5 : Addr
 cqv : FuncData
 eqc : Fun K "_law_signs" "_law_signs" cq7 cq5 cqv
 gqq : mg "_law_signs" = some (.ref cq5)
 gqy : Binds K cqv [] []
 dqN : Addr
 cq0 : FuncData
 fqd : Fun K "_law_pair" "_law_pair" dqX dqN cq0
 hqe : mg "_law_pair" = some (.ref dqN)
 hqr : Binds K cq0 ["_law_sign", "_law_great"] []
 bqR : Addr
 bqp : FuncData
 cqI : Fun K "_law_odd_part" "_law_odd_part" bqA bqR bqp
 eqa : mg "_law_odd_part" = some (.ref bqR)
 eqz : Binds K bqp ["_law_cell", "_law_name"] []
 fq5 : Addr
 eqY : FuncData
 eqq : Fun K "is_text" "is_text" fqH fq5 eqY
 fqx : mg "is_text" = some (.ref fq5)
 fqX : Binds K eqY ["thing"] []
 fq8 : Addr
 eqJ : FuncData
 gq3 : Fun K "sign_of" "sign_of" fqJ fq8 eqJ
 jqp : mg "sign_of" = some (.ref fq8)
 jqj : Binds K eqJ ["figures"] []
 fqQ : Addr
 eqE : FuncData
 fqZ : Fun K "is_name" "is_name" fqY fqQ eqE
 hqA : mg "is_name" = some (.ref fqQ)
 hqG : Binds K eqE ["thing"] []
 eqW : Addr
 dqU : FuncData
 gqd : Fun K "names_of" "names_of" eqD eqW dqU
 iqg : mg "names_of" = some (.ref eqW)
 hq6 : Binds K dqU ["pieces"] []
 dqY : Addr
 dqi : FuncData
 cqM : Fun K "_law_text" "_law_text" dqB dqY dqi
 dqH : mg "_law_text" = some (.ref dqY)
 dqR : Binds K dqi ["_law_cell"] []
 cqa : Addr
 bqy : FuncData
 bqj : Fun K "_law_written" "_law_written" bq5 cqa bqy
 bq7 : mg "_law_written" = some (.ref cqa)
 cqd : Binds K bqy ["_law_text_here", "_law_cells"] []
 cqh : Addr
 bqz : FuncData
 dqp : Fun K "_law_spoiled" "_law_spoiled" cqc cqh bqz
 eq2 : mg "_law_spoiled" = some (.ref cqh)
 eq8 : Binds K bqz ["_law_text_here", "_law_way", "_law_cell", "_law_name"] []
 bq0 : Addr
 bqw : FuncData
 dqn : Fun K "sign_written" "sign_written" bq6 bq0 bqw
 fqb : mg "sign_written" = some (.ref bq0)
 eq7 : Binds K bqw ["piece", "free"] []
 bqr : Addr
 bqf : FuncData
 cqn : Fun K "is_filled_text" "is_filled_text" bqt bqr bqf
 dq0 : mg "is_filled_text" = some (.ref bqr)
 dq1 : Binds K bqf ["thing"] []
 aqZ : Addr
 aqO : FuncData
 bqH : Fun K "are_ends_of_part" "are_ends_of_part" aqW aqZ aqO
 dqd : mg "are_ends_of_part" = some (.ref aqZ)
 cqT : Binds K aqO ["head", "tail"] []
 aqX : Addr
 aqS : FuncData
 bqB : Fun K "names_are_unlike" "names_are_unlike" aq1 aqX aqS
 dqb : mg "names_are_unlike" = some (.ref aqX)
 cq6 : Binds K aqS ["pieces"] []
 dqO : Addr
 cqY : FuncData
 fql : Fun K "_law_step" "_law_step" dqE dqO cqY
 hqN : mg "_law_step" = some (.ref dqO)
 hqy : Binds K cqY ["_law_cell"] []
 bqh : Addr
 aq2 : FuncData
 bqW : Fun K "_law_piece_text" "_law_piece_text" bqg bqh aq2
 dqy : mg "_law_piece_text" = some (.ref bqh)
 dqv : Binds K aq2 ["_law_piece_here", "_law_cells"] []
 gqP : Addr
 eqh : FuncData
 kqB : Addr
 iqc : Tok
 fqB : FunD K "undone" "undone" gqQ gqP eqh kqB
 mqN : Binds K eqh ["text", "free"] [.str (Str.ofString "") iqc]
 gqR : mg "undone" = some (.ref gqP)
 gqN : Binds K eqh ["text", "free"] []
 eqI : Addr
 dqW : FuncData
 gqk : Fun K "is_piece" "is_piece" eqK eqI dqW
 hq9 : mg "is_piece" = some (.ref eqI)
 hq8 : Binds K dqW ["thing"] []
 dqe : Addr
 cqu : FuncData
 eqk : Fun K "_law_piece" "_law_piece" cq4 dqe cqu
 gqp : mg "_law_piece" = some (.ref dqe)
 gqt : Binds K cqu ["_law_cell", "_law_name"] []
 aqR : Addr
 aqK : FuncData
 bqu : Fun K "_law_pattern_text" "_law_pattern_text" aqN aqR aqK
 cqK : mg "_law_pattern_text" = some (.ref aqR)
 cqD : Binds K aqK ["_law_pattern_here", "_law_cells"] []
 cq1 : Addr
 cqt : FuncData
 eqn : Fun K "are_pieces" "are_pieces" cqZ cq1 cqt
 gqx : mg "are_pieces" = some (.ref cq1)
 gqz : Binds K cqt ["things"] []
 eqL : Addr
 dqQ : FuncData
 gqa : Fun K "read_gap" "read_gap" eqH eqL dqQ
 iqi : mg "read_gap" = some (.ref eqL)
 hq5 : Binds K dqQ ["head", "inside", "tail"] []
 bq8 : Addr
 bqC : FuncData
 dqo : Fun K "_law_pattern" "_law_pattern" bq9 bq8 bqC
 eq1 : mg "_law_pattern" = some (.ref bq8)
 eq5 : Binds K bqC ["_law_cell", "_law_names_here", "_law_cells"] []
 dqj : Addr
 cqs : FuncData
 cq9 : Fun K "is_pattern" "is_pattern" dqa dqj cqs
 eqx : mg "is_pattern" = some (.ref dqj)
 dq8 : Binds K cqs ["thing"] []
 dqh : Addr
 cqy : FuncData
 dqf : Fun K "read_piece" "read_piece" cqU dqh cqy
 eqm : mg "read_piece" = some (.ref dqh)
 eqy : Binds K cqy ["text"] []
 bql : Addr
 bqa : FuncData
 aqT : Fun K "read_pattern" "read_pattern" bq3 bql bqa
 bq1 : mg "read_pattern" = some (.ref bql)
 bq2 : Binds K bqa ["text"] []
 cqg : Addr
 bqL : FuncData
 dqk : Fun K "_law_refused" "_law_refused" bqY cqg bqL
 eq6 : mg "_law_refused" = some (.ref cqg)
 eq4 : Binds K bqL ["_law_text_here"] []
 mqZ : Addr
 jqm : FuncData
 qqX : Fun K "law" "law" nqq mqZ jqm
 rqF : mg "law" = some (.ref mqZ)
 rqB : Binds K jqm ["_law_script"] []
 hqM : Tok
 kqo : mg "SIGNS" = some (.str (Str.ofString " !\"#$&'()*+,-./0123456789:;<=>?@ABCDEFGHIJKLMNOPQRSTUVWXYZ[\\]^_`abcdefghijklmnopqrstuvwxyz{|}~") hqM)
 aq9 : Tok
 eqf : mg "SMALL_LETTERS" = some (.str (Str.ofString "abcdefghijklmnopqrstuvwxyz") aq9)
 gq7 : Tok
 lqP : mg "PLAIN" = some (.str (Str.ofString "abcdefghijklmnopqrstuvwxyzABCDEFGHIJKLMNOPQRSTUVWXYZ0123456789-_.") gq7)
 bqc : Tok
 bqE : mg "FREE_IN_STEPS" = some (.str (Str.ofString "!$'()*,;@&=+") bqc)
 bqn : Tok
 dqm : mg "FIRST_NUMBER" = some (.int 32 bqn)
 bqD : Tok
 fqW : mg "LAST_NUMBER" = some (.int 126 bqD)
 aqM : Tok
 bqX : mg "NUMBER_LEFT_OUT" = some (.int 37 aqM)
 aq5 : Tok
 cqJ : mg "SMALL_FIGURES" = some (.str (Str.ofString "0123456789abcdef") aq5)
 aq4 : Tok
 cqE : mg "GREAT_FIGURES" = some (.str (Str.ofString "0123456789ABCDEF") aq4)
 jqR : Tok
 oqp : mg "STAY" = some (.str (Str.ofString ".") jqR)
 t_UP : Tok
 c_UP : mg "UP" = some (.str (Str.ofString "..") t_UP)
 fqt : Tok
 gqS : mg "PIECES" = some (.int 0 fqt)
 fqE : Tok
 iqt : mg "CLOSES" = some (.int 1 fqE)
 bqP : Tok
 fqI : mg "MOST_PIECES" = some (.int 12 bqP)
 bqm : Tok
 fqa : mg "LONGEST_NAME" = some (.int 8 bqm)
 cqx : Addr
 fqC : mg "NAMED_WORDS" = some (.ref cqx)
 fqz : ∀ H, IsK K H (.tuple [.str (Str.ofString "number"), .str (Str.ofString "word"), .str (Str.ofString "gap"), .str (Str.ofString "rest")]) (.ref cqx)
 bqK : Addr
 eqb : mg "WRITTEN_WORDS" = some (.ref bqK)
 eqp : ∀ H, IsK K H (.tuple [.str (Str.ofString "number"), .str (Str.ofString "word"), .str (Str.ofString "rest")]) (.ref bqK)
 nqu : mg "all" = none
 eqj : mg "len" = none
 aqv : mg "isinstance" = none
 fqo : mg "tuple" = none
 hqE : mg "range" = none
 oqS : mg "ord" = none
 kq4 : mg "str" = none
 gq9 : mg "enumerate" = none
 qqY : mg "max" = none
 qqo : mg "set" = none
 qqd : mg "zip" = none
 oqg : mg "bool" = none
 gqw : mg "ValueError" = none
 iqq : Addr
 mqW : mg "NoRow" = some (.ref iqq)
 gqU : Addr
 kqM : mg "NoName" = some (.ref gqU)
 fqu : Addr
 iq7 : mg "NoValue" = some (.ref fqu)
 gqV : Addr
 kqK : mg "NoBase" = some (.ref gqV)
 dqF : Addr
 gqY : mg "NoAddress" = some (.ref dqF)
 aqq : Addr
 dqK : mg "NoPattern" = some (.ref aqq)
 eqS : Addr
 iqa : mg "WayError" = some (.ref eqS)
 fqg : W.excIn K aqq vErr vNew = true
 hqZ : Catch K eqS
 aq6 : ExLook K aqq
 cqq : W.subIn K (.ref aqq) (.ref eqS) = some true
 cqi : W.kitOne K (.ref aqq) (.ref aqq) = some true
 bqT : W.kitOne K (.ref aqq) (.type "ValueError") = some true
 cqj : W.kitOne K (.ref aqq) (.ref dqF) = some false
 cqV : W.kitOne K (.ref aqq) (.ref gqV) = some false
 cqN : W.kitOne K (.ref aqq) (.ref fqu) = some false
 cq2 : W.kitOne K (.ref aqq) (.ref gqU) = some false
 dqs : W.kitOne K (.ref aqq) (.ref iqq) = some false
def kq6 : Sp := fun vs H Q _ => ∃ x y : Str, vs = [.str x, .str y] ∧ x.length ≤ 100000 ∧ ∀ H', Same H H' → Q (.bl (x.cps.toList.all fun c => decide (c ∈ y.cps.toList))) H'
def dq4 : Sp := fun vs H Q _ => ∃ a : Nat, vs = [one a] ∧ a < 128 ∧ Q (figV a) H
def gqF : Sp := fun vs H Q _ => ∃ n : Nat, vs = [.int (n : Int)] ∧ Q (sgV n) H
def kqa : Sp := fun vs H Q _ => ∃ (d : PyData) (v : V) (n : Int), vs = [v, .int n] ∧ Is H d v ∧ Q (.bl (tupN n d)) H
def mqk : Sp := fun vs H Q _ => ∃ s : Stp, vs = [sV s] ∧ Q (.bl (isDot s)) H
def fqj (K : W.Frag) : Sp := fun vs H Q _ => ∃ (cs : List Pc) (xs : List V) (q : Addr), vs = [.ref q] ∧ H q = some (.tup xs) ∧ PcAll K H cs xs ∧ cs.length ≤ 1000 ∧ ∀ H', Same H H' → Q (.bl (restsL cs)) H'
def lqN (K : W.Frag) : Sp := fun vs H Q _ => ∃ (c : Pc) (p : Addr), vs = [.ref p] ∧ SqT K H p c.vals ∧ Q (.bl (!c.isStep)) H
def kq5 (K : W.Frag) : Sp := fun vs H Q _ => ∃ (c : Pc) (p : Addr), vs = [.ref p] ∧ SqT K H p c.vals ∧ c.isStep = false ∧ Q (tV c.name) H
def gq6 (K : W.Frag) : Sp := fun vs H Q _ => ∃ (a : Addr) (ns : List Int) (k : Nat), vs = [.ref a, .int (k : Int)] ∧ SqL K H a (ns.map V.int) ∧ Q (.int (ns.getD k 0)) H
def iqs (K : W.Frag) : Sp := fun vs H Q _ => ∃ (c : Int) (m : Nat), vs = [.int c, .int (m : Int)] ∧ m ≤ 26 ∧ ∀ (ns : List (List Nat)) (p : Addr) (H' : Hp), ns.length = m → (∀ n ∈ ns, 0 < n.length ∧ n.length ≤ 8 ∧ n.all isSma = true) → ns.Nodup → Same H H' → H' p = some (.lst (ns.map tV)) → Q (.ref p) H'
def fq2 : Sp := fun vs H Q _ => vs = [] ∧ Q (.str ⟨SG.toArray⟩) H
def gqB : Sp := fun vs H Q _ => ∃ (c : Nat) (g : Bool), vs = [.str ⟨#[c]⟩, .bl g] ∧ isSg c = true ∧ ∀ a b, sgO a b = some c → (g = false → a = hexd (c / 16) ∧ b = hexd (c % 16)) → Q (.str ⟨[126, a, b].toArray⟩) H
def gqE (K : W.Frag) : Sp := fun vs H Q _ => ∃ (c : Int) (n : List Nat), vs = [.int c, tV n] ∧ NmOk n ∧ ∀ (t : List Nat) (H' : Hp), OddT t → Same H H' → Q (tV t) H'
def lqu : Sp := fun vs H Q _ => ∃ (d : PyData) (v : V), vs = [v] ∧ Is H d v ∧ smallD d = true ∧ ∀ H', Same H H' → Q (.bl (tx d)) H'
def hq7 : Sp := fun vs H Q _ => ∃ l : List Nat, vs = [.str ⟨l.toArray⟩] ∧ l.length ≤ 1000 ∧ (∀ c ∈ l, c < 128) ∧ Q (signOfL l) H
def lqi : Sp := fun vs H Q _ => ∃ (d : PyData) (v : V), vs = [v] ∧ Is H d v ∧ smallD d = true ∧ ∀ H', Same H H' → Q (.bl (nameD d)) H'
def kqe (K : W.Frag) : Sp := fun vs H Q _ => ∃ (cs : List Pc) (xs : List V) (q : Addr), vs = [.ref q] ∧ SqT K H q xs ∧ PcAll K H cs xs ∧ cs.length ≤ 1000 ∧ ∀ (p : Addr) (H' : Hp), Same H H' → H' p = some (.lst ((gapsM cs).map tV)) → Q (.ref p) H'
def jqT (K : W.Frag) : Sp := fun vs H Q _ => ∃ c : Int, vs = [.int c] ∧ ∀ (l : List Nat) (H' : Hp), l.length ≤ 4 → (∀ c ∈ l, isSg c = true) → Same H H' → Q (tV l) H'
def hqc (K : W.Frag) : Sp := fun vs H Q _ => ∃ (s : List Nat) (q : Addr) (cs : List Int), vs = [tV s, .ref q] ∧ H q = some (.lst (cs.map V.int)) ∧ cs.length ≤ 1000 ∧ (∀ c ∈ s, isSg c = true) ∧ s.length ≤ 100 ∧ ∀ (w : List Nat) (H' : Hp), WrT frS s w → w.length ≤ 3 * s.length → (cs = [] → w = wr s) → Same H H' → Q (tV w) H'
def hqK (K : W.Frag) : Sp := fun vs H Q _ => ∃ (ts : List (List Nat)) (w c : Int) (n : List Nat), vs = [tV (47 :: joinT 47 ts), .int w, .int c, tV n] ∧ 0 ≤ w ∧ w < 24 ∧ NmOk n ∧ ts ≠ [] ∧ Free 47 ts ∧ ts.length ≤ 13 ∧ (∀ t ∈ ts, t.length ≤ 700 ∧ ∀ c ∈ t, c < 128) ∧ (joinT 47 ts).take 1 ≠ [47] ∧ (∀ l, ts.getLast? = some l → pieceD (rpcD (l ++ [63])) = false) ∧ ∀ (v : V) (H' : Hp), Same H H' → NoPt K H' v → Q v H'
def eqB : Sp := fun vs H Q _ => ∃ (c : Nat) (r fr : List Nat), vs = [.str ⟨(c :: r).toArray⟩, .str ⟨fr.toArray⟩] ∧ r.length ≤ 1000 ∧ (∀ d ∈ c :: r, d < 128) ∧ (c = 126 ∨ r = []) ∧ Q (swV fr (c :: r)) H
def gqi : Sp := fun vs H Q _ => ∃ (d : PyData) (v : V), vs = [v] ∧ Is H d v ∧ smallD d = true ∧ ∀ H', Same H H' → Q (.bl (ftx d)) H'
def fqr : Sp := fun vs H Q _ => ∃ (d e : PyData) (v u : V), vs = [v, u] ∧ Is H d v ∧ Is H e u ∧ smallD d = true ∧ smallD e = true ∧ ∀ H', Same H H' → Q (.bl (endsD d e)) H'
def fqn (K : W.Frag) : Sp := fun vs H Q _ => ∃ (cs : List Pc) (xs : List V) (q : Addr), vs = [.ref q] ∧ H q = some (.tup xs) ∧ PcAll K H cs xs ∧ cs.length ≤ 1000 ∧ ∀ H', Same H H' → Q (.bl (decide ((gapsM cs).Nodup))) H'
def jqK (K : W.Frag) : Sp := fun vs H Q _ => ∃ c : Int, vs = [.int c] ∧ ∀ (l : List Nat) (H' : Hp), 0 < l.length → l.length ≤ 5 → (∀ c ∈ l, isSg c = true) → isDot l = false → Same H H' → Q (tV l) H'
def fq3 (K : W.Frag) : Sp := fun vs H Q _ => ∃ (c : Pc) (p q : Addr) (is : List Int), vs = [.ref p, .ref q] ∧ H p = some (.tup c.vals) ∧ PcOk c ∧ (c.isStep = false → NmOk c.name) ∧ H q = some (.lst (is.map V.int)) ∧ is.length ≤ 1000 ∧ ∀ (w : List Nat) (H' : Hp), PcW c w → w.length ≤ 700 → (is = [] → w = pcT c) → Same H H' → Q (tV w) H'
def jqF : Sp := fun vs H Q _ => ∃ l fr : List Nat, vs = [.str ⟨l.toArray⟩, .str ⟨fr.toArray⟩] ∧ l.length ≤ 2000 ∧ (∀ c ∈ l, c < 128) ∧ ∀ H', Same H H' → Q (undV (und fr l)) H'
def kqi (K : W.Frag) : Sp := fun vs H Q _ => ∃ (d : PyData) (v : V), vs = [v] ∧ Is H d v ∧ smallD d = true ∧ ∀ H', Same H H' → Q (.bl (pieceD d)) H'
def iqL (K : W.Frag) : Sp := fun vs H Q _ => ∃ (c : Int) (n : List Nat), vs = [.int c, tV n] ∧ ∀ (pc : Pc) (p : Addr) (H' : Hp), PcOk pc → pc.isRest = false → (pc.isStep = false → pc.name = n) → Same H H' → H' p = some (.tup pc.vals) → Q (.ref p) H'
def eqZ (K : W.Frag) : Sp := fun vs H Q _ => ∃ (cs : List Pc) (e : Bool) (p q r : Addr) (xs : List V) (is : List Int), vs = [.ref p, .ref r] ∧ H p = some (.tup [.ref q, .bl e]) ∧ H q = some (.tup xs) ∧ PcT H cs xs ∧ cs.length ≤ 12 ∧ (∀ c ∈ cs, PcOk c ∧ (c.isStep = false → NmOk c.name)) ∧ H r = some (.lst (is.map V.int)) ∧ is.length ≤ 1000 ∧ ∀ (ws : List (List Nat)) (H' : Hp), PcWs cs ws → (∀ w ∈ ws, w.length ≤ 700) → (is = [] → ws = cs.map pcT) → Same H H' → Q (tV (slT true ws e)) H'
def iqS (K : W.Frag) : Sp := fun vs H Q _ => ∃ (ds : List PyData) (xs : List V) (q : Addr), vs = [.ref q] ∧ H q = some (.tup xs) ∧ IsAll H ds xs ∧ smallD (.tuple ds) = true ∧ ∀ H', Same H H' → Q (.bl (piecesD ds)) H'
def jq0 (K : W.Frag) : Sp := fun vs H Q _ => ∃ h i t : List Nat, vs = [tV h, tV i, tV t] ∧ h.length ≤ 2000 ∧ i.length ≤ 2000 ∧ t.length ≤ 2000 ∧ (∀ c ∈ h, c < 128) ∧ (∀ c ∈ t, c < 128) ∧ ∀ (v : V) (H' : Hp), Same H H' → IsT H' (gapD h i t) v → Q v H'
def hqP (K : W.Frag) : Sp := fun vs H Q _ => ∃ (c : Int) (pn pc : Addr) (ns : List (List Nat)) (cs : List Int), vs = [.int c, .ref pn, .ref pc] ∧ H pn = some (.lst (ns.map tV)) ∧ SqL K H pc (cs.map V.int) ∧ cs.length ≤ ns.length ∧ ns.length ≤ 100 ∧ (∀ n ∈ ns, ∀ x ∈ n, isSg x = true) ∧ ∀ (ps : List Pc) (e : Bool) (p q : Addr) (xs : List V) (H' : Hp), PatOk ps → ps.length = cs.length → (∀ (i : Nat) (c : Pc), ps[i]? = some c → c.isStep = false → ns[i]? = some c.name) → (ps = [] → e = true) → Same H H' → H' q = some (.tup xs) → PcT H' ps xs → H' p = some (.tup [.ref q, .bl e]) → Q (.ref p) H'
def dqS (K : W.Frag) : Sp := fun vs H Q _ => ∃ (d : PyData) (v : V), vs = [v] ∧ Is H d v ∧ smallD d = true ∧ ∀ H', Same H H' → Q (.bl (patD d)) H'
def dqL (K : W.Frag) : Sp := fun vs H Q _ => ∃ t : List Nat, vs = [tV t] ∧ t.length ≤ 2000 ∧ (∀ c ∈ t, c < 128) ∧ ∀ (v : V) (H' : Hp), Same H H' → IsT H' (rpcD t) v → Q v H'
def eqt (K : W.Frag) : Sp := fun vs H Q _ => ∃ ts : List (List Nat), vs = [tV (47 :: joinT 47 ts)] ∧ ts ≠ [] ∧ Free 47 ts ∧ ts.length ≤ 100 ∧ (∀ t ∈ ts, t.length ≤ 700 ∧ ∀ c ∈ t, c < 128) ∧ patD (rptD ts) = true ∧ ∀ (v : V) (H' : Hp), Same H H' → IsT H' (rptD ts) v → Q v H'
def gqJ (K : W.Frag) (C : Addr) : Sp := fun vs H _ E => ∃ v : V, vs = [v] ∧ NoPt K H v ∧ ∀ H', Same H H' → E (.ref C) none H'
def hqz (K : W.Frag) : Sp := fun vs H Q _ => ∃ v : V, vs = [v] ∧ NoPt K H v ∧ ∀ H', Same H H' → Q (.bl true) H'
def kq1 (K : W.Frag) : Sp := fun vs H Q _ => ∃ (a : Addr) (ns : List Int), vs = [.ref a] ∧ SqL K H a (ns.map V.int) ∧ ns.length ≤ 63 ∧ ∀ H', Q (.bl true) H'
section
variable {H : Hp} {Q : VK} {E : XK} {K : W.Frag}
theorem rqN {c : Nat} : dq4 [.str ⟨[c].toArray⟩] H Q E ↔ c < 128 ∧ Q (figV c) H :=
 ⟨fun ⟨_, e, h⟩ => by injection e with e; injection e with e; cases cqr.mp e; exact h, fun h => ⟨c, rfl, h⟩⟩
theorem pqE : fq2 [] H Q E ↔ Q (.str ⟨SG.toArray⟩) H := ⟨fun h => h.2, fun h => ⟨rfl, h⟩⟩
theorem mqM {l : List Nat} : hq7 [.str ⟨l.toArray⟩] H Q E ↔ l.length ≤ 1000 ∧ (∀ c ∈ l, c < 128) ∧ Q (signOfL l) H :=
 ⟨fun ⟨_, e, h⟩ => by injection e with e; injection e with e; cases cqr.mp e; exact h, fun h => ⟨l, rfl, h⟩⟩
theorem c_sw {c : Nat} {r fr : List Nat} : eqB [.str ⟨(c :: r).toArray⟩, .str ⟨fr.toArray⟩] H Q E ↔ r.length ≤ 1000 ∧ (∀ d ∈ c :: r, d < 128) ∧ (c = 126 ∨ r = []) ∧ Q (swV fr (c :: r)) H :=
 ⟨fun ⟨_, _, _, e, h⟩ => by injection e with e e2; injection e with e; injection e2 with e2; injection e2 with e2; cases cqr.mp e; cases cqr.mp e2; exact h, fun h => ⟨c, r, fr, rfl, h⟩⟩
theorem nqG {l fr : List Nat} : jqF [.str ⟨l.toArray⟩, .str ⟨fr.toArray⟩] H Q E ↔ l.length ≤ 2000 ∧ (∀ c ∈ l, c < 128) ∧ ∀ H', Same H H' → Q (undV (und fr l)) H' :=
 ⟨fun ⟨_, _, e, h⟩ => by injection e with e e2; injection e with e; injection e2 with e2; injection e2 with e2; cases cqr.mp e; cases cqr.mp e2; exact h, fun h => ⟨l, fr, rfl, h⟩⟩
end
section
variable {P : Program} {w : World} {K : W.Frag} {mg : Str → Option Value} {base : Heap}
seal PE PA PT PS PSs PG PI PF PO PW
local macro_rules | `(tactic| walk_at "rd") => `(tactic| simp only [L2.start, List.map_cons, List.map_nil, List.length_cons, List.length_nil, Nat.reduceAdd, Nat.reduceSub, Nat.zero_add, List.replicate_succ, List.replicate_zero, L2.rqc, L2.rd_C, L2.qq9, L2.qqi, L2.nqy, L2.qqk, L2.pqn, L2.qqM, L2.pqL, L2.qqm, L2.qq6, L2.pqi, L2.rqL, L2.oqs, L2.rd_B, L2.qqS, L2.rqP, L2.qqQ, L2.oqX, L2.qq3, L2.oqK, L2.rqA, L2.nqK, L2.rqr, L2.oqq, L2.qqt, L2.rqh, L2.pq1, L2.oqZ, L2.oqy, L2.hqH, L2.pqP, L2.pqB, L2.pqx, L2.nq5, L2.pq0, L2.rqG, L2.rqM, L2.qq8, L2.rqC, L2.mqx, L2.oq3, L2.nql, L2.rd_I, L2.rqE, L2.pqJ, L2.aqE, L2.pqV, L2.oqR, L2.kqm, L2.oqN, L2.pqH, L2.pqm, L2.nq4, L2.oqG, L2.pqt, L2.nqf, L2.qqL, L2.qqx, L2.qqJ, L2.qqF, L2.rql, L2.oqY, L2.eqT, L2.fq9, L2.eqM, L2.eqG, L2.lqS, L2.nq7, L2.mq2, L2.lq6, L2.lqf, L2.gqm, L2.gqI, L2.gqG, L2.gqj, L2.fqR, L2.iqu, L2.jqy, L2.jqA, L2.iqH, L2.hqU, L2.iq5, L2.jq9, L2.kqf, L2.jqE, L2.iqQ, L2.jqc, L2.kqd, L2.kqh, L2.jqu, L2.iqT, L2.iqA, L2.jqg, L2.iq0, L2.iqM, L2.hqY, L2.hqT, L2.iqw, L2.iqk, L2.hqX, L2.hqd, L2.pqc, L2.oqz, L2.nq8, L2.pqb, L2.pqZ, L2.cx_K, L2.rqn, L2.pq6, L2.qqu, L2.qqr, L2.qqI, L2.rqk, L2.qqc, L2.rqT, L2.qqA, L2.mqL, L2.rqK, L2.rqz, L2.rqJ, L2.nqZ, L2.nqB, L2.pqS, L2.nqJ, Option.getD_some, L2.rqa, L2.rqS, L2.rd_U, L2.qqh, L2.oq8, L2.nqW, L2.oqA, L2.mqU, L2.pq4, L2.qq4, L2.qq2, L2.oq2, L2.oqt, L2.pq2, L2.pqd, List.getElem?_cons_zero, List.getElem?_cons_succ, List.set_cons_zero, List.set_cons_succ, List.nil_append, List.cons_append, List.append_nil, Option.some.injEq, exists_eq_left, exists_eq_left', true_and, and_true, L2.V.bl.injEq, L2.V.int.injEq, L2.V.str.injEq, L2.V.ref.injEq, List.cons.injEq, reduceCtorEq, false_and, and_false, exists_false, false_or, or_false, decide_eq_true_eq, Bool.not_true, Bool.not_false, ↓reduceIte, if_true, if_false, not_true_eq_false, not_false_eq_true, decide_true, decide_false, Bool.false_eq_true, rqN, pqE, mqM, c_sw, nqG, L2.mq7, L2.pqW, L2.nqh, L2.nq6, L2.pq7, qqg, L2.qqZ, L2.nqd, L2.rqR, L2.oqI, L2.nqm, L2.nq1, L2.nqo, L2.rqD, L2.lqG, L2.pqs, L2.rqg, L2.nqS, L2.qqy, L2.qqv, L2.pqM, L2.rqq, L2.qqP, L2.qqC, L2.pqA, L2.oqT, L2.pqN, L2.pqX, L2.oqD, L2.lqJ, L2.mqF, L2.nqC, L2.lqx, L2.mq5, L2.lqo, L2.lqh, L2.pqK, L2.oqW, L2.qqq, L2.rqy, L2.mqB, L2.oq7, L2.nqP, L2.lqT, L2.oqo, L2.pqe, pq9, mq0, cql, aq8, oqF, oqH, oqw, List.drop_succ_cons, List.drop_zero, L2.nqi, L2.rqi, L2.rqe, L2.qq0, Bool.not_eq_true', decide_eq_false_iff_not])
theorem lqk : FnScope ["text", "signs"] ["text", "signs"] (defScope fqF) := ⟨rfl, rfl, rfl, by decide +kernel, rfl, by decide +kernel, by decide +kernel⟩
theorem gqC : FnScope ["figure"] ["figure"] (defScope bqM) := ⟨rfl, rfl, rfl, by decide +kernel, rfl, by decide +kernel, by decide +kernel⟩
theorem cqm : FnScope ["number", "place"] ["number"] (defScope bqJ) := ⟨rfl, rfl, rfl, by decide +kernel, rfl, by decide +kernel, by decide +kernel⟩
theorem jqV : FnScope ["thing", "count"] ["thing", "count"] (defScope eqF) := ⟨rfl, rfl, rfl, by decide +kernel, rfl, by decide +kernel, by decide +kernel⟩
theorem lqR : FnScope ["step"] ["step"] (defScope gqW) := ⟨rfl, rfl, rfl, by decide +kernel, rfl, by decide +kernel, by decide +kernel⟩
theorem fqp : FnScope ["pieces"] ["pieces"] (defScope aqY) := ⟨rfl, rfl, rfl, by decide +kernel, rfl, by decide +kernel, by decide +kernel⟩
theorem mqv : FnScope ["piece"] ["piece"] (defScope gqM) := ⟨rfl, rfl, rfl, by decide +kernel, rfl, by decide +kernel, by decide +kernel⟩
theorem kq8 : FnScope ["gap"] ["gap"] (defScope fq7) := ⟨rfl, rfl, rfl, by decide +kernel, rfl, by decide +kernel, by decide +kernel⟩
theorem hqQ : FnScope ["_law_script", "_law_k"] ["_law_script", "_law_k"] (defScope cqe) := ⟨rfl, rfl, rfl, by decide +kernel, rfl, by decide +kernel, by decide +kernel⟩
theorem aqz : FnScope ["_law_cell", "_law_many", "_law_letters", "_law_size", "_law_at", "_law_names_here", "_law_k", "_law_name", "_law_j", "_law_step_here"] ["_law_cell", "_law_many"] (defScope cqW) := ⟨rfl, rfl, rfl, by decide +kernel, rfl, by decide +kernel, by decide +kernel⟩
theorem fqP : FnScope ["_law_some"] [] (defScope cq7) := ⟨rfl, rfl, rfl, by decide +kernel, rfl, by decide +kernel, by decide +kernel⟩
theorem eqo : FnScope ["_law_sign", "_law_great", "_law_figures"] ["_law_sign", "_law_great"] (defScope dqX) := ⟨rfl, rfl, rfl, by decide +kernel, rfl, by decide +kernel, by decide +kernel⟩
theorem aqB : FnScope ["_law_cell", "_law_name", "_law_some"] ["_law_cell", "_law_name"] (defScope bqA) := ⟨rfl, rfl, rfl, by decide +kernel, rfl, by decide +kernel, by decide +kernel⟩
theorem lqB : FnScope ["thing"] ["thing"] (defScope fqH) := ⟨rfl, rfl, rfl, by decide +kernel, rfl, by decide +kernel, by decide +kernel⟩
theorem gqb : FnScope ["figures", "high", "low"] ["figures"] (defScope fqJ) := ⟨rfl, rfl, rfl, by decide +kernel, rfl, by decide +kernel, by decide +kernel⟩
theorem lqm : FnScope ["thing"] ["thing"] (defScope fqY) := ⟨rfl, rfl, rfl, by decide +kernel, rfl, by decide +kernel, by decide +kernel⟩
theorem jq1 : FnScope ["pieces"] ["pieces"] (defScope eqD) := ⟨rfl, rfl, rfl, by decide +kernel, rfl, by decide +kernel, by decide +kernel⟩
theorem cqk : FnScope ["_law_cell", "_law_pool", "_law_text_here", "_law_k"] ["_law_cell"] (defScope dqB) := ⟨rfl, rfl, rfl, by decide +kernel, rfl, by decide +kernel, by decide +kernel⟩
theorem aqA : FnScope ["_law_text_here", "_law_cells", "_law_bare", "_law_found", "_law_k", "_law_sign", "_law_cell"] ["_law_text_here", "_law_cells"] (defScope bq5) := ⟨rfl, rfl, rfl, by decide +kernel, rfl, by decide +kernel, by decide +kernel⟩
theorem bqS : FnScope ["_law_text_here", "_law_way", "_law_cell", "_law_name", "_law_parts", "_law_at", "_law_odd"] ["_law_text_here", "_law_way", "_law_cell", "_law_name"] (defScope cqc) := ⟨rfl, rfl, rfl, by decide +kernel, rfl, by decide +kernel, by decide +kernel⟩
theorem hqb : FnScope ["piece", "free"] ["piece", "free"] (defScope bq6) := ⟨rfl, rfl, rfl, by decide +kernel, rfl, by decide +kernel, by decide +kernel⟩
theorem gqg : FnScope ["thing"] ["thing"] (defScope bqt) := ⟨rfl, rfl, rfl, by decide +kernel, rfl, by decide +kernel, by decide +kernel⟩
theorem fqf : FnScope ["head", "tail"] ["head", "tail"] (defScope aqW) := ⟨rfl, rfl, rfl, by decide +kernel, rfl, by decide +kernel, by decide +kernel⟩
theorem cqH : FnScope ["pieces", "names"] ["pieces"] (defScope aq1) := ⟨rfl, rfl, rfl, by decide +kernel, rfl, by decide +kernel, by decide +kernel⟩
theorem eqr : FnScope ["_law_cell", "_law_text_here"] ["_law_cell"] (defScope dqE) := ⟨rfl, rfl, rfl, by decide +kernel, rfl, by decide +kernel, by decide +kernel⟩
theorem fqU : FnScope ["_law_piece_here", "_law_cells"] ["_law_piece_here", "_law_cells"] (defScope bqg) := ⟨rfl, rfl, rfl, by decide +kernel, rfl, by decide +kernel, by decide +kernel⟩
theorem dqx : FnScope ["text", "free", "signs", "place", "width", "sign"] ["text", "free"] (defScope gqQ) := ⟨rfl, rfl, rfl, by decide +kernel, rfl, by decide +kernel, by decide +kernel⟩
theorem jq7 : FnScope ["thing"] ["thing"] (defScope eqK) := ⟨rfl, rfl, rfl, by decide +kernel, rfl, by decide +kernel, by decide +kernel⟩
theorem cqw : FnScope ["_law_cell", "_law_name", "_law_head", "_law_tail"] ["_law_cell", "_law_name"] (defScope cq4) := ⟨rfl, rfl, rfl, by decide +kernel, rfl, by decide +kernel, by decide +kernel⟩
theorem bqi : FnScope ["_law_pattern_here", "_law_cells", "_law_text_here"] ["_law_pattern_here", "_law_cells"] (defScope aqN) := ⟨rfl, rfl, rfl, by decide +kernel, rfl, by decide +kernel, by decide +kernel⟩
theorem iqI : FnScope ["things"] ["things"] (defScope cqZ) := ⟨rfl, rfl, rfl, by decide +kernel, rfl, by decide +kernel, by decide +kernel⟩
theorem gqZ : FnScope ["head", "inside", "tail", "named"] ["head", "inside", "tail"] (defScope eqH) := ⟨rfl, rfl, rfl, by decide +kernel, rfl, by decide +kernel, by decide +kernel⟩
theorem eql : FnScope ["_law_cell", "_law_names_here", "_law_cells", "_law_pieces"] ["_law_cell", "_law_names_here", "_law_cells"] (defScope bq9) := ⟨rfl, rfl, rfl, by decide +kernel, rfl, by decide +kernel, by decide +kernel⟩
theorem iqm : FnScope ["thing"] ["thing"] (defScope dqa) := ⟨rfl, rfl, rfl, by decide +kernel, rfl, by decide +kernel, by decide +kernel⟩
theorem dqI : FnScope ["text", "opened", "closed"] ["text"] (defScope cqU) := ⟨rfl, rfl, rfl, by decide +kernel, rfl, by decide +kernel, by decide +kernel⟩
theorem aqD : FnScope ["text", "texts", "ends", "pieces"] ["text"] (defScope bq3) := ⟨rfl, rfl, rfl, by decide +kernel, rfl, by decide +kernel, by decide +kernel⟩
theorem bqF : FnScope ["_law_text_here", "_law_error", "e"] ["_law_text_here"] (defScope bqY) := ⟨rfl, rfl, rfl, by decide +kernel, rfl, by decide +kernel, by decide +kernel⟩
theorem hqf : FnScope ["_law_script", "_law_names_here", "_law_pattern_here", "_law_text_here", "_law_cell", "_law_odd", "_law_k"] ["_law_script"] (defScope nqq) := ⟨rfl, rfl, rfl, by decide +kernel, rfl, by decide +kernel, by decide +kernel⟩
theorem iqb (g : G K mg) : FnOk P w K mg base CX0 1 g.fqT g.eqQ ["text", "signs"] kq6 := by
 refine g.fqS.ok lqk (fun vs H Q E h => ?_) (fun cdv A outer s H vs Q E hr h => ?_)
 ·obtain ⟨x, y, rfl, _⟩ := h; rfl
 ·obtain ⟨x, y, rfl, hx, k⟩ := h
  refine ⟨_, (aqf (aql (aqt (hqh (K := K) rfl rfl) rfl g.nqu PyProof.Rows.boot_all (aqa (fqm (fx := ["signs"]) (fr := [1]) rfl rfl (by decide +kernel) rfl (by decide +kernel) rfl (by decide +kernel) rfl (.cons rfl rfl rfl rfl .nil) rfl (qqz (pv 0)) (fun _ _ _ => hqR) (fun _ _ _ => (bqb hqO (pv 0) (pv 1) (by with_unfolding_all rfl)))) aqb)))), ?_⟩
  walk_at "rd"
  intro p hp
  refine nqD (z := x) (aqu hx) hp (fun c => .bl (decide (c ∈ y.cps.toList))) (fun c hc H' R hR => ?_) (fun H' sm hp' => ?_)
  ·walk_at "rd"
   exact hR H' (Same.refl _)
  ·refine mqU.mpr ⟨x.cps.toList.map fun c => decide (c ∈ y.cps.toList), SqL.of (by rw [hp', List.map_map]; rfl), ?_⟩
   rw [List.all_map]
   exact k H' sm
theorem dq2 (g : G K mg) : FnOk P w K mg base CX0 1 g.bqG g.bqs ["figure"] dq4 := by
 refine g.bqI.ok gqC (fun vs H Q E h => ?_) (fun cdv A outer s H vs Q E hr h => ?_)
 ·obtain ⟨c, rfl, _⟩ := h; rfl
 ·obtain ⟨a, rfl, ha, k⟩ := h
  refine ⟨_, (aqe (aqF (aqm hqO (pv 0) (aqx (v := eqd) rfl g.cqJ ⟨_, rfl⟩) (by with_unfolding_all rfl))
    (aqf (aql (cqC (K := K) rfl PySem.F.plainAttrs_str PySem.F.slot_str_index PySem.F.type_str_index kq0 (aqx (v := eqd) rfl g.cqJ ⟨_, rfl⟩) (aqa (pv 0) aqb)))) aqr)
   (aqe (aqF (aqm hqO (pv 0) (aqx (v := eqw) rfl g.cqE ⟨_, rfl⟩) (by with_unfolding_all rfl))
    (aqf (aql (cqC (K := K) rfl PySem.F.plainAttrs_str PySem.F.slot_str_index PySem.F.type_str_index kq0 (aqx (v := eqw) rfl g.cqE ⟨_, rfl⟩) (aqa (pv 0) aqb)))) aqr)
   (aqf (aql dqu)))), ?_⟩
  walk_at "rd"
  refine ite2 (fun h => ?_) (fun h => ?_)
  ·obtain ⟨e1, e2⟩ := nqn a ha h
   obtain ⟨n, hn⟩ := Option.isSome_iff_exists.mp e2
   rw [hn] at e1
   rw [eqs hn] at k
   exact ⟨n, [], e1, k⟩
  ·refine ite2 (fun h2 => ?_) (fun h2 => ?_)
   ·obtain ⟨e1, e2⟩ := nqQ a ha h h2
    obtain ⟨n, hn⟩ := Option.isSome_iff_exists.mp e2
    rw [hn] at e1
    rw [eqs hn] at k
    exact ⟨n, [], e1, k⟩
   ·rw [hqw (rqQ a ha h h2)] at k
    exact k
theorem gqD (g : G K mg) : FnOk P w K mg base CX0 1 g.bqN g.bqo ["number"] gqF := by
 refine g.cqO.ok cqm (fun vs H Q E h => ?_) (fun cdv A outer s H vs Q E hr h => ?_)
 ·obtain ⟨c, rfl, _⟩ := h; rfl
 ·obtain ⟨n, rfl, k⟩ := h
  refine ⟨_, (aqe (aqF (PW.pt (eqe (aqm jqX (pv 0) (aqx (v := eq3) rfl g.dqm ⟨_, rfl⟩) (nomark _)) (eqe (aqm mqJ (pv 0) (aqx (v := iqp) rfl g.fqW ⟨_, rfl⟩) (nomark _)) (dqq (aqm aq3 (pv 0) (aqx (v := dqt) rfl g.bqX ⟨_, rfl⟩) (nomark _))))))
    (aqf (aql dqu)) aqr)
   (aqe (aqs (i := 1) cqm.nd rfl (Or.inl rfl) (aqj jqi (pv 0) (aqx (v := eq3) rfl g.dqm ⟨_, rfl⟩)))
   (aqe (aqF (aqm mqJ (pv 0) (aqx (v := dqt) rfl g.bqX ⟨_, rfl⟩) (nomark _))
    (aqf (aqs (i := 1) cqm.nd rfl (Or.inl rfl) (aqj jqi (pv 1) aqd))) aqr)
   (aqf (aql (aqy (aqh (K := K) rfl) (aqx (v := lqO) rfl g.kqo ⟨_, rfl⟩) (pv 1) (fun _ _ => rfl))))))), ?_⟩
  walk_at "rd"
  refine ite2 (fun h => ?_) (fun h => ?_)
  ·rw [lqI (fun q => by have := dqV q; omega)] at k
   exact k
  ·refine ite2 (fun h1 => ?_) (fun h1 => ?_)
   ·rw [lqI (fun q => by have := dqV q; omega)] at k
    exact k
   ·refine ite2 (fun h2 => ?_) (fun h2 => ?_)
    ·rw [lqI (fun q => by have := dqV q; omega)] at k
     exact k
    ·have hs : isSg n = true := oqE (by omega) (by omega) (by omega)
     rw [pqy hs] at k
     have hat := nqx n (by omega) hs
     refine ite2 (fun h3 => ?_) (fun h3 => ?_)
     ·rw [if_pos (show 37 < n by omega)] at hat
      refine ⟨n, jqC, ?_, k⟩
      rw [show (n : Int) - 32 - 1 = ((n - 32 - 1 : Nat) : Int) by omega]
      exact aqg hat
     ·rw [if_neg (show ¬ 37 < n by omega)] at hat
      refine ⟨n, jqC, ?_, k⟩
      rw [show (n : Int) - 32 = ((n - 32 - 0 : Nat) : Int) by omega]
      exact aqg hat
theorem dqT (g : G K mg) : FnOk P w K mg base CX0 1 g.eqR g.dqA ["thing", "count"] kqa := by
 refine g.cqB.ok jqV (fun vs H Q E h => ?_) (fun cdv A outer s H vs Q E hr h => ?_)
 ·obtain ⟨d, v, n, rfl, _⟩ := h; rfl
 ·obtain ⟨d, v, n, rfl, hv, k⟩ := h
  refine ⟨_, (aqf (aql (cqo (aqt cqQ rfl g.aqv aqp (aqa (pv 0) (aqa (dql (v := .ty "tuple") rfl g.fqo eqC rfl) aqb))) (cqX (bqb aq3 (aqt (aqI (K := K) rfl) rfl g.eqj PySem.boot_len (aqa (pv 0) aqb)) (pv 1) (nomark _)))))), ?_⟩
  cases hv with
  | lst hp r => walk_at "rd"; simp only [dqZ hp]; walk_at "rd"; exact k
  | tup hp r =>
   walk_at "rd"; simp only [dqD hp]; walk_at "rd"
   refine ⟨_, .inr (SqT.of hp), ?_⟩
   rw [← r.length]
   exact k
  | _ => walk_at "rd"; exact k
theorem mqa (g : G K mg) : FnOk P w K mg base CX0 1 g.gqX g.fqA ["step"] mqk := by
 refine g.iqF.ok lqR (fun vs H Q E h => ?_) (fun cdv A outer s H vs Q E hr h => ?_)
 ·obtain ⟨s, rfl, _⟩ := h; rfl
 ·obtain ⟨s, rfl, k⟩ := h
  refine ⟨_, (aqf (aql (oqv (bqb aq3 (pv 0) (aqx (v := qqG) rfl g.oqp ⟨_, rfl⟩) (nomark _)) (cqX (bqb aq3 (pv 0) (aqx (v := k_UP) rfl g.c_UP ⟨_, rfl⟩) (nomark _)))))), ?_⟩
  have d1 : Str.ofString ".." = ⟨sUp.toArray⟩ := by decide +kernel
  have d2 : Str.ofString "." = ⟨sStay.toArray⟩ := by decide +kernel
  walk_at "rd"
  rw [d1, d2]
  simp only [cqr]
  by_cases h2 : s = sStay
  ·rw [if_pos h2]
   rw [show isDot s = true by simp [isDot, h2]] at k
   exact k
  ·rw [if_neg h2]
   rw [show isDot s = decide (s = sUp) by simp [isDot, h2]] at k
   exact k
theorem fqc (g : G K mg) : FnOk P w K mg base CX0 1 g.aq0 g.aqP ["pieces"] (fqj K) := by
 refine g.bqQ.ok fqp (fun vs H Q E h => ?_) (fun cdv A outer s H vs Q E hr h => ?_)
 ·obtain ⟨cs, xs, q, rfl, _⟩ := h; rfl
 ·obtain ⟨cs, xs, q, rfl, hq, hx, hl, k⟩ := h
  refine ⟨_, (aqf (aql (aqt (hqh (K := K) rfl rfl) rfl g.nqu PyProof.Rows.boot_all (aqa (fqm (fx := []) (fr := []) rfl rfl (by decide +kernel) rfl (by decide +kernel) rfl (by decide +kernel) rfl .nil rfl (iqj (K := K) rfl (bqO oqQ (pv 0) dqJ (bqU (kq7 iqe aqd)))) (fun _ _ _ => hqR) (fun _ _ _ => (bqb lqn (aqy (aqh (K := K) rfl) (pv 0) aqd (fun _ _ => rfl)) aqc (nomark _)))) aqb)))), ?_⟩
  walk_at "rd"
  have hxl := hx.length
  refine ⟨_, hq, fun p1 H1 s1 h1 => ?_⟩
  rw [iqn] at h1
  refine ⟨⟨_, .of h1⟩, fun p2 n2 => ?_⟩
  refine gq2 (xs := xs.dropLast) (fun i ys H' => Same H1 H' ∧ ys = ((cs.dropLast.take i).map fun c => !c.isRest).map V.bl) (aqu (by rw [List.length_dropLast]; omega)) ⟨aqG n2, rfl⟩ (fun i ys H2 hJ => .of (hJ.1 _ _ h1)) (fun i x ys H2 T hxi hJ h2 hT => ?_) (fun ys H2 hJ h2 => ?_)
  ·obtain ⟨s2, rfl⟩ := hJ
   have hi := (List.getElem?_eq_some_iff.mp hxi).1
   rw [List.length_dropLast] at hi
   rw [List.dropLast_eq_take, List.getElem?_take_of_lt (by omega)] at hxi
   obtain ⟨c, b, hc, rfl, hcb⟩ := hx.get hxi
   walk_at "rd"
   refine ⟨_, _, .inr ((s1.trans s2).tup hcb), c.at0, kqm.mpr ?_⟩
   rw [pqp]
   refine hT _ H2 h2 ⟨hqv n2 s2, ?_⟩
   have hcd : cs.dropLast[i]? = some c := by rw [List.dropLast_eq_take, List.getElem?_take_of_lt (by omega)]; exact hc
   rw [List.take_add_one, hcd, List.map_append, List.map_append]
   rfl
  ·obtain ⟨s2, rfl⟩ := hJ
   walk_at "rd"
   refine ⟨_, .of h2, ?_⟩
   have e : (((cs.dropLast.take xs.dropLast.length).map fun c => !c.isRest).all id) = restsL cs := by
    unfold restsL
    rw [List.length_dropLast, hxl, ← List.length_dropLast, List.take_length, List.all_map]
    rfl
   rw [e]
   exact k H2 (s1.trans s2)
theorem mqO (g : G K mg) : FnOk P w K mg base CX0 1 g.gqL g.fqw ["piece"] (lqN K) := by
 refine g.iqv.ok mqv (fun vs H Q E h => ?_) (fun cdv A outer s H vs Q E hr h => ?_)
 ·obtain ⟨c, p, rfl, _⟩ := h; rfl
 ·obtain ⟨c, p, rfl, hp, k⟩ := h
  refine ⟨_, (aqf (aql (bqb lqn (aqy (aqh (K := K) rfl) (pv 0) aqd (fun _ _ => rfl)) aqc (nomark _)))), ?_⟩
  walk_at "rd"
  refine ⟨_, _, .inr hp, c.at0, ?_⟩
  refine L2.kqm.mpr ?_
  rw [pqr]
  exact k
theorem lqC (g : G K mg) : FnOk P w K mg base CX0 1 g.fq1 g.eqP ["gap"] (kq5 K) := by
 refine g.hqx.ok kq8 (fun vs H Q E h => ?_) (fun cdv A outer s H vs Q E hr h => ?_)
 ·obtain ⟨c, p, rfl, _⟩ := h; rfl
 ·obtain ⟨c, p, rfl, hp, hc, k⟩ := h
  refine ⟨_, (aqf (aql (fqV (aqm aq3 (aqy (aqh (K := K) rfl) (pv 0) aqd (fun _ _ => rfl)) aqc (nomark _)) (aqy (aqh (K := K) rfl) (pv 0) aqd (fun _ _ => rfl)) (aqy (aqh (K := K) rfl) (pv 0) aqd (fun _ _ => rfl))))), ?_⟩
  walk_at "rd"
  refine ⟨_, _, .inr hp, c.at0, ?_⟩
  refine L2.aqE.mpr ⟨_, rfl, ?_⟩
  rw [pqY]
  cases c with
  | step s => cases hc
  | part h n t => exact ite2 (fun _ => ⟨_, _, .inr hp, aqg (j := 2) rfl, k⟩) (fun z => absurd rfl z)
  | num n => exact ite2 (fun z => by cases z) (fun _ => ⟨_, _, .inr hp, aqg (j := 1) rfl, k⟩)
  | word n => exact ite2 (fun z => by cases z) (fun _ => ⟨_, _, .inr hp, aqg (j := 1) rfl, k⟩)
  | gap n => exact ite2 (fun z => by cases z) (fun _ => ⟨_, _, .inr hp, aqg (j := 1) rfl, k⟩)
  | rest n => exact ite2 (fun z => by cases z) (fun _ => ⟨_, _, .inr hp, aqg (j := 1) rfl, k⟩)
theorem cqG (g : G K mg) : FnOk P w K mg base CX0 1 g.bq4 g.bqx ["_law_script", "_law_k"] (gq6 K) := by
 refine g.bqk.ok hqQ (fun vs H Q E h => ?_) (fun cdv A outer s H vs Q E hr h => ?_)
 ·obtain ⟨a, ns, k, rfl, _⟩ := h; rfl
 ·obtain ⟨a, ns, i, rfl, hS, k⟩ := h
  refine ⟨_, (aqe (aqF (aqm jqX (pv 1) (aqt (aqI (K := K) rfl) rfl g.eqj PySem.boot_len (aqa (pv 0) aqb)) (nomark _))
    (aqf (aql (aqy (aqh (K := K) rfl) (pv 0) (pv 1) (fun _ _ => rfl)))) aqr)
   (aqf (aql aqd))), ?_⟩
  walk_at "rd"
  refine ⟨ns.map V.int, .inl hS, ite2 (fun h => ?_) (fun h => ?_)⟩
  ·rw [List.length_map] at h
   exact ⟨ns.map V.int, _, .inl hS, oqM (by omega), k⟩
  ·rw [List.length_map] at h
   rw [List.getD_eq_getElem?_getD, List.getElem?_eq_none (by omega)] at k
   exact k
theorem iqK (g : G K mg) : FnOk P w K mg base CX0 1 g.cq3 g.cqz ["_law_cell", "_law_many"] (iqs K) := by
 refine g.dq9.ok aqz (fun vs H Q E h => ?_) (fun cdv A outer s H vs Q E hr h => ?_)
 ·obtain ⟨c, m, rfl, _⟩ := h; rfl
 ·obtain ⟨c, m, rfl, hm, k⟩ := h
  refine ⟨_, (aqe (aqs (i := 2) aqz.nd rfl (Or.inl rfl) aqc)
   (aqe (aqs (i := 3) aqz.nd rfl (Or.inl rfl) (aqj (aqi (K := K)) aqd (aqj aqL (pv 0) aqd)))
   (aqe (aqs (i := 4) aqz.nd rfl (Or.inl rfl) (aqj aqL (aqj bqd (pv 0) aqd) (pv 3)))
   (aqe (aqs (i := 5) aqz.nd rfl (Or.inl rfl) (aqU aqb))
   (aqe (jqL PassesOwn.never rfl (fqN rfl g.hqE (aqa (pv 1) aqb)) (dqM (i := 6) aqz.nd rfl (Or.inl rfl))
   (aqe (aqs (i := 7) aqz.nd rfl (Or.inl rfl) aqc)
   (aqJ (jqL PassesOwn.never rfl (fqN rfl g.hqE (aqa (pv 3) aqb)) (dqM (i := 8) aqz.nd rfl (Or.inl rfl))
   (aqe (aqs (i := 9) aqz.nd rfl (Or.inl rfl) (aqj (aqi (K := K)) (aqj bqd (pv 0) (aqj (aqi (K := K)) aqd (aqj fqe aqd (pv 8)))) (aqj fqe (aqj fqe aqd (pv 8)) (pv 8))))
   (aqJ (aqF (aqm aq3 (pv 8) (pv 4) (nomark _))
    (aqf (aqs (i := 9) aqz.nd rfl (Or.inl rfl) (aqj (aqi (K := K)) (pv 9) (pv 6)))) aqr)
   (aqf (aqs (i := 7) aqz.nd rfl (Or.inl rfl) (aqj (aqi (K := K)) (pv 7) (aqy (aqh (K := K) rfl) (pv 2) (aqj aqL (pv 9) aqd) (fun _ _ => rfl))))))))
   (aqJ (aqF (PW.pt (jqQ (aqm aq3 (aqj aqL (aqj bqd (pv 0) aqd) aqd) aqd (nomark _)) (hqF (aqm aq3 (aqj aqL (pv 6) aqd) aqd (nomark _)))))
    (aqf (aqs (i := 7) aqz.nd rfl (Or.inl rfl) (aqj (aqi (K := K)) (pv 7) (aqy (aqh (K := K) rfl) (pv 2) (aqj aqL (aqj bqd (pv 0) aqd) aqd) (fun _ _ => rfl))))) aqr)
   (aqf (mqw (cqC (K := K) rfl PySem.F.plainAttrs_list PySem.F.slot_list_append PySem.F.type_list_append fqO (pv 5) (aqa (pv 7) aqb))))))))
   (aqf (aql (pv 5)))))))), ?_⟩
  have eL : Str.ofString "abcdefghijklmnopqrstuvwxyz" = ⟨smaL.toArray⟩ := by unfold smaL; simp
  rw [eL]
  walk_at "rd"
  refine ⟨by decide, ⟨by decide, by decide⟩, by omega, by decide, fun p H1 n1 s1 e1 => ⟨by omega, by omega, ?_⟩⟩
  rw [Int.toNat_natCast]
  obtain ⟨sz, hsz, hs1, hs7⟩ : ∃ sz : Nat, 1 + c % 7 = (sz : Int) ∧ 1 ≤ sz ∧ sz ≤ 7 := ⟨(1 + c % 7).toNat, by omega, by omega, by omega⟩
  rw [hsz]
  obtain ⟨at_, ha, hat⟩ : ∃ a : Nat, c / 7 % (sz : Int) = (a : Int) ∧ a < sz := by
   have h1 := Int.emod_nonneg (c / 7) (show (sz : Int) ≠ 0 by omega)
   have h2 := Int.emod_lt_of_pos (c / 7) (show 0 < (sz : Int) by omega)
   exact ⟨(c / 7 % (sz : Int)).toNat, by omega, by omega⟩
  rw [ha]
  obtain ⟨X, hX⟩ : ∃ X : Int, X = c / (49 + 11 * (at_ : Int)) + 3 * (at_ : Int) * (at_ : Int) := ⟨_, rfl⟩
  refine eqX (fun i σ H' => ∃ (ns : List (List Nat)) (v6 v7 v8 v9 : Option V), σ = [some (.int c), some (.int (m : Int)), some (tV smaL), some (.int (sz : Int)), some (.int (at_ : Int)), some (.ref p), v6, v7, v8, v9] ∧ ns.length = i ∧ (∀ n ∈ ns, 0 < n.length ∧ n.length ≤ 8 ∧ n.all isSma = true) ∧ (∀ (k : Nat) (n : List Nat), ns[k]? = some n → NmAt X at_ k n) ∧ Same H H' ∧ H' p = some (.lst (ns.map tV))) ⟨[], none, none, none, none, rfl, rfl, by simp, (fun k n h => by cases h), s1, e1⟩ ?_ ?_
  ·rintro i σ H2 hi ⟨ns, v6, v7, v8, v9, rfl, hl, hns, hnm, s2, e2⟩
   walk_at "rd"
   refine ⟨fun σ H3 => H3 = H2 ∧ ∃ (l : List Nat) (v8 v9 : Option V), l.length = sz ∧ NmAt X at_ i l ∧ l.all isSma = true ∧ σ = [some (.int c), some (.int (m : Int)), some (tV smaL), some (.int (sz : Int)), some (.int (at_ : Int)), some (.ref p), some (.int (0 + (i : Int))), some (tV l), v8, v9], ?_, ?_⟩
   ·refine ⟨by omega, by omega, ?_⟩
    rw [Int.toNat_natCast]
    refine eqX (fun j σ H3 => H3 = H2 ∧ ∃ (l : List Nat) (v8 v9 : Option V), l.length = j ∧ (at_ < j → NmAt X at_ i l) ∧ l.all isSma = true ∧ σ = [some (.int c), some (.int (m : Int)), some (tV smaL), some (.int (sz : Int)), some (.int (at_ : Int)), some (.ref p), some (.int (0 + (i : Int))), some (tV l), v8, v9]) ⟨rfl, [], _, _, rfl, (fun z => absurd z (by omega)), rfl, rfl⟩ ?_ (fun σ H3 ⟨h1, l, v8, v9, h2, h3, h4, h5⟩ => ⟨h1, l, v8, v9, h2, h3 hat, h4, h5⟩)
    rintro j σ H3 hj ⟨rfl, l, v8, v9, hll, hln, hla, rfl⟩
    walk_at "rd"
    refine ⟨.inl ⟨by decide, by decide⟩, ⟨by omega, by omega⟩, .inl ⟨by decide, by decide⟩, .inr ⟨by omega, by omega⟩, ?_⟩
    refine ⟨fun σ H4 => H4 = H3 ∧ ∃ x : Int, (j = at_ → x = X + (i : Int)) ∧ σ = [some (.int c), some (.int (m : Int)), some (tV smaL), some (.int (sz : Int)), some (.int (at_ : Int)), some (.ref p), some (.int (0 + (i : Int))), some (tV l), some (.int (0 + (j : Int))), some (.int x)], ?_, ?_⟩
    ·refine ite2 (fun z => ⟨rfl, _, fun e => ?_, rfl⟩) (fun z => ⟨rfl, _, fun e => absurd (by rw [e]; omega) z, rfl⟩)
     rw [hX, e, Int.zero_add, Int.zero_add]
    rintro σ H4 ⟨rfl, x, hx, rfl⟩
    obtain ⟨d, hd, hds⟩ := oqj x
    walk_at "rd"
    refine ⟨by decide, d, by decide +kernel, hd, aqu (by omega), l ++ [d], _, _, by rw [List.length_append, List.length_singleton, hll], fun z => ?_, by rw [List.all_append, hla]; simp [hds], rfl, rfl, rfl⟩
    by_cases ej : j = at_
    ·rw [hx ej] at hd
     exact ⟨d, by rw [List.getElem?_append_right (by omega), hll, ej, Nat.sub_self]; rfl, hd⟩
    ·exact (hln (by omega)).app
   rintro σ H3 ⟨rfl, l, v8, v9, hll, hln, hla, rfl⟩
   walk_at "rd"
   refine ⟨fun σ H4 => H4 = H3 ∧ ∃ (l : List Nat), (0 < l.length ∧ l.length ≤ 8 ∧ l.all isSma = true) ∧ NmAt X at_ i l ∧ σ = [some (.int c), some (.int (m : Int)), some (tV smaL), some (.int (sz : Int)), some (.int (at_ : Int)), some (.ref p), some (.int (0 + (i : Int))), some (tV l), v8, v9], ?_, ?_⟩
   ·have stay : H3 = H3 ∧ ∃ (l' : List Nat), (0 < l'.length ∧ l'.length ≤ 8 ∧ l'.all isSma = true) ∧ NmAt X at_ i l' ∧ [some (V.int c), some (.int (m : Int)), some (tV smaL), some (.int (sz : Int)), some (.int (at_ : Int)), some (.ref p), some (.int (0 + (i : Int))), some (tV l), v8, v9] = [some (V.int c), some (.int (m : Int)), some (tV smaL), some (.int (sz : Int)), some (.int (at_ : Int)), some (.ref p), some (.int (0 + (i : Int))), some (tV l'), v8, v9] := ⟨rfl, l, ⟨by omega, by omega, hla⟩, hln, rfl⟩
    refine ⟨⟨by decide, by decide⟩, by decide, ite2 (fun _ => ⟨by decide, ite2 (fun _ => ?_) (fun _ => stay)⟩) (fun _ => stay)⟩
    obtain ⟨d, hd, hds⟩ := oqj (c / 686)
    refine ⟨⟨by decide, by decide⟩, by decide, d, by decide +kernel, hd, aqu (by omega), rfl, l ++ [d], ⟨by rw [List.length_append, List.length_singleton]; omega, by rw [List.length_append, List.length_singleton]; omega, by rw [List.all_append, hla]; simp [hds]⟩, hln.app, ?_⟩
    simp
   rintro σ H4 ⟨rfl, l2, hl2, hn2, rfl⟩
   walk_at "rd"
   refine ⟨⟨_, .of e2⟩, _, e2, by rw [List.length_map]; exact Nat.lt_of_le_of_lt (show ns.length ≤ 26 by omega) (by decide), ns ++ [l2], _, _, _, _, ⟨rfl, rfl, rfl, rfl⟩, by rw [List.length_append, List.length_singleton, hl], fun n hn => ?_, fun k n hk => ?_, hqv n1 s2, by rw [aqk, List.map_append]; rfl⟩
   rcases List.mem_append.mp hn with z | z
   ·exact hns n z
   ·rw [List.mem_singleton.mp z]; exact hl2
   ·by_cases hk2 : k < ns.length
    ·rw [List.getElem?_append_left hk2] at hk
     exact hnm k n hk
    ·rw [List.getElem?_append_right (by omega)] at hk
     have hk3 : k - ns.length = 0 := by
      cases hh : k - ns.length with
      | zero => rfl
      | succ z => rw [hh] at hk; cases hk
     rw [hk3] at hk
     cases hk
     rw [show k = i by omega]
     exact hn2
  ·rintro σ H2 ⟨ns, v6, v7, v8, v9, rfl, hl, hns, hnm, s2, e2⟩
   walk_at "rd"
   exact k ns p H2 hl hns (mq1 hnm (by omega)) s2 e2
theorem iqP (g : G K mg) : FnOk P w K mg base CX0 1 g.cq5 g.cqv [] fq2 := by
 refine g.eqc.ok fqP (fun vs H Q E h => ?_) (fun cdv A outer s H vs Q E hr h => ?_)
 ·obtain ⟨rfl, _⟩ := h; rfl
 ·obtain ⟨rfl, k⟩ := h
  refine ⟨_, (aqe (aqs (i := 0) fqP.nd rfl (Or.inl rfl) aqc)
   (aqf (aql (aqj (fqs (K := K) rfl) (pv 0) aqc)))), ?_⟩
  walk_at "rd"
  rw [show Str.ofString " !\"#$&'()*+,-./0123456789:;<=>?@ABCDEFGHIJKLMNOPQRSTUVWXYZ" ++ Str.ofString "[\\]^_`abcdefghijklmnopqrstuvwxyz{|}~" = ⟨SG.toArray⟩ by decide +kernel]
  exact ⟨by decide +kernel, k⟩
theorem iq4 (g : G K mg) : FnOk P w K mg base CX0 1 g.dqN g.cq0 ["_law_sign", "_law_great"] gqB := by
 refine g.fqd.ok eqo (fun vs H Q E h => ?_) (fun cdv A outer s H vs Q E hr h => ?_)
 ·obtain ⟨c, g, rfl, _⟩ := h; rfl
 ·obtain ⟨c, gr, rfl, hc, k⟩ := h
  refine ⟨_, (aqe (aqs (i := 2) eqo.nd rfl (Or.inl rfl) aqc)
   (aqJ (aqF (bqe (pv 1))
    (aqf (aqs (i := 2) eqo.nd rfl (Or.inl rfl) aqc)) aqr)
   (aqf (aql (aqj (fqs (K := K) rfl) (aqj (fqs (K := K) rfl) aqc (aqy (aqh (K := K) rfl) (pv 2) (aqj bqd (aqt jqn rfl g.oqS kqu (aqa (pv 0) aqb)) aqd) (fun _ _ => rfl))) (aqy (aqh (K := K) rfl) (pv 2) (aqj aqL (aqt jqn rfl g.oqS kqu (aqa (pv 0) aqb)) aqd) (fun _ _ => rfl))))))), ?_⟩
  have l := dqV hc
  walk_at "rd"
  obtain ⟨fg, hfg⟩ : ∃ fg : Nat → Nat, fg = (if gr then (fun n => if n < 10 then 48 + n else 55 + n) else hexd) := ⟨_, rfl⟩
  have hk : sgO (fg (c / 16)) (fg (c % 16)) = some c := by
   rw [hfg]
   cases gr
   ·exact kqc hc
   ·exact lqK hc
  refine ⟨fun σ H1 => H1 = H ∧ ∃ z : Str, σ = [some (.str ⟨#[c]⟩), some (.bl gr), some (.str z)] ∧ z.length = 16 ∧ ∀ n, n < 16 → z.cps.toList[n]? = some (fg n), ?_, ?_⟩
  ·rw [hfg]
   cases gr
   ·exact ⟨rfl, _, rfl, by decide +kernel, oqV⟩
   ·exact ⟨rfl, _, rfl, by decide +kernel, lqH⟩
  rintro σ H1 ⟨rfl, z, rfl, hz, hg⟩
  walk_at "rd"
  have a1 : atI z.cps.toList ((c : Int) / 16) = some (fg (c / 16)) := by
   rw [show (c : Int) / 16 = ((c / 16 : Nat) : Int) by omega]
   exact aqg (hg (c / 16) (by omega))
  have a2 : atI z.cps.toList ((c : Int) % 16) = some (fg (c % 16)) := by
   rw [show (c : Int) % 16 = ((c % 16 : Nat) : Int) by omega]
   exact aqg (hg (c % 16) (by omega))
  have hzl : z.length ≤ sizeLine := by rw [hz]; decide
  exact ⟨⟨by decide, by decide⟩, _, hzl, a1, by decide, by decide, _, hzl, a2, by decide, k _ _ hk (fun z => by rw [hfg, z]; exact ⟨rfl, rfl⟩)⟩
theorem gqK (g : G K mg) : FnOk P w K mg base CX0 1 g.bqR g.bqp ["_law_cell", "_law_name"] (gqE K) := by
 refine g.cqI.ok aqB (fun vs H Q E h => ?_) (fun cdv A outer s H vs Q E hr h => ?_)
 ·obtain ⟨c, n, rfl, _⟩ := h; rfl
 ·obtain ⟨c, n, rfl, hn, k⟩ := h
  refine ⟨_, (aqJ (aqs (i := 2) aqB.nd rfl (Or.inl rfl) (aqU (cqp aqc (cqp aqc (cqp aqc (cqp aqc (cqp aqc (cqp aqc (cqp aqc (cqp aqc (cqp aqc (cqp aqc (cqp aqc (cqp aqc (cqp aqc (cqp aqc (cqp aqc (cqp aqc pqU))))))))))))))))))
   (aqJ (aqs (i := 2) aqB.nd rfl (Or.inl rfl) (aqj (aqi (K := K)) (pv 2) (aqU (aqa aqc (aqa aqc (aqa aqc (aqa aqc (aqa aqc (aqa (aqj (aqi (K := K)) aqc (pv 1)) (aqa (aqj (aqi (K := K)) (pv 1) aqc) (aqa aqc aqb)))))))))))
   (aqJ (aqs (i := 2) aqB.nd rfl (Or.inl rfl) (aqj (aqi (K := K)) (pv 2) (aqU (aqa (aqj (aqi (K := K)) (aqj (aqi (K := K)) aqc (pv 1)) aqc) (aqa (aqj (aqi (K := K)) (aqj (aqi (K := K)) aqc (pv 1)) aqc) (aqa (aqj (aqi (K := K)) (aqj (aqi (K := K)) aqc (pv 1)) aqc) (aqa (aqj (aqi (K := K)) (aqj (aqi (K := K)) aqc (pv 1)) aqc) aqb)))))))
   (aqJ (aqs (i := 2) aqB.nd rfl (Or.inl rfl) (aqj (aqi (K := K)) (pv 2) (aqU (aqa (aqj (aqi (K := K)) (aqj (aqi (K := K)) aqc (pv 1)) aqc) (aqa (aqj (aqi (K := K)) (aqj (aqi (K := K)) aqc (pv 1)) aqc) aqb)))))
   (aqJ (aqs (i := 2) aqB.nd rfl (Or.inl rfl) (aqj (aqi (K := K)) (pv 2) (aqU (aqa aqc (aqa aqc (aqa aqc (aqa (aqj (aqi (K := K)) (aqj (aqi (K := K)) aqc (pv 1)) aqc) (aqa (aqj (aqi (K := K)) (aqj (aqi (K := K)) aqc (pv 1)) aqc) aqb))))))))
   (aqJ (aqs (i := 2) aqB.nd rfl (Or.inl rfl) (aqj (aqi (K := K)) (pv 2) (aqU (aqa aqc (aqa aqc aqb)))))
   (aqJ (aqs (i := 2) aqB.nd rfl (Or.inl rfl) (aqj (aqi (K := K)) (pv 2) (aqU (aqa aqc (aqa aqc (aqa aqc (aqa aqc (aqa (aqj (aqi (K := K)) (aqj (aqi (K := K)) aqc (pv 1)) aqc) (aqa aqc (aqa aqc (aqa aqc (aqa aqc (aqa (aqj (aqi (K := K)) (aqj (aqi (K := K)) aqc (pv 1)) aqc) aqb)))))))))))))
   (aqf (aql (aqy (aqh (K := K) rfl) (pv 2) (aqj aqL (pv 0) (aqt (aqI (K := K) rfl) rfl g.eqj PySem.boot_len (aqa (pv 2) aqb))) (fun _ _ => rfl))))))))))), ?_⟩
  have b0 : Str.ofString "{" = ⟨[123].toArray⟩ := by decide +kernel
  have b1 : Str.ofString "}" = ⟨[125].toArray⟩ := by decide +kernel
  have b2 : Str.ofString "{{" = ⟨[123, 123].toArray⟩ := by decide +kernel
  have b3 : Str.ofString "}}" = ⟨[125, 125].toArray⟩ := by decide +kernel
  have b4 : Str.ofString ":}" = ⟨[58, 125].toArray⟩ := by decide +kernel
  have b5 : Str.ofString ":many}" = ⟨[58, 109, 97, 110, 121, 125].toArray⟩ := by decide +kernel
  have b6 : Str.ofString ":Number}" = ⟨[58, 78, 117, 109, 98, 101, 114, 125].toArray⟩ := by decide +kernel
  have b7 : Str.ofString ":number:word}" = ⟨[58, 110, 117, 109, 98, 101, 114, 58, 119, 111, 114, 100, 125].toArray⟩ := by decide +kernel
  have b8 : Str.ofString "a{" = ⟨[97, 123].toArray⟩ := by decide +kernel
  have b9 : Str.ofString ":word}" = ⟨[58, 119, 111, 114, 100, 125].toArray⟩ := by decide +kernel
  have b10 : Str.ofString ":number}b" = ⟨[58, 110, 117, 109, 98, 101, 114, 125, 98].toArray⟩ := by decide +kernel
  have b11 : Str.ofString "}~" = ⟨[125, 126].toArray⟩ := by decide +kernel
  have b12 : Str.ofString ":gap}" = ⟨[58, 103, 97, 112, 125].toArray⟩ := by decide +kernel
  rw [b0, b1, b2, b3, b4, b5, b6, b7, b8, b9, b10, b11, b12]
  walk_at "rd"
  have hl := hn.1.2
  have sz : ∀ m : Nat, m ≤ 100 → m ≤ sizeLine := fun m h => aqu (by omega)
  have P1 : ∀ {z : Str} {L : List Str}, OddT z.cps.toList → (∀ z ∈ L, OddT z.cps.toList) → ∀ y ∈ z :: L, OddT y.cps.toList := fun h1 h2 => List.forall_mem_cons.mpr ⟨h1, h2⟩
  refine ⟨fun σ G => Same H G ∧ ∃ (l : Addr) (L : List Str), σ = [some (.int c), some (tV n), some (.ref l)] ∧ G l = some (.lst (L.map V.str)) ∧ L.length = 16 ∧ ∀ z ∈ L, OddT z.cps.toList, ⟨by decide, fun q0 G0 m0 t0 d0 => ⟨t0, q0, [_, _, _, _, _, _, _, _, _, _, _, _, _, _, _, _], rfl, d0, rfl, ?_⟩⟩, ?_⟩
  ·repeat' (first | exact fun z hz => absurd hz List.not_mem_nil | refine P1 (hqa (by decide +kernel)) ?_)
  rintro σ G0 ⟨u0, q0, L0, rfl, f0, l0, g0⟩
  walk_at "rd"
  refine ⟨fun σ G => Same H G ∧ ∃ (l : Addr) (L : List Str), σ = [some (.int c), some (tV n), some (.ref l)] ∧ G l = some (.lst (L.map V.str)) ∧ L.length = 24 ∧ ∀ z ∈ L, OddT z.cps.toList, ⟨sz _ (by omega), sz _ (by omega), by decide, fun p H1 _ s1 e1 => ?_⟩, ?_⟩
  ·have all : ∃ M : List Str, M.length = 8 ∧ H1 p = some (.lst (M.map V.str)) ∧ ∀ z ∈ M, OddT z.cps.toList := by
    refine ⟨[_, _, _, _, _, _, _, _], rfl, e1, ?_⟩
    repeat' (first | exact fun z hz => absurd hz List.not_mem_nil | refine P1 (hqa (by decide +kernel)) ?_ | refine P1 (dqr hn _ (by unfold oddN; simp)) ?_)
   obtain ⟨M, k1, h1, i1⟩ := all
   refine .inl ⟨_, _, s1 _ _ f0, h1, by rw [List.length_map, List.length_map, l0, k1]; decide, fun p2 H2 _ s2 e2 => ?_⟩
   rw [← List.map_append] at e2
   exact ⟨u0.trans (s1.trans s2), p2, _, rfl, e2, by rw [List.length_append, l0, k1], fun z hz => (List.mem_append.mp hz).elim (g0 z) (i1 z)⟩
  rintro σ G1 ⟨u1, q1, L1, rfl, f1, l1, g1⟩
  walk_at "rd"
  refine ⟨fun σ G => Same H G ∧ ∃ (l : Addr) (L : List Str), σ = [some (.int c), some (tV n), some (.ref l)] ∧ G l = some (.lst (L.map V.str)) ∧ L.length = 28 ∧ ∀ z ∈ L, OddT z.cps.toList, ⟨sz _ (by omega), sz _ (by omega), sz _ (by omega), sz _ (by omega), sz _ (by omega), sz _ (by omega), sz _ (by omega), sz _ (by omega), by decide, fun p H1 _ s1 e1 => ?_⟩, ?_⟩
  ·have all : ∃ M : List Str, M.length = 4 ∧ H1 p = some (.lst (M.map V.str)) ∧ ∀ z ∈ M, OddT z.cps.toList := by
    refine ⟨[_, _, _, _], rfl, e1, ?_⟩
    repeat' (first | exact fun z hz => absurd hz List.not_mem_nil | refine P1 (hqa (by decide +kernel)) ?_ | refine P1 (dqr hn _ (by unfold oddN; simp)) ?_)
   obtain ⟨M, k1, h1, i1⟩ := all
   refine .inl ⟨_, _, s1 _ _ f1, h1, by rw [List.length_map, List.length_map, l1, k1]; decide, fun p2 H2 _ s2 e2 => ?_⟩
   rw [← List.map_append] at e2
   exact ⟨u1.trans (s1.trans s2), p2, _, rfl, e2, by rw [List.length_append, l1, k1], fun z hz => (List.mem_append.mp hz).elim (g1 z) (i1 z)⟩
  rintro σ G2 ⟨u2, q2, L2, rfl, f2, l2, g2⟩
  walk_at "rd"
  refine ⟨fun σ G => Same H G ∧ ∃ (l : Addr) (L : List Str), σ = [some (.int c), some (tV n), some (.ref l)] ∧ G l = some (.lst (L.map V.str)) ∧ L.length = 30 ∧ ∀ z ∈ L, OddT z.cps.toList, ⟨sz _ (by omega), sz _ (by omega), sz _ (by omega), sz _ (by omega), by decide, fun p H1 _ s1 e1 => ?_⟩, ?_⟩
  ·have all : ∃ M : List Str, M.length = 2 ∧ H1 p = some (.lst (M.map V.str)) ∧ ∀ z ∈ M, OddT z.cps.toList := by
    refine ⟨[_, _], rfl, e1, ?_⟩
    repeat' (first | exact fun z hz => absurd hz List.not_mem_nil | refine P1 (hqa (by decide +kernel)) ?_ | refine P1 (dqr hn _ (by unfold oddN; simp)) ?_)
   obtain ⟨M, k1, h1, i1⟩ := all
   refine .inl ⟨_, _, s1 _ _ f2, h1, by rw [List.length_map, List.length_map, l2, k1]; decide, fun p2 H2 _ s2 e2 => ?_⟩
   rw [← List.map_append] at e2
   exact ⟨u2.trans (s1.trans s2), p2, _, rfl, e2, by rw [List.length_append, l2, k1], fun z hz => (List.mem_append.mp hz).elim (g2 z) (i1 z)⟩
  rintro σ G3 ⟨u3, q3, L3, rfl, f3, l3, g3⟩
  walk_at "rd"
  refine ⟨fun σ G => Same H G ∧ ∃ (l : Addr) (L : List Str), σ = [some (.int c), some (tV n), some (.ref l)] ∧ G l = some (.lst (L.map V.str)) ∧ L.length = 35 ∧ ∀ z ∈ L, OddT z.cps.toList, ⟨sz _ (by omega), sz _ (by omega), sz _ (by omega), sz _ (by omega), by decide, fun p H1 _ s1 e1 => ?_⟩, ?_⟩
  ·have all : ∃ M : List Str, M.length = 5 ∧ H1 p = some (.lst (M.map V.str)) ∧ ∀ z ∈ M, OddT z.cps.toList := by
    refine ⟨[_, _, _, _, _], rfl, e1, ?_⟩
    repeat' (first | exact fun z hz => absurd hz List.not_mem_nil | refine P1 (hqa (by decide +kernel)) ?_ | refine P1 (dqr hn _ (by unfold oddN; simp)) ?_)
   obtain ⟨M, k1, h1, i1⟩ := all
   refine .inl ⟨_, _, s1 _ _ f3, h1, by rw [List.length_map, List.length_map, l3, k1]; decide, fun p2 H2 _ s2 e2 => ?_⟩
   rw [← List.map_append] at e2
   exact ⟨u3.trans (s1.trans s2), p2, _, rfl, e2, by rw [List.length_append, l3, k1], fun z hz => (List.mem_append.mp hz).elim (g3 z) (i1 z)⟩
  rintro σ G4 ⟨u4, q4, L4, rfl, f4, l4, g4⟩
  walk_at "rd"
  refine ⟨fun σ G => Same H G ∧ ∃ (l : Addr) (L : List Str), σ = [some (.int c), some (tV n), some (.ref l)] ∧ G l = some (.lst (L.map V.str)) ∧ L.length = 37 ∧ ∀ z ∈ L, OddT z.cps.toList, ⟨by decide, fun p H1 _ s1 e1 => ?_⟩, ?_⟩
  ·have all : ∃ M : List Str, M.length = 2 ∧ H1 p = some (.lst (M.map V.str)) ∧ ∀ z ∈ M, OddT z.cps.toList := by
    refine ⟨[_, _], rfl, e1, ?_⟩
    repeat' (first | exact fun z hz => absurd hz List.not_mem_nil | refine P1 (hqa (by decide +kernel)) ?_ | refine P1 (dqr hn _ (by unfold oddN; simp)) ?_)
   obtain ⟨M, k1, h1, i1⟩ := all
   refine .inl ⟨_, _, s1 _ _ f4, h1, by rw [List.length_map, List.length_map, l4, k1]; decide, fun p2 H2 _ s2 e2 => ?_⟩
   rw [← List.map_append] at e2
   exact ⟨u4.trans (s1.trans s2), p2, _, rfl, e2, by rw [List.length_append, l4, k1], fun z hz => (List.mem_append.mp hz).elim (g4 z) (i1 z)⟩
  rintro σ G5 ⟨u5, q5, L5, rfl, f5, l5, g5⟩
  walk_at "rd"
  refine ⟨fun σ G => Same H G ∧ ∃ (l : Addr) (L : List Str), σ = [some (.int c), some (tV n), some (.ref l)] ∧ G l = some (.lst (L.map V.str)) ∧ L.length = 47 ∧ ∀ z ∈ L, OddT z.cps.toList, ⟨sz _ (by omega), sz _ (by omega), sz _ (by omega), sz _ (by omega), by decide, fun p H1 _ s1 e1 => ?_⟩, ?_⟩
  ·have all : ∃ M : List Str, M.length = 10 ∧ H1 p = some (.lst (M.map V.str)) ∧ ∀ z ∈ M, OddT z.cps.toList := by
    refine ⟨[_, _, _, _, _, _, _, _, _, _], rfl, e1, ?_⟩
    repeat' (first | exact fun z hz => absurd hz List.not_mem_nil | refine P1 (hqa (by decide +kernel)) ?_ | refine P1 (dqr hn _ (by unfold oddN; simp)) ?_)
   obtain ⟨M, k1, h1, i1⟩ := all
   refine .inl ⟨_, _, s1 _ _ f5, h1, by rw [List.length_map, List.length_map, l5, k1]; decide, fun p2 H2 _ s2 e2 => ?_⟩
   rw [← List.map_append] at e2
   exact ⟨u5.trans (s1.trans s2), p2, _, rfl, e2, by rw [List.length_append, l5, k1], fun z hz => (List.mem_append.mp hz).elim (g5 z) (i1 z)⟩
  rintro σ G6 ⟨sm, q6, L6, rfl, f6, l6, g6⟩
  walk_at "rd"
  refine ⟨_, .inl (.of f6), by rw [List.length_map, l6]; exact (by decide : (0 : Int) < 47), ?_⟩
  rw [List.length_map, l6]
  obtain ⟨j, hj, ej⟩ : ∃ j : Nat, j < 47 ∧ c % ((47 : Nat) : Int) = (j : Int) := ⟨(c % 47).toNat, by omega, by omega⟩
  have hz : L6[j]? = some (L6[j]'(by omega)) := List.getElem?_eq_getElem _
  rw [ej]
  refine ⟨_, _, .inl (.of f6), aqg (by rw [List.getElem?_map, hz]; rfl), ?_⟩
  have := k (L6[j]'(by omega)).cps.toList G6 (g6 _ (List.getElem_mem _)) sm
  rw [show tV (L6[j]'(by omega)).cps.toList = .str (L6[j]'(by omega)) from congrArg V.str (bqq _)] at this
  exact this
theorem gqh (g : G K mg) : FnOk P w K mg base CX0 2 g.fq5 g.eqY ["thing"] lqu := by
 refine g.eqq.ok lqB (fun vs H Q E h => ?_) (fun cdv A outer s H vs Q E hr h => ?_)
 ·obtain ⟨d, v, rfl, _⟩ := h; rfl
 ·obtain ⟨d, v, rfl, hv, hs, k⟩ := h
  refine ⟨_, (aqf (aql (cqo (aqt cqQ rfl g.aqv aqp (aqa (pv 0) (aqa (dql (v := .ty "str") rfl g.kq4 jqB rfl) aqb))) (cqX (aqn (iqb g) (hr.mono (by decide)) rfl g.hqL g.fqS.kp g.hqB .nil pass0 (aqa (pv 0) (aqa (aqx (v := lqO) rfl g.kqo ⟨_, rfl⟩) aqb))))))), ?_⟩
  cases hv with
  | lst hp r => walk_at "rd"; simp only [dqZ hp]; walk_at "rd"; exact k H (Same.refl _)
  | tup hp r => walk_at "rd"; simp only [dqD hp]; walk_at "rd"; exact k H (Same.refl _)
  | str x =>
   walk_at "rd"
   refine ⟨x, _, rfl, eqA hs, fun H' sm => ?_⟩
   simp only [qq7]
   exact k H' sm
  | _ => walk_at "rd"; exact k H (Same.refl _)
theorem lqj (g : G K mg) : FnOk P w K mg base CX0 2 g.fq8 g.eqJ ["figures"] hq7 := by
 refine g.gq3.ok gqb (fun vs H Q E h => ?_) (fun cdv A outer s H vs Q E hr h => ?_)
 ·obtain ⟨c, rfl, _⟩ := h; rfl
 ·obtain ⟨l, rfl, hl, ha, k⟩ := h
  refine ⟨_, (aqe (aqF (aqm lqn (aqt (aqI (K := K) rfl) rfl g.eqj PySem.boot_len (aqa (pv 0) aqb)) aqd (nomark _))
    (aqf (aql dqu)) aqr)
   (aqe (aqs (i := 1) gqb.nd rfl (Or.inl rfl) (aqn (dq2 g) (hr.mono (by decide)) rfl g.cqR g.bqI.kp g.cqL .nil pass0 (aqa (aqy (aqh (K := K) rfl) (pv 0) aqd (fun _ _ => rfl)) aqb)))
   (aqe (aqs (i := 2) gqb.nd rfl (Or.inl rfl) (aqn (dq2 g) (hr.mono (by decide)) rfl g.cqR g.bqI.kp g.cqL .nil pass0 (aqa (aqy (aqh (K := K) rfl) (pv 0) aqd (fun _ _ => rfl)) aqb)))
   (aqe (aqF (PW.pt (eqe (aqm kqq (pv 1) dqu (nomark _)) (dqq (aqm kqq (pv 2) dqu (nomark _)))))
    (aqf (aql dqu)) aqr)
   (aqf (aql (aqn (gqD g) (hr.mono (by decide)) rfl g.dq5 g.cqO.kp g.eqi .nil pass0 (aqa (aqj (fqs (K := K) rfl) (aqj fqe (pv 1) aqd) (pv 2)) aqb)))))))), ?_⟩
  walk_at "rd"
  have hz : l.length ≤ sizeLine := aqu (by omega)
  refine ⟨hz, ite2 (fun h => ?_) (fun h => ?_)⟩
  ·rw [hq3 (by omega)] at k
   exact k
  ·obtain ⟨a, b, rfl⟩ := qqH (l := l) (by omega)
   refine ⟨a, hz, rfl, ha a (by simp), b, hz, rfl, ha b (by simp), ?_⟩
   have k : Q (signOf a b) H := k
   unfold signOf at k
   cases e1 : fig a with
   | none =>
    rw [e1] at k
    rw [hqw e1]
    exact k
   | some x =>
    cases e2 : fig b with
    | none =>
     rw [e1, e2] at k
     rw [eqs e1, hqw e2]
     exact k
    | some y =>
     rw [e1, e2] at k
     rw [eqs e1, eqs e2]
     walk_at "rd"
     exact ⟨.inr ⟨by decide, by decide⟩, x * 16 + y, by rw [Int.natCast_add, Int.natCast_mul]; rfl, k⟩
theorem hq4 (g : G K mg) : FnOk P w K mg base CX0 2 g.fqQ g.eqE ["thing"] lqi := by
 refine g.fqZ.ok lqm (fun vs H Q E h => ?_) (fun cdv A outer s H vs Q E hr h => ?_)
 ·obtain ⟨d, v, rfl, _⟩ := h; rfl
 ·obtain ⟨d, v, rfl, hv, hs, k⟩ := h
  refine ⟨_, (aqf (aql (cqo (aqt cqQ rfl g.aqv aqp (aqa (pv 0) (aqa (dql (v := .ty "str") rfl g.kq4 jqB rfl) aqb))) (cqo (nqj qqB qqB aqd (aqt (aqI (K := K) rfl) rfl g.eqj PySem.boot_len (aqa (pv 0) aqb)) (aqx (v := hqV) rfl g.fqa ⟨_, rfl⟩)) (cqX (aqn (iqb g) (hr.mono (by decide)) rfl g.hqL g.fqS.kp g.hqB .nil pass0 (aqa (pv 0) (aqa (aqx (v := eqg) rfl g.eqf ⟨_, rfl⟩) aqb)))))))), ?_⟩
  have eF : eqg = .str ⟨smaL.toArray⟩ := by
   show V.str (Str.ofString _) = _
   unfold smaL; simp
  rw [eF]
  walk_at "rd"
  cases hv with
  | str x =>
   refine ⟨_, L2.eqG, ite2 (fun _ => ?_) (fun z => absurd (by decide) z)⟩
   have hl := eqA hs
   walk_at "rd"
   have out : (¬ (1 ≤ x.length ∧ x.length ≤ 8)) → Q (.bl false) H := fun h => by
    have : nameD (.str x) = false := by
     show (decide (1 ≤ x.length ∧ x.length ≤ 8) && x.cps.toList.all isSma) = false
     rw [decide_eq_false h, Bool.false_and]
    rw [← this]
    exact k H (Same.refl _)
   refine ⟨aqu hl, ite2 (fun h1 => ite2 (fun h2 => ?_) (fun h2 => out (by omega))) (fun h1 => out (by omega))⟩
   refine ⟨_, _, rfl, hl, fun H' sm => ?_⟩
   have e : nameD (.str x) = (x.cps.toList.all fun c => decide (c ∈ smaL)) := by
    show (decide (1 ≤ x.length ∧ x.length ≤ 8) && x.cps.toList.all isSma) = _
    rw [decide_eq_true (show 1 ≤ x.length ∧ x.length ≤ 8 by omega), pqw]
    rfl
   have := k H' sm
   rw [e] at this
   simpa using this
  | lst hp r => exact ⟨_, L2.dqZ hp, ite2 (fun z => absurd z (by decide)) (fun _ => k H (Same.refl _))⟩
  | tup hp r => exact ⟨_, L2.dqD hp, ite2 (fun z => absurd z (by decide)) (fun _ => k H (Same.refl _))⟩
  | non => exact ⟨_, L2.eqT, ite2 (fun z => absurd z (by decide)) (fun _ => k H (Same.refl _))⟩
  | bl b => exact ⟨_, L2.fq9, ite2 (fun z => absurd z (by decide)) (fun _ => k H (Same.refl _))⟩
  | int i => exact ⟨_, L2.eqM, ite2 (fun z => absurd z (by decide)) (fun _ => k H (Same.refl _))⟩
theorem kqt (g : G K mg) : FnOk P w K mg base CX0 2 g.eqW g.dqU ["pieces"] (kqe K) := by
 refine g.gqd.ok jq1 (fun vs H Q E h => ?_) (fun cdv A outer s H vs Q E hr h => ?_)
 ·obtain ⟨cs, xs, q, rfl, _⟩ := h; rfl
 ·obtain ⟨cs, xs, q, rfl, hq, hx, hn, k⟩ := h
  refine ⟨_, (aqf (aql (fqm (fx := []) (fr := []) rfl rfl (by decide +kernel) rfl (by decide +kernel) rfl (by decide +kernel) rfl .nil rfl (iqj (K := K) rfl (pv 0)) (fun _ _ _ => (qqT (bqe (aqn (mqO g) (hr.mono (by decide)) rfl g.kqG g.iqv.kp g.kqv .nil pass0 (aqa (pv 0) aqb))))) (fun _ _ _ => (aqn (lqC g) (hr.mono (by decide)) rfl g.jqq g.hqx.kp g.iq3 .nil pass0 (aqa (pv 0) aqb)))))), ?_⟩
  walk_at "rd"
  have hl := hx.length
  refine ⟨⟨_, hq⟩, fun p n => ?_⟩
  refine lqg (fun i => (cs[i]?.map fun c => !c.isStep).getD false) (fun i => (cs[i]?.map fun c => tV c.name).getD .non) hq (aqu (by omega)) n (fun i x hi H1 R s1 hR => ?_) (fun i x hi ht H1 T s1 hT => ?_) (fun H1 s1 hp1 => ?_)
  ·obtain ⟨c, q, hc, rfl, hv⟩ := hx.get hi
   walk_at "rd"
   have := hR H1 (Same.refl _)
   rw [hc] at this
   exact ⟨c, q, rfl, s1.tup hv, _, rfl, this⟩
  ·obtain ⟨c, q, hc, rfl, hv⟩ := hx.get hi
   rw [hc] at ht
   walk_at "rd"
   have := hT H1 (Same.refl _)
   rw [hc] at this
   exact ⟨c, q, rfl, s1.tup hv, by simpa using ht, this⟩
  ·refine k p H1 s1 ?_
   rw [hp1, hl, gqu (fun c : Pc => !c.isStep) (fun c : Pc => tV c.name) .non cs]
   unfold gapsM
   rw [List.map_map]
   rfl
theorem dq6 (g : G K mg) : FnOk P w K mg base CX0 2 g.dqY g.dqi ["_law_cell"] (jqT K) := by
 refine g.cqM.ok cqk (fun vs H Q E h => ?_) (fun cdv A outer s H vs Q E hr h => ?_)
 ·obtain ⟨c, rfl, _⟩ := h; rfl
 ·obtain ⟨c, rfl, k⟩ := h
  refine ⟨_, (aqe (aqs (i := 1) cqk.nd rfl (Or.inl rfl) (aqy (aqh (K := K) rfl) (aqU (aqa aqc (aqa aqc (aqa aqc (aqa aqc (aqa (nq3 (iqP g) (hr.mono (by decide)) rfl g.gqq g.eqc.kp g.gqy .nil pass0) (aqa aqc aqb))))))) (aqj aqL (pv 0) aqd) (fun _ _ => rfl)))
   (aqe (aqs (i := 2) cqk.nd rfl (Or.inl rfl) aqc)
   (aqe (jqL PassesOwn.never rfl (fqN rfl g.hqE (aqa (aqj aqL (aqj bqd (pv 0) aqd) aqd) aqb)) (dqM (i := 3) cqk.nd rfl (Or.inl rfl))
   (aqf (aqs (i := 2) cqk.nd rfl (Or.inl rfl) (aqj (aqi (K := K)) (pv 2) (aqy (aqh (K := K) rfl) (pv 1) (aqj aqL (aqj bqd (pv 0) (aqj (aqi (K := K)) aqd (aqj fqe (aqj fqe aqd (pv 3)) (pv 3)))) (aqt (aqI (K := K) rfl) rfl g.eqj PySem.boot_len (aqa (pv 1) aqb))) (fun _ _ => rfl))))))
   (aqf (aql (pv 2)))))), ?_⟩
  walk_at "rd"
  refine ⟨by decide, fun p H1 n1 s1 e1 => ⟨by decide, ?_⟩⟩
  obtain ⟨v, hv, hat⟩ := oqu [V.str (Str.ofString "ab"), V.str (Str.ofString "a1"), V.str (Str.ofString "0123456789"), V.str (Str.ofString "a."), V.str { cps := SG.toArray }, V.str (Str.ofString "./{}~ab")] c 6 (by decide) (by decide)
  have hpool : ∃ l : List Nat, v = tV l ∧ 0 < l.length ∧ l.length ≤ 94 ∧ ∀ c ∈ l, isSg c = true := by
   simp only [List.mem_cons, List.not_mem_nil, or_false] at hv
   rcases hv with rfl | rfl | rfl | rfl | rfl | rfl
   ·exact ⟨[97, 98], congrArg V.str (by decide +kernel), by decide, by decide, by decide⟩
   ·exact ⟨[97, 49], congrArg V.str (by decide +kernel), by decide, by decide, by decide⟩
   ·exact ⟨[48, 49, 50, 51, 52, 53, 54, 55, 56, 57], congrArg V.str (by decide +kernel), by decide, by decide, by decide⟩
   ·exact ⟨[97, 46], congrArg V.str (by decide +kernel), by decide, by decide, by decide⟩
   ·exact ⟨SG, rfl, by rw [oqd]; decide, by rw [oqd]; decide, fun c hc => oqb.mp hc⟩
   ·exact ⟨[46, 47, 123, 125, 126, 97, 98], congrArg V.str (by decide +kernel), by decide, by decide, by decide⟩
  obtain ⟨pl, rfl, hp0, hp94, hpl⟩ := hpool
  refine ⟨_, _, .inl (.of e1), hat, ⟨by decide, by decide⟩, by decide, by omega, by omega, ?_⟩
  refine eqX (fun j σ H2 => H2 = H1 ∧ ∃ (w : List Nat) (v3 : Option V), σ = [some (.int c), some (tV pl), some (tV w), v3] ∧ w.length = j ∧ ∀ c ∈ w, isSg c = true) ⟨rfl, [], none, rfl, rfl, by simp⟩ ?_ ?_
  ·rintro j σ H2 hj ⟨rfl, w, v3, rfl, hwl, hw⟩
   have hj5 : j = 0 ∨ j = 1 ∨ j = 2 ∨ j = 3 ∨ j = 4 := by omega
   have hb : 0 < 30 + 17 * (0 + (j : Int)) * (0 + (j : Int)) ∧ 30 + 17 * (0 + (j : Int)) * (0 + (j : Int)) < 1073741824 := by
    rcases hj5 with rfl | rfl | rfl | rfl | rfl <;> decide
   obtain ⟨d, hd, hda⟩ := kql pl (c / (30 + 17 * (0 + (j : Int)) * (0 + (j : Int)))) (pl.length : Int) (by omega) (by omega)
   walk_at "rd"
   refine ⟨.inl ⟨by decide, by decide⟩, .inr ⟨by omega, by omega⟩, hb, aqu (by omega), by omega, d, aqu (by omega), hda, aqu (by omega), w ++ [d], _, ⟨by simp, rfl⟩, by rw [List.length_append, List.length_singleton, hwl], fun e he => ?_⟩
   rcases List.mem_append.mp he with z | z
   ·exact hw e z
   ·rw [List.mem_singleton.mp z]; exact hpl d hd
  ·rintro σ H2 ⟨rfl, w, v3, rfl, hwl, hw⟩
   walk_at "rd"
   exact k w H2 (by omega) hw s1
theorem cqP (g : G K mg) : FnOk P w K mg base CX0 2 g.cqa g.bqy ["_law_text_here", "_law_cells"] (hqc K) := by
 refine g.bqj.ok aqA (fun vs H Q E h => ?_) (fun cdv A outer s H vs Q E hr h => ?_)
 ·obtain ⟨s, q, cs, rfl, _⟩ := h; rfl
 ·obtain ⟨sx, q, cs, rfl, hq, hcl, hsg, hsl, k⟩ := h
  refine ⟨_, (aqe (aqs (i := 2) aqA.nd rfl (Or.inl rfl) aqc)
   (aqe (aqs (i := 3) aqA.nd rfl (Or.inl rfl) aqc)
   (aqe (jqL PassesOwn.never rfl (mq3 rfl g.gq9 (aqa (pv 0) aqb)) (pqh (n := 2) (K := K) rfl rfl (gqO (dqM (i := 4) aqA.nd rfl (Or.inl rfl)) (gqO (dqM (i := 5) aqA.nd rfl (Or.inl rfl)) mqs)))
   (aqe (aqs (i := 6) aqA.nd rfl (Or.inl rfl) aqd)
   (aqJ (aqF (aqm (kqW hr.units) (pv 1) (aqU aqb) (nomark _))
    (aqf (aqs (i := 6) aqA.nd rfl (Or.inl rfl) (aqj bqd (aqy (aqh (K := K) rfl) (pv 1) (aqj aqL (pv 4) (aqt (aqI (K := K) rfl) rfl g.eqj PySem.boot_len (aqa (pv 1) aqb))) (fun _ _ => rfl)) (aqj (aqi (K := K)) (pv 4) aqd)))) aqr)
   (aqf (aqF (PW.pt (eqe (PW.pt (jqQ (aqm hqO (pv 5) (pv 2) (by with_unfolding_all rfl)) (hqF (aqm jqX (aqj aqL (pv 6) aqd) aqd (nomark _))))) (dqq (PW.pt (jqQ (aqm hqO (pv 5) aqc (by with_unfolding_all rfl)) (hqF (aqm aq3 (aqj aqL (pv 6) aqd) aqd (nomark _))))))))
    (aqf (aqs (i := 3) aqA.nd rfl (Or.inl rfl) (aqj (aqi (K := K)) (pv 3) (pv 5)))) (aqf (aqs (i := 3) aqA.nd rfl (Or.inl rfl) (aqj (aqi (K := K)) (pv 3) (aqn (iq4 g) (hr.mono (by decide)) rfl g.hqe g.fqd.kp g.hqr .nil pass0 (aqa (pv 5) (aqa (bqb aq3 (aqj aqL (aqj bqd (pv 6) aqd) aqd) aqd (nomark _)) aqb)))))))))))
   (aqf (aql (pv 3)))))), ?_⟩
  have eP : Str.ofString "abcdefghijklmnopqrstuvwxyzABCDEFGHIJKLMNOPQRSTUVWXYZ0123456789-_." = ⟨plS.toArray⟩ := (bqq _).symm
  have eF : Str.ofString "!$'()*,;@&=+" = ⟨frS.toArray⟩ := (bqq _).symm
  rw [eP, eF]
  walk_at "rd"
  refine ⟨?_, ?_⟩
  ·rw [List.all_toArray, List.all_eq_true]
   exact fun c hc => decide_eq_true (by have := dqV (hsg c hc); omega)
  refine kq9 (x := ⟨sx.toArray⟩) (fun i σ H' => Same H H' ∧ ∃ (w : List Nat) (v4 v5 v6 : Option V), σ = [some (tV sx), some (.ref q), some (.str ⟨plS.toArray⟩), some (tV w), v4, v5, v6] ∧ WrT frS (sx.take i) w ∧ w.length ≤ 3 * i ∧ (cs = [] → w = wr (sx.take i))) ⟨Same.refl _, [], none, none, none, rfl, .nil, Nat.zero_le _, fun _ => rfl⟩ ?_ ?_
  rotate_left
  ·rintro σ H1 ⟨s1, w, v4, v5, v6, rfl, hw, hwl, h0⟩
   walk_at "rd"
   have e : sx.take (⟨sx.toArray⟩ : Str).cps.size = sx := List.take_length
   rw [e] at hw h0
   exact k w H1 hw hwl h0 s1
  rintro i c σ H1 T1 hci ⟨s1, w, v4, v5, v6, rfl, hw, hwl, h0⟩ hT1
  have hci : sx[i]? = some c := by simpa using hci
  have hi : i < sx.length := (List.getElem?_eq_some_iff.mp hci).1
  have hc := hsg c (List.mem_of_getElem? hci)
  have hc' := dqV hc
  have et : sx.take (i + 1) = sx.take i ++ [c] := by rw [List.take_add_one, hci]; rfl
  have sT := s1.trans (aqG (o := .tup [.int (i : Int), .str ⟨#[c]⟩]) hT1)
  walk_at "rd"
  refine ⟨T1, _, rfl, .of aqk, rfl, _, _, rfl, _, _, rfl, rfl, ?_⟩
  generalize upd H1 T1 (.tup [.int (i : Int), .str ⟨#[c]⟩]) = H2 at sT
  walk_at "rd"
  refine ⟨fun σ H3 => Same H H3 ∧ ∃ z : Int, σ = [some (tV sx), some (.ref q), some (.str ⟨plS.toArray⟩), some (tV w), some (.int (i : Int)), some (.str ⟨#[c]⟩), some (.int z)] ∧ (cs = [] → z = 0), ⟨by decide, fun p3 H3 n3 s3 e3 => ?_⟩, ?_⟩
  ·have u3 := sT.trans s3
   have lay : SeqAt.shaped (.list (cs.map PyData.int)) = true := (layL (n := 0) fun d hd => by
    obtain ⟨z, _, rfl⟩ := List.mem_map.mp hd
    exact LayAt.iD (o := some z)).shaped (by decide)
   refine ⟨.list (cs.map PyData.int), .list [], .lst (u3 _ _ hq) hqg, .lst e3 .nil, lay, by decide +kernel, _, rfl, ?_⟩
   rw [iqY, List.isEmpty_map]
   refine ite2 (fun hne => ?_) (fun hne => ⟨u3, 0, rfl, fun _ => rfl⟩)
   have hpos : 0 < cs.length := by
    cases cs with
    | nil => cases hne
    | cons a b => simp
   obtain ⟨j, hj, ej⟩ : ∃ j : Nat, j < cs.length ∧ (i : Int) % ((cs.map V.int).length : Int) = (j : Int) := by
    rw [List.length_map]
    have h1 := Int.emod_nonneg (i : Int) (show (cs.length : Int) ≠ 0 by omega)
    have h2 := Int.emod_lt_of_pos (i : Int) (show 0 < (cs.length : Int) by omega)
    exact ⟨((i : Int) % (cs.length : Int)).toNat, by omega, by omega⟩
   refine ⟨_, .inl (.of (u3 _ _ hq)), by rw [List.length_map]; omega, ?_⟩
   rw [ej]
   obtain ⟨z, hz⟩ : ∃ z, cs[j]? = some z := ⟨_, List.getElem?_eq_getElem hj⟩
   refine ⟨_, _, .inl (.of (u3 _ _ hq)), aqg (by rw [List.getElem?_map, hz]; rfl), ?_⟩
   walk_at "rd"
   refine ⟨⟨by omega, by omega⟩, u3, fun z' => ?_⟩
   rw [z'] at hpos
   cases hpos
  rintro σ H3 ⟨s3, z, rfl, hz⟩
  have wl : w.length ≤ 300 := by omega
  have ew : wr (sx.take i ++ [c]) = wr (sx.take i) ++ wr1 c := by
   rw [qqW]
   simp [wr]
  have n126 : c ∈ frS → c ≠ 126 := fun h z => by rw [z] at h; exact absurd h (by decide +kernel)
  have self : (isPl c = true ∨ c ∈ frS) → (cs = [] → isPl c = true) → w.length + 1 ≤ sizeLine ∧ Same H H3 ∧ ∃ (w_1 : List Nat) (v4 v5 v6 : Option V), ((⟨(w ++ [c]).toArray⟩ : Str) = ⟨w_1.toArray⟩ ∧ some (V.int (i : Int)) = v4 ∧ some (V.str ⟨#[c]⟩) = v5 ∧ some (V.int z) = v6) ∧ WrT frS (sx.take (i + 1)) w_1 ∧ w_1.length ≤ 3 * (i + 1) ∧ (cs = [] → w_1 = wr (sx.take (i + 1))) := fun h1 h2 => by
   refine ⟨aqu (by omega), s3, w ++ [c], _, _, _, ⟨rfl, rfl, rfl, rfl⟩, ?_, by rw [List.length_append, List.length_singleton]; omega, fun h => ?_⟩
   ·rw [et]
    refine mqc hw (.self h1 ?_ .nil)
    rcases h1 with h | h
    ·exact fun z => by rw [z] at h; exact absurd h (by decide +kernel)
    ·exact n126 h
   ·rw [et, ew, h0 h, show wr1 c = [c] from if_pos (h2 h)]
  have pr : (cs = [] → isPl c = false) → CDiv z 4 ∧ (0 : Int) < 2 ∧ gqB [V.str ⟨#[c]⟩, V.bl (decide (z / 4 % 2 = 1))] H3 (fun y H2 => rAddS K (tV w) y H2 fun x H1 => Same H H1 ∧ ∃ (w : List Nat) (v4 v5 v6 : Option V), (x = tV w ∧ some (V.int (i : Int)) = v4 ∧ some (V.str ⟨#[c]⟩) = v5 ∧ some (V.int z) = v6) ∧ WrT frS (sx.take (i + 1)) w ∧ w.length ≤ 3 * (i + 1) ∧ (cs = [] → w = wr (sx.take (i + 1)))) E0 := fun h1 => by
   refine ⟨⟨by decide, by decide⟩, by decide, c, _, rfl, hc, fun a b hab hg => hqH.mpr ⟨aqu (by rw [aq8, aq8]; simp only [List.length_cons, List.length_nil]; omega), ?_⟩⟩
   rw [cql]
   refine ⟨s3, w ++ [126, a, b], _, _, _, ⟨rfl, rfl, rfl, rfl⟩, ?_, by rw [List.length_append]; simp only [List.length_cons, List.length_nil]; omega, fun h => ?_⟩
   ·rw [et]
    exact mqc hw (.pair hab .nil)
   ·obtain ⟨e1, e2⟩ := hg (by rw [hz h]; decide)
    rw [et, ew, h0 h, show wr1 c = [126, hexd (c / 16), hexd (c % 16)] from if_neg (by rw [h1 h]; decide), e1, e2]
  have hpl := rqx (c := c) (by omega)
  walk_at "rd"
  refine ite2 (fun h1 => ⟨by decide, ite2 (fun _ => self (.inl (hpl.mp h1)) fun _ => hpl.mp h1) (fun h2 => ?_)⟩) (fun h1 => ?_)
  ·have no : cs = [] → isPl c = false := fun h => absurd (show z % 4 < 2 by rw [hz h]; decide) h2
   exact ite2 (fun h3 => ⟨by decide, ite2 (fun _ => self (.inr h3) fun _ => hpl.mp h1) (fun _ => pr no)⟩) (fun _ => pr no)
  ·have no : cs = [] → isPl c = false := fun _ => Bool.eq_false_iff.mpr fun z => h1 (hpl.mpr z)
   exact ite2 (fun h3 => ⟨by decide, ite2 (fun h4 => self (.inr h3) fun h => absurd h4 (by rw [hz h]; decide)) (fun _ => pr no)⟩) (fun _ => pr no)
theorem hqI (g : G K mg) : FnOk P w K mg base CX0 2 g.cqh g.bqz ["_law_text_here", "_law_way", "_law_cell", "_law_name"] (hqK K) := by
 refine g.dqp.ok bqS (fun vs H Q E h => ?_) (fun cdv A outer s H vs Q E hr h => ?_)
 ·obtain ⟨ts, w, c, n, rfl, _⟩ := h; rfl
 ·obtain ⟨ts, w, c, n, rfl, w0, w1, hn, h0, hf, hl, hc, h47, hask, k⟩ := h
  refine ⟨_, (aqe (aqs (i := 4) bqS.nd rfl (Or.inl rfl) (cqC (K := K) rfl PySem.F.plainAttrs_str PySem.F.slot_str_split PySem.F.type_str_split iqy (pv 0) (aqa aqc aqb)))
   (aqe (aqs (i := 5) bqS.nd rfl (Or.inl rfl) (aqj (aqi (K := K)) aqd (aqj aqL (pv 2) (aqt (mqe rfl) rfl g.qqY PyProof.Rows.boot_max (aqa aqd (aqa (aqj jqi (aqt (aqI (K := K) rfl) rfl g.eqj PySem.boot_len (aqa (pv 4) aqb)) aqd) aqb))))))
   (aqJ (aqs (i := 6) bqS.nd rfl (Or.inl rfl) (aqn (gqK g) (hr.mono (by decide)) rfl g.eqa g.cqI.kp g.eqz .nil pass0 (aqa (aqj bqd (pv 2) aqd) (aqa (pv 3) aqb))))
   (aqe (aqF (aqm jqX (pv 1) aqd (nomark _))
    (aqf (aql (cqC (K := K) rfl PySem.F.plainAttrs_str PySem.F.slot_str_join PySem.F.type_str_join (iqO (K := K) rfl) aqc (aqa (aqj (aqi (K := K)) (aqj (aqi (K := K)) (bqO (fqL (K := K) rfl) (pv 4) dqJ (bqU (pv 5))) (aqU (aqa (pv 6) (aqa aqc aqb)))) (bqO (fqL (K := K) rfl) (pv 4) (bqU (pv 5)) dqJ)) aqb)))) aqr)
   (aqe (aqF (aqm aq3 (pv 1) aqd (nomark _))
    (aqf (aql (bqO (hqk (K := K) rfl) (pv 0) (bqU aqd) dqJ))) aqr)
   (aqe (aqF (aqm aq3 (pv 1) aqd (nomark _))
    (aqf (aql (aqj (aqi (K := K)) (pv 0) aqc))) aqr)
   (aqe (aqF (aqm aq3 (pv 1) aqd (nomark _))
    (aqf (aql (aqj (aqi (K := K)) aqc (pv 0)))) aqr)
   (aqe (aqF (aqm aq3 (pv 1) aqd (nomark _))
    (aqf (aql aqc)) aqr)
   (aqe (aqF (aqm aq3 (pv 1) aqd (nomark _))
    (aqf (aql (aqj fqe aqc (aqj (aqi (K := K)) aqd (aqj aqL (pv 2) aqd))))) aqr)
   (aqe (aqF (aqm aq3 (pv 1) aqd (nomark _))
    (aqf (aql (aqj (aqi (K := K)) (aqj (aqi (K := K)) (aqj (aqi (K := K)) (aqj (aqi (K := K)) aqc (pv 3)) aqc) (pv 3)) aqc))) aqr)
   (aqe (aqF (aqm aq3 (pv 1) aqd (nomark _))
    (aqf (aql (aqj (aqi (K := K)) aqc (pv 0)))) aqr)
   (aqe (aqF (aqm aq3 (pv 1) aqd (nomark _))
    (aqf (aql (aqj (aqi (K := K)) (pv 0) aqc))) aqr)
   (aqe (aqF (aqm aq3 (pv 1) aqd (nomark _))
    (aqf (aql (aqy (aqh (K := K) rfl) (aqU (aqa aqc (aqa aqc (aqa aqc (aqa aqc (aqa aqc (aqa aqc (aqa aqc (aqa aqc aqb))))))))) (aqj aqL (pv 2) aqd) (fun _ _ => rfl)))) aqr)
   (aqf (aql (aqy (aqh (K := K) rfl) (aqU (aqa dqu (aqa aqd (aqa jqk (aqa (aqU (aqa aqc aqb)) (aqa (aqV (aqa aqc aqb)) (aqa nqA (aqa aqd (aqa (aqV (aqa (aqV aqb) (aqa jqk aqb))) aqb))))))))) (aqj aqL (pv 2) aqd) (fun _ _ => rfl))))))))))))))))), ?_⟩
  have bs : Str.ofString "/" = ⟨[47].toArray⟩ := by decide +kernel
  have bb : Str.ofString "//" = ⟨[47, 47].toArray⟩ := by decide +kernel
  have b1 : Str.ofString "a" = ⟨[97].toArray⟩ := by decide +kernel
  have b2 : Str.ofString "/{a:rest}/b" = ⟨(47 :: joinT 47 [[123, 97, 58, 114, 101, 115, 116, 125], [98]]).toArray⟩ := by decide +kernel
  have b3 : Str.ofString "/a" = ⟨[47, 97].toArray⟩ := by decide +kernel
  have b4 : Str.ofString "/{" = ⟨[47, 123].toArray⟩ := by decide +kernel
  have b5 : Str.ofString "}/x{" = ⟨[125, 47, 120, 123].toArray⟩ := by decide +kernel
  have b6 : Str.ofString "}" = ⟨[125].toArray⟩ := by decide +kernel
  have b7 : Str.ofString " " = ⟨[32].toArray⟩ := by decide +kernel
  have b8 : Str.ofString "?" = ⟨[63].toArray⟩ := by decide +kernel
  rw [bs]
  have e0 : 47 :: joinT 47 ts = joinT 47 ([] :: ts) := by
   cases ts with
   | nil => exact absurd rfl h0
   | cons a b => rfl
  have hjl : (joinT 47 ts).length ≤ 13 * 701 := by
   have := (fqD 47 700 (ws := ts) fun t ht => (hc t ht).1).1
   have : ts.length * 701 ≤ 13 * 701 := Nat.mul_le_mul_right _ hl
   omega
  have hf0 : Free 47 ([] :: ts) := fun s hs c hc => by
   rcases List.mem_cons.mp hs with rfl | z
   ·cases hc
   ·exact hf s z c hc
  walk_at "rd"
  refine ⟨by omega, fun pt nt => ?_⟩
  rw [show Txt.split ⟨(47 :: joinT 47 ts).toArray⟩ ⟨#[47]⟩ = ([] :: ts).map mkS by rw [e0]; exact gqo hf0 (by simp), List.map_map]
  have s1 := aqG (o := .lst (([] :: ts).map (V.str ∘ mkS))) nt
  generalize hH : upd H pt (.lst (([] :: ts).map (V.str ∘ mkS))) = H1 at s1
  have ht1 : H1 pt = some (.lst (([] :: ts).map tV)) := hH ▸ aqk
  have hpos : 0 < ts.length := List.length_pos_iff.mpr h0
  refine ⟨_, .inl (.of ht1), 1, _, ⟨rfl, rfl⟩, by split <;> omega, ?_⟩
  obtain ⟨at', hat1, hat2, eat⟩ : ∃ at' : Nat, at' < ts.length ∧ 1 + c % (if (((([] :: ts).map tV).length : Int) - 1 > 1) then ((([] :: ts).map tV).length : Int) - 1 else 1) = ((at' + 1 : Nat) : Int) ∧ True := by
   rw [List.length_map, List.length_cons]
   have e : (if (((ts.length + 1 : Nat) : Int) - 1 > 1) then ((ts.length + 1 : Nat) : Int) - 1 else 1) = (ts.length : Int) := by
    split <;> omega
   rw [e]
   have h1 := Int.emod_nonneg c (show (ts.length : Int) ≠ 0 by omega)
   have h2 := Int.emod_lt_of_pos c (show 0 < (ts.length : Int) by omega)
   exact ⟨(c % (ts.length : Int)).toNat, by omega, by omega, trivial⟩
  rw [hat2]
  refine ⟨fun σ H2 => Same H H2 ∧ ∃ od : List Nat, OddT od ∧ H2 pt = some (.lst (([] :: ts).map tV)) ∧ σ = [some (tV (47 :: joinT 47 ts)), some (.int w), some (.int c), some (tV n), some (.ref pt), some (.int ((at' + 1 : Nat) : Int)), some (tV od)], ⟨⟨by decide, by decide⟩, _, n, rfl, hn, fun od H2 ho s2 => ⟨s1.trans s2, od, ho, s2 _ _ ht1, rfl⟩⟩, ?_⟩
  rintro σ H2 ⟨s2, od, ho, ht2, rfl⟩
  walk_at "rd"
  have hlen := hn.1.2
  have hn47 : ∀ c ∈ n, c ≠ 47 ∧ c < 128 := fun c hc => by have := eq9 hn.2 c hc; omega
  have hts : ∀ t ∈ ts, (∀ c ∈ t, c ≠ 47 ∧ c < 128) ∧ t.length ≤ 700 := fun t ht => ⟨fun c h => ⟨hf t ht c h, (hc t ht).2 c h⟩, (hc t ht).1⟩
  have np : ∀ (X : List (List Nat)) (H' : Hp), X ≠ [] → X.length ≤ 100 → (∀ t ∈ X, (∀ c ∈ t, c ≠ 47 ∧ c < 128) ∧ t.length ≤ 800) → patD (rptD X) = false → NoPt K H' (tV (47 :: joinT 47 X)) := fun X H' a1 a2 a3 a4 => .inr (.inr ⟨X, rfl, a1, fun t ht c h => ((a3 t ht).1 c h).1, a2, fun t ht => ⟨(a3 t ht).2, fun c h => ((a3 t ht).1 c h).2⟩, a4⟩)
  have in2 : ∀ (A : List (List Nat)) (x y : List Nat) (B : List (List Nat)), (∀ t ∈ A, t ∈ ts) → (∀ t ∈ B, t ∈ ts) → (∀ c ∈ x, c ≠ 47 ∧ c < 128) → x.length ≤ 800 → (∀ c ∈ y, c ≠ 47 ∧ c < 128) → y.length ≤ 800 → ∀ t ∈ A ++ x :: y :: B, (∀ c ∈ t, c ≠ 47 ∧ c < 128) ∧ t.length ≤ 800 := fun A x y B hA hB x1 x2 y1 y2 t ht => by
   have ot : t ∈ ts → (∀ c ∈ t, c ≠ 47 ∧ c < 128) ∧ t.length ≤ 800 := fun h => ⟨(hts t h).1, by have := (hts t h).2; omega⟩
   rcases List.mem_append.mp ht with z | z
   ·exact ot (hA t z)
   ·rcases List.mem_cons.mp z with rfl | z
    ·exact ⟨x1, x2⟩
    ·rcases List.mem_cons.mp z with rfl | z
     ·exact ⟨y1, y2⟩
     ·exact ot (hB t z)
  have nil47 : ∀ c ∈ ([] : List Nat), c ≠ 47 ∧ c < 128 := fun c h => absurd h List.not_mem_nil
  refine ite2 (fun _ => ?_) (fun _ => ?_)
  ·refine ⟨_, .of ht2, fun p3 H3 n3 s3 e3 => ⟨by decide, fun p4 H4 n4 s4 e4 => ?_⟩⟩
   rw [nqU, ← List.map_take, List.take_succ_cons] at e3
   refine .inl ⟨_, _, s4 _ _ e3, e4, aqu (by rw [List.length_map, List.length_cons, List.length_take]; show _ + 2 ≤ _; omega), fun p5 H5 n5 s5 e5 => ⟨_, .of (((s3.trans s4).trans s5) _ _ ht2), fun p6 H6 n6 s6 e6 => ?_⟩⟩
   rw [nqs, ← List.map_drop, List.drop_succ_cons] at e6
   refine .inl ⟨_, _, s6 _ _ e5, e6, aqu (by rw [List.length_append, List.length_map, List.length_map, List.length_cons, List.length_take, List.length_drop]; show _ + 2 + _ ≤ _; omega), fun p7 H7 n7 s7 e7 => ?_⟩
   have eX : ((([] :: ts.take at').map tV ++ [tV od, tV [97]]) ++ (ts.drop at').map tV) = (([] :: (ts.take at' ++ od :: [97] :: ts.drop at')).map mkS).map V.str := by
    rw [List.map_map]
    show _ = List.map tV _
    simp
   rw [b1] at e7
   rw [show (([] :: ts.take at').map tV ++ [tV od, .str ⟨[97].toArray⟩]) ++ (ts.drop at').map tV = _ from eX] at e7
   have hX : ∀ t ∈ ts.take at' ++ od :: [97] :: ts.drop at', (∀ c ∈ t, c ≠ 47 ∧ c < 128) ∧ t.length ≤ 800 := in2 _ _ _ _ (fun t ht => List.mem_of_mem_take ht) (fun t ht => List.mem_of_mem_drop ht) ho.2.1 (by have := ho.2.2; omega) (by simp) (by simp)
   have hXl : (ts.take at' ++ od :: [97] :: ts.drop at').length ≤ 15 := by
    simp only [List.length_append, List.length_cons, List.length_take, List.length_drop]
    omega
   have jj := fqD 47 800 (ws := [] :: (ts.take at' ++ od :: [97] :: ts.drop at')) fun t ht => by
    rcases List.mem_cons.mp ht with rfl | z
    ·exact Nat.zero_le _
    ·exact (hX t z).2
   refine ⟨_, p7, _, rfl, rfl, .of e7, ?_, ?_⟩
   ·rw [List.map_map, List.length_map]
    show (List.map ((fun x : Str => x.length) ∘ mkS) _).sum + _ * 1 ≤ _
    rw [show ((fun x : Str => x.length) ∘ mkS) = (fun x : List Nat => x.length) from funext fun x => aq8 x]
    have := jj.2
    rw [List.length_cons] at this ⊢
    generalize (ts.take at' ++ od :: [97] :: ts.drop at').length = m at this hXl ⊢
    generalize (List.map (fun x : List Nat => x.length) ([] :: (ts.take at' ++ od :: [97] :: ts.drop at'))).sum = q at this ⊢
    omega
   ·rw [show Txt.join ⟨#[47]⟩ (([] :: (ts.take at' ++ od :: [97] :: ts.drop at')).map mkS) = _ from kqR 47 _, oqi (by simp)]
    exact k _ _ (s2.trans (s3.trans (s4.trans (s5.trans (s6.trans s7))))) (np _ _ (by simp) (by omega) hX (kqF (by simp) ho.1))
  refine ite2 (fun _ => ⟨aqu (by omega), k _ _ s2 (.inr (.inl ⟨_, rfl, h47⟩))⟩) (fun _ => ?_)
  refine ite2 (fun _ => ?_) (fun _ => ?_)
  ·have e : (47 :: joinT 47 ts) ++ [47, 47] = 47 :: joinT 47 (ts ++ [[], []]) := by
    rw [hql 47 [] [[]] h0]
    simp [joinT, tlT]
   rw [bb, cql, e]
   refine ⟨aqu (by show _ + 2 ≤ _; omega), k _ _ s2 (np _ _ (by simp) (by simp; omega) (in2 ts [] [] [] (fun _ h => h) (fun _ h => absurd h List.not_mem_nil) nil47 (by simp) nil47 (by simp)) (kqF (by simp) jqU))⟩
  refine ite2 (fun _ => ?_) (fun _ => ?_)
  ·have := np ([] :: ts) H2 (by simp) (by simp; omega) (fun t ht => by
    rcases List.mem_cons.mp ht with rfl | z
    ·exact ⟨nil47, by simp⟩
    ·exact ⟨(hts t z).1, by have := (hts t z).2; omega⟩) (kqF (A := []) h0 jqU)
   rw [oqi h0] at this
   exact ⟨aqu (by omega), k _ _ s2 this⟩
  refine ite2 (fun _ => ?_) (fun _ => ?_)
  ·rw [b2]
   exact k _ _ s2 (np _ _ (by simp) (by simp) (by decide +kernel) oq6)
  refine ite2 (fun _ => ?_) (fun _ => ?_)
  ·obtain ⟨j, hj, ej⟩ : ∃ j : Nat, j < 5 ∧ 13 + c % 5 = ((13 + j : Nat) : Int) := ⟨(c % 5).toNat, by omega, by omega⟩
   obtain ⟨m1, m2⟩ := oqL j hj
   rw [ej, b3, m2]
   exact ⟨by decide, m1, k _ _ s2 (np _ _ (by simp) (by simp; omega) (fun t ht => by rw [List.eq_of_mem_replicate ht]; simp) (pqR (by omega)))⟩
  refine ite2 (fun _ => ?_) (fun _ => ?_)
  ·have e : [47, 123] ++ n ++ [125, 47, 120, 123] ++ n ++ [125] = 47 :: joinT 47 [[123] ++ n ++ [125], [120, 123] ++ n ++ [125]] := by simp [joinT, tlT]
   rw [b4, b5, b6, cql, cql, cql, cql, e]
   have L : ∀ l : List Nat, (⟨l.toArray⟩ : Str).length = l.length := fun l => aq8 l
   have hin : ∀ t ∈ [[123] ++ n ++ [125], [120, 123] ++ n ++ [125]], (∀ c ∈ t, c ≠ 47 ∧ c < 128) ∧ t.length ≤ 800 := fun t ht => by
    have hm : ∀ a : List Nat, (∀ c ∈ a, c ≠ 47 ∧ c < 128) → ∀ c ∈ a ++ n ++ [125], c ≠ 47 ∧ c < 128 := fun a ha c h => by
     rcases List.mem_append.mp h with z | z
     ·rcases List.mem_append.mp z with y | y
      ·exact ha c y
      ·exact hn47 c y
     ·rw [List.mem_singleton.mp z]; decide
    simp only [List.mem_cons, List.not_mem_nil, or_false] at ht
    rcases ht with rfl | rfl
    ·exact ⟨hm _ (by simp), by simp; omega⟩
    ·exact ⟨hm _ (by simp), by simp; omega⟩
   refine ⟨aqu (by simp only [L, List.length_append, List.length_cons, List.length_nil]; omega), aqu (by simp only [L, List.length_append, List.length_cons, List.length_nil]; omega), aqu (by simp only [L, List.length_append, List.length_cons, List.length_nil]; omega), aqu (by simp only [L, List.length_append, List.length_cons, List.length_nil]; omega), k _ _ s2 (np _ _ (by simp) (by simp) hin (nqr hn))⟩
  refine ite2 (fun _ => ?_) (fun _ => ?_)
  ·rw [b7, cql]
   exact ⟨aqu (by show 1 + _ ≤ _; omega), k _ _ s2 (.inr (.inl ⟨_, rfl, by simp⟩))⟩
  refine ite2 (fun _ => ?_) (fun _ => ?_)
  ·rw [b8, cql]
   obtain ⟨A, l, rfl⟩ : ∃ A l, ts = A ++ [l] := ⟨_, _, (List.dropLast_concat_getLast h0).symm⟩
   have e : (47 :: joinT 47 (A ++ [l])) ++ [63] = 47 :: joinT 47 (A ++ [l ++ [63]]) := by
    cases A with
    | nil => simp [joinT, tlT]
    | cons a A => rw [hql 47 l [] (by simp), hql 47 (l ++ [63]) [] (by simp)]; simp [joinT, tlT]
   rw [e]
   refine ⟨aqu (by show _ + 1 ≤ _; omega), k _ _ s2 (np _ _ (by simp) (by simp at hl ⊢; omega) (fun t ht => ?_) (pqg (by simp) (hask l (by simp))))⟩
   rcases List.mem_append.mp ht with z | z
   ·have := hts t (List.mem_append_left _ z)
    exact ⟨this.1, by omega⟩
   ·rw [List.mem_singleton.mp z]
    have := hts l (by simp)
    refine ⟨fun c h => ?_, by simp; omega⟩
    rcases List.mem_append.mp h with y | y
    ·exact this.1 c y
    ·rw [List.mem_singleton.mp y]; decide
  have ns : ∀ (z : Str) (H' : Hp), decide (z.cps.toList.take 1 ≠ [47]) = true → NoPt K H' (.str z) := fun z H' h => .inr (.inl ⟨z.cps.toList, congrArg V.str (bqq z).symm, of_decide_eq_true h⟩)
  obtain ⟨j, hj, ej⟩ : ∃ j : Nat, j < 8 ∧ c % 8 = (j : Int) := ⟨(c % 8).toNat, by omega, by omega⟩
  rw [ej]
  refine ite2 (fun _ => ⟨by decide, fun p3 H3 n3 s3 e3 => ⟨by decide, ?_⟩⟩) (fun _ => ?_)
  ·have key : ∃ v : V, [V.str ⟨#[]⟩, V.str (Str.ofString "a"), V.str (Str.ofString "{a}"), V.str (Str.ofString "a/"), V.str (Str.ofString "~2f"), V.str (Str.ofString "."), V.str (Str.ofString "x:/a"), V.str (Str.ofString "//")][j]? = some v ∧ NoPt K H3 v := by
    match j, hj with
    | 0, _ => exact ⟨_, rfl, ns _ _ (by decide +kernel)⟩
    | 1, _ => exact ⟨_, rfl, ns _ _ (by decide +kernel)⟩
    | 2, _ => exact ⟨_, rfl, ns _ _ (by decide +kernel)⟩
    | 3, _ => exact ⟨_, rfl, ns _ _ (by decide +kernel)⟩
    | 4, _ => exact ⟨_, rfl, ns _ _ (by decide +kernel)⟩
    | 5, _ => exact ⟨_, rfl, ns _ _ (by decide +kernel)⟩
    | 6, _ => exact ⟨_, rfl, ns _ _ (by decide +kernel)⟩
    | 7, _ => exact ⟨_, rfl, by rw [bb]; exact np [[], []] _ (by simp) (by simp) (by simp) (kqF (A := []) (by simp) jqU)⟩
   obtain ⟨v, e, hv⟩ := key
   exact ⟨_, v, .inl (.of e3), aqg e, k _ _ (s2.trans s3) hv⟩
  clear np in2 ns hask h47 hts hn47
  refine ⟨by decide, fun p3 H3 n3 s3 e3 => ⟨by decide, fun p4 H4 n4 s4 e4 p5 n5 => ?_⟩⟩
  have s5 := aqG (o := .dK []) n5
  have e5 : upd H4 p5 (.dK []) p5 = some (.dK []) := aqk
  refine ⟨by decide, fun p6 H6 n6 s6 e6 => ⟨by decide, fun p7 H7 n7 s7 e7 => ⟨by decide, fun p8 H8 n8 s8 e8 => ⟨by decide, ?_⟩⟩⟩⟩
  have u6 := s6.trans (s7.trans s8)
  have kt : ∀ T, T ∈ ["NoneType", "bool", "int", "list", "tuple"] → W.kitOne K (.type T) (.type "str") = some false := fun T hT => by
   simp only [List.mem_cons, List.not_mem_nil, or_false] at hT
   rcases hT with rfl | rfl | rfl | rfl | rfl
   ·exact dqC K "NoneType" (by decide) "str" (by decide)
   ·exact dqC K "bool" (by decide) "str" (by decide)
   ·exact dqC K "int" (by decide) "str" (by decide)
   ·exact dqC K "list" (by decide) "str" (by decide)
   ·exact dqC K "tuple" (by decide) "str" (by decide)
  have key : ∃ v : V, [V.non, V.int 5, V.bl true, V.ref p3, V.ref p4, V.ref p5, V.int 0, V.ref p7][j]? = some v ∧ NoPt K H8 v := by
   match j, hj with
   | 0, _ => exact ⟨_, rfl, .inl ⟨_, .non, kt "NoneType" (by decide)⟩⟩
   | 1, _ => exact ⟨_, rfl, .inl ⟨_, .int _, kt "int" (by decide)⟩⟩
   | 2, _ => exact ⟨_, rfl, .inl ⟨_, .bl _, kt "bool" (by decide)⟩⟩
   | 3, _ => exact ⟨_, rfl, .inl ⟨_, .lst (u6 _ _ (s5 _ _ (s4 _ _ e3))), kt "list" (by decide)⟩⟩
   | 4, _ => exact ⟨_, rfl, .inl ⟨_, .tup (u6 _ _ (s5 _ _ e4)), kt "tuple" (by decide)⟩⟩
   | 5, _ => exact ⟨_, rfl, .inl ⟨_, .dK (u6 _ _ e5), by with_unfolding_all kernel_rfl⟩⟩
   | 6, _ => exact ⟨_, rfl, .inl ⟨_, .int _, kt "int" (by decide)⟩⟩
   | 7, _ => exact ⟨_, rfl, .inl ⟨_, .tup (s8 _ _ e7), kt "tuple" (by decide)⟩⟩
  obtain ⟨v, e, hv⟩ := key
  exact ⟨_, v, .inl (.of e8), aqg e, k _ _ (s2.trans (s3.trans (s4.trans (s5.trans u6)))) hv⟩
theorem gq5 (g : G K mg) : FnOk P w K mg base CX0 3 g.bq0 g.bqw ["piece", "free"] eqB := by
 refine g.dqn.ok hqb (fun vs H Q E h => ?_) (fun cdv A outer s H vs Q E hr h => ?_)
 ·obtain ⟨c, r, fr, rfl, _⟩ := h; rfl
 ·obtain ⟨c, r, fr, rfl, hl, ha, hcr, k⟩ := h
  refine ⟨_, (aqe (aqF (aqm aq3 (aqy (aqh (K := K) rfl) (pv 0) aqd (fun _ _ => rfl)) aqc (nomark _))
    (aqf (aql (aqn (lqj g) (hr.mono (by decide)) rfl g.jqp g.gq3.kp g.jqj .nil pass0 (aqa (bqO (hqk (K := K) rfl) (pv 0) (bqU aqd) dqJ) aqb)))) aqr)
   (aqe (aqF (PW.pt (eqe (aqm hqO (pv 0) (aqx (v := pql) rfl g.lqP ⟨_, rfl⟩) (by with_unfolding_all rfl)) (dqq (aqm hqO (pv 0) (pv 1) (by with_unfolding_all rfl)))))
    (aqf (aql (pv 0))) aqr)
   (aqf (aql dqu)))), ?_⟩
  by_cases hc : c = 126
  ·subst hc
   rw [jqw] at k
   walk_at "rd"
   refine ⟨126, aqu (by omega), aqg (j := 0) rfl, ?_⟩
   rw [if_pos rfl]
   exact ⟨aqu (by omega), hl, fun d hd => ha d (List.mem_cons_of_mem _ hd), k⟩
  ·have hr0 : r = [] := hcr.resolve_left hc
   subst hr0
   walk_at "rd"
   have hp := kqS c (ha c (by simp))
   rw [kqC hc] at k
   refine ⟨c, by decide, rfl, ?_⟩
   rw [if_neg (qqE hc)]
   refine ite2 (fun h => ?_) (fun h => ?_)
   ·rw [decide_eq_true h] at hp
    rw [← hp, Bool.true_or, if_pos rfl] at k
    exact k
   ·rw [decide_eq_false h] at hp
    rw [← hp, Bool.false_or] at k
    refine ite2 (fun h2 => ?_) (fun h2 => ?_)
    ·rw [if_pos (decide_eq_true h2)] at k
     exact k
    ·rw [if_neg (by simpa using h2)] at k
     exact k
theorem gqe (g : G K mg) : FnOk P w K mg base CX0 3 g.bqr g.bqf ["thing"] gqi := by
 refine g.cqn.ok gqg (fun vs H Q E h => ?_) (fun cdv A outer s H vs Q E hr h => ?_)
 ·obtain ⟨d, v, rfl, _⟩ := h; rfl
 ·obtain ⟨d, v, rfl, hv, hs, k⟩ := h
  refine ⟨_, (aqf (aql (cqo (aqn (gqh g) (hr.mono (by decide)) rfl g.fqx g.eqq.kp g.fqX .nil pass0 (aqa (pv 0) aqb)) (cqX (bqb mqJ (aqt (aqI (K := K) rfl) rfl g.eqj PySem.boot_len (aqa (pv 0) aqb)) aqd (nomark _)))))), ?_⟩
  walk_at "rd"
  refine ⟨d, v, rfl, hv, hs, fun H1 s1 => ?_⟩
  walk_at "rd"
  have k1 := k H1 s1
  cases hv with
  | str x =>
   refine ite2 (fun h => ?_) (fun h => ?_)
   ·walk_at "rd"
    refine ⟨aqu (eqA hs), ?_⟩
    have e : ftx (.str x) = decide ((0 : Int) < (x.length : Int)) := by
     simp only [ftx]
     rw [show x.cps.toList.all isSg = true from h, Bool.true_and]
     exact decide_eq_decide.mpr (by omega)
    rw [e] at k1
    exact k1
   ·rw [show ftx (.str x) = false by simp only [ftx]; rw [show x.cps.toList.all isSg = false from (Bool.not_eq_true _).mp h, Bool.false_and]] at k1
    exact k1
  | _ => exact k1
theorem fqk (g : G K mg) : FnOk P w K mg base CX0 3 g.aqZ g.aqO ["head", "tail"] fqr := by
 refine g.bqH.ok fqf (fun vs H Q E h => ?_) (fun cdv A outer s H vs Q E hr h => ?_)
 ·obtain ⟨d, e, v, u, rfl, _⟩ := h; rfl
 ·obtain ⟨d, e, v, u, rfl, hv, hu, hs, hs', k⟩ := h
  refine ⟨_, (aqf (aql (cqo (aqn (gqh g) (hr.mono (by decide)) rfl g.fqx g.eqq.kp g.fqX .nil pass0 (aqa (pv 0) aqb)) (cqo (aqn (gqh g) (hr.mono (by decide)) rfl g.fqx g.eqq.kp g.fqX .nil pass0 (aqa (pv 1) aqb)) (cqX (bqb lqn (aqj (fqs (K := K) rfl) (pv 0) (pv 1)) aqc (nomark _))))))), ?_⟩
  walk_at "rd"
  refine ⟨d, v, rfl, hv, hs, fun H1 s1 => ⟨_, rfl, ?_⟩⟩
  cases hv with
  | str x =>
   refine ite2 (fun h1 => ⟨e, u, rfl, hu.mono s1, hs', fun H2 s2 => ⟨_, rfl, ?_⟩⟩) (fun h1 => ?_)
   ·cases hu with
    | str y =>
     have k2 := k H2 (s1.trans s2)
     have eE : endsD (.str x) (.str y) = (x.cps.toList.all isSg && y.cps.toList.all isSg && !decide (x.cps.toList ++ y.cps.toList = [])) := rfl
     rw [eE, show x.cps.toList.all isSg = true from h1, Bool.true_and] at k2
     refine ite2 (fun h2 => ?_) (fun h2 => ?_)
     ·rw [show y.cps.toList.all isSg = true from h2, Bool.true_and] at k2
      have hl := eqA hs
      have hl' := eqA hs'
      walk_at "rd"
      refine ⟨Nat.le_trans (Nat.add_le_add hl hl') (by decide), ?_⟩
      have e2 : decide (x ++ y = (⟨#[]⟩ : Str)) = decide (x.cps.toList ++ y.cps.toList = []) := by
       rw [decide_eq_decide, ← bqq x, ← bqq y, cql, bqq, bqq]
       exact jqd
      rw [e2]
      exact k2
     ·rw [show y.cps.toList.all isSg = false from (Bool.not_eq_true _).mp h2, Bool.false_and] at k2
      exact k2
    | _ => exact ite2 (fun z => by cases z) (fun _ => k H2 (s1.trans s2))
   ·have k2 := k H1 s1
    have eE : endsD (.str x) e = false := by
     cases e with
     | str y =>
      show (x.cps.toList.all isSg && y.cps.toList.all isSg && _) = false
      rw [show x.cps.toList.all isSg = false from (Bool.not_eq_true _).mp h1]
      rfl
     | _ => rfl
    rw [eE] at k2
    exact k2
  | _ => exact ite2 (fun z => by cases z) (fun _ => k H1 s1)
theorem fqh (g : G K mg) : FnOk P w K mg base CX0 3 g.aqX g.aqS ["pieces"] (fqn K) := by
 refine g.bqB.ok cqH (fun vs H Q E h => ?_) (fun cdv A outer s H vs Q E hr h => ?_)
 ·obtain ⟨cs, xs, q, rfl, _⟩ := h; rfl
 ·obtain ⟨cs, xs, q, rfl, hq, hx, hl, k⟩ := h
  refine ⟨_, (aqe (aqs (i := 1) cqH.nd rfl (Or.inl rfl) (aqn (kqt g) (hr.mono (by decide)) rfl g.iqg g.gqd.kp g.hq6 .nil pass0 (aqa (pv 0) aqb)))
   (aqf (aql (bqb aq3 (lq3 rfl rfl g.qqo rfl g.eqj PySem.boot_len (aqa (pv 1) aqb)) (aqt (aqI (K := K) rfl) rfl g.eqj PySem.boot_len (aqa (pv 1) aqb)) (nomark _))))), ?_⟩
  walk_at "rd"
  refine ⟨cs, xs, q, rfl, .of hq, hx, hl, fun p1 H1 s1 h1 => ?_⟩
  have hgl := nqT cs
  refine ⟨p1, (gapsM cs).map mkS, rfl, by rw [h1, List.map_map]; rfl, by rw [List.length_map]; omega, ?_⟩
  walk_at "rd"
  refine ⟨_, .inl (.of h1), ?_⟩
  have e : decide ((((fstU ((gapsM cs).map mkS)).length : Nat) : Int) = (((gapsM cs).map tV).length : Int)) = decide ((gapsM cs).Nodup) := by
   have h2 := (eqN _ ((gapsM cs).map mkS) rfl).2
   rw [lqL, List.length_map] at h2
   rw [decide_eq_decide, List.length_map, ← h2]
   omega
  rw [e]
  exact k H1 s1
theorem jqH (g : G K mg) : FnOk P w K mg base CX0 3 g.dqO g.cqY ["_law_cell"] (jqK K) := by
 refine g.fql.ok eqr (fun vs H Q E h => ?_) (fun cdv A outer s H vs Q E hr h => ?_)
 ·obtain ⟨c, rfl, _⟩ := h; rfl
 ·obtain ⟨c, rfl, k⟩ := h
  refine ⟨_, (aqe (aqs (i := 1) eqr.nd rfl (Or.inl rfl) (aqn (dq6 g) (hr.mono (by decide)) rfl g.dqH g.cqM.kp g.dqR .nil pass0 (aqa (pv 0) aqb)))
   (aqJ (aqF (aqm (gqc (K := K) rfl) (pv 1) (aqV (aqa aqc (aqa aqc (aqa aqc aqb)))) (by with_unfolding_all rfl))
    (aqf (aqs (i := 1) eqr.nd rfl (Or.inl rfl) (aqj (aqi (K := K)) (pv 1) (aqy (aqh (K := K) rfl) aqc (aqj aqL (aqj bqd (pv 0) aqd) aqd) (fun _ _ => rfl))))) aqr)
   (aqf (aql (pv 1))))), ?_⟩
  have d1 : Str.ofString ".." = ⟨sUp.toArray⟩ := by decide +kernel
  have d2 : Str.ofString "." = ⟨sStay.toArray⟩ := by decide +kernel
  rw [d1, d2]
  walk_at "rd"
  refine ⟨c, rfl, fun l H1 hl hs s1 => ?_⟩
  refine ⟨fun σ H2 => Same H H2 ∧ ∃ l : List Nat, 0 < l.length ∧ l.length ≤ 5 ∧ (∀ c ∈ l, isSg c = true) ∧ isDot l = false ∧ σ = [some (.int c), some (tV l)], ?_, ?_⟩
  ·refine ⟨by decide, fun p H2 n2 s2 e2 => ?_⟩
   refine ⟨p, _, rfl, .inr (.of e2), rfl, rfl, _, rfl, ?_⟩
   show if (if false then _ else inV (sV l) [sV [], sV sStay, sV sUp]) = true then _ else _
   rw [if_neg (show ¬ false = true by decide), mqi]
   refine ite2 (fun hin => ?_) (fun hin => ?_)
   ·obtain ⟨d, hd, hda⟩ := kql (Str.ofString "ab1z").cps.toList (c / 30) 4 (by decide) (by decide +kernel)
    have hd' : d ≠ 46 ∧ isSg d = true := by
     rw [show (Str.ofString "ab1z").cps.toList = [97, 98, 49, 122] by decide +kernel] at hd
     simp only [List.mem_cons, List.not_mem_nil, or_false] at hd
     rcases hd with rfl | rfl | rfl | rfl <;> decide
    refine ⟨⟨by decide, by decide⟩, by decide, d, by decide +kernel, hda, ?_⟩
    walk_at "rd"
    refine ⟨aqu (by omega), s1.trans s2, l ++ [d], by simp, by simp; omega, fun e he => ?_, nqz l d hd'.1, by simp⟩
    rcases List.mem_append.mp he with z | z
    ·exact hs e z
    ·rw [List.mem_singleton.mp z]; exact hd'.2
   ·simp only [Bool.or_eq_true, decide_eq_true_eq, not_or, Bool.not_eq_true] at hin
    exact ⟨s1.trans s2, l, List.length_pos_iff.mpr hin.1, by omega, hs, hin.2, rfl⟩
  rintro σ H2 ⟨s2, l, h1, h2, h3, h4, rfl⟩
  walk_at "rd"
  exact k l H2 h1 h2 h3 h4 s2
theorem fq4 (g : G K mg) : FnOk P w K mg base CX0 3 g.bqh g.aq2 ["_law_piece_here", "_law_cells"] (fq3 K) := by
 refine g.bqW.ok fqU (fun vs H Q E h => ?_) (fun cdv A outer s H vs Q E hr h => ?_)
 ·obtain ⟨c, p, q, is, rfl, _⟩ := h; rfl
 ·obtain ⟨c, p, q, is, rfl, hp, ok, hn, hq, hl, k⟩ := h
  refine ⟨_, (aqe (aqF (aqm aq3 (aqy (aqh (K := K) rfl) (pv 0) aqd (fun _ _ => rfl)) aqc (nomark _))
    (aqf (aql (aqn (cqP g) (hr.mono (by decide)) rfl g.bq7 g.bqj.kp g.cqd .nil pass0 (aqa (aqy (aqh (K := K) rfl) (pv 0) aqd (fun _ _ => rfl)) (aqa (pv 1) aqb))))) aqr)
   (aqe (aqF (aqm aq3 (aqy (aqh (K := K) rfl) (pv 0) aqd (fun _ _ => rfl)) aqc (nomark _))
    (aqf (aql (aqj (aqi (K := K)) (aqj (aqi (K := K)) (aqj (aqi (K := K)) (aqj (aqi (K := K)) (aqn (cqP g) (hr.mono (by decide)) rfl g.bq7 g.bqj.kp g.cqd .nil pass0 (aqa (aqy (aqh (K := K) rfl) (pv 0) aqd (fun _ _ => rfl)) (aqa (pv 1) aqb))) aqc) (aqy (aqh (K := K) rfl) (pv 0) aqd (fun _ _ => rfl))) aqc) (aqn (cqP g) (hr.mono (by decide)) rfl g.bq7 g.bqj.kp g.cqd .nil pass0 (aqa (aqy (aqh (K := K) rfl) (pv 0) aqd (fun _ _ => rfl)) (aqa (pv 1) aqb)))))) aqr)
   (aqe (aqF (aqm aq3 (aqy (aqh (K := K) rfl) (pv 0) aqd (fun _ _ => rfl)) aqc (nomark _))
    (aqf (aql (aqj (aqi (K := K)) (aqj (aqi (K := K)) aqc (aqy (aqh (K := K) rfl) (pv 0) aqd (fun _ _ => rfl))) aqc))) aqr)
   (aqf (aql (aqj (aqi (K := K)) (aqj (aqi (K := K)) (aqj (aqi (K := K)) (aqj (aqi (K := K)) aqc (aqy (aqh (K := K) rfl) (pv 0) aqd (fun _ _ => rfl))) aqc) (aqy (aqh (K := K) rfl) (pv 0) aqd (fun _ _ => rfl))) aqc)))))), ?_⟩
  have b1 : Str.ofString "{" = ⟨[123].toArray⟩ := by decide +kernel
  have b2 : Str.ofString "}" = ⟨[125].toArray⟩ := by decide +kernel
  have b3 : Str.ofString ":" = ⟨[58].toArray⟩ := by decide +kernel
  rw [b1, b2, b3]
  walk_at "rd"
  have w1 : Str.ofString "number" = ⟨[110, 117, 109, 98, 101, 114].toArray⟩ := by decide +kernel
  have w2 : Str.ofString "word" = ⟨[119, 111, 114, 100].toArray⟩ := by decide +kernel
  have w3 : Str.ofString "rest" = ⟨[114, 101, 115, 116].toArray⟩ := by decide +kernel
  obtain ⟨n1, n2, n3, n4, n5, n6, n7, n8, n9, n10, n11, n12, n13, n14, n15⟩ := mqd
  have ad : ∀ {a b : List Nat} {H1 : Hp} {Q1 : VK}, a.length + b.length ≤ 2000 → Q1 (tV (a ++ b)) H1 → rAddS K (tV a) (tV b) H1 Q1 := fun hl h => hqH.mpr ⟨aqu (by rw [aq8, aq8]; omega), by rw [cql]; exact h⟩
  have no : ∀ {a b : Str}, a ≠ b → ¬ decide (a = b) = true := fun h z => h (of_decide_eq_true z)
  have named : ∀ (kw : Str) (n w : List Nat), kw = ⟨w.toArray⟩ → kw ≠ Str.ofString "gap" → w.length ≤ 6 → SqT K H p [.str kw, tV n] → NmOk n → Q (tV (123 :: (n ++ 58 :: (w ++ [125])))) H → ∃ xs v, (SqL K H p xs ∨ SqT K H p xs) ∧ atI xs 0 = some v ∧ rEq v (V.str (Str.ofString "gap")) H fun x H' => ∃ k, x = V.bl k ∧ if k = true then ∃ xs v, (SqL K H' p xs ∨ SqT K H' p xs) ∧ atI xs 1 = some v ∧ rAddS K (V.str ⟨[123].toArray⟩) v H' fun x H1 => rAddS K x (V.str ⟨[125].toArray⟩) H1 Q else ∃ xs v, (SqL K H' p xs ∨ SqT K H' p xs) ∧ atI xs 1 = some v ∧ rAddS K (V.str ⟨[123].toArray⟩) v H' fun x H1 => rAddS K x (V.str ⟨[58].toArray⟩) H1 fun x H1 => ∃ xs v, (SqL K H1 p xs ∨ SqT K H1 p xs) ∧ atI xs 0 = some v ∧ rAddS K x v H1 fun x H1 => rAddS K x (V.str ⟨[125].toArray⟩) H1 Q := fun kw n w e hin hl hp hnm hk => by
   have := hnm.1
   refine ⟨_, _, .inr hp, aqg (j := 0) rfl, aqE.mpr ⟨_, rfl, ite2 (fun z => absurd z (no hin)) (fun _ => ⟨_, _, .inr hp, aqg (j := 1) rfl, ?_⟩)⟩⟩
   refine ad (a := [123]) (by simp only [List.length_cons, List.length_nil]; omega) (ad (b := [58]) (by simp only [List.length_append, List.length_cons, List.length_nil]; omega) ⟨_, _, .inr hp, aqg (j := 0) rfl, ?_⟩)
   rw [e]
   refine ad (by simp only [List.length_append, List.length_cons, List.length_nil]; omega) (ad (b := [125]) (by simp only [List.length_append, List.length_cons, List.length_nil]; omega) ?_)
   simpa using hk
  have fin : ∀ w : List Nat, PcW c w → w = pcT c → w.length ≤ 700 → Q (tV w) H := fun w h1 h2 h3 => k w H h1 h3 (fun _ => h2) (Same.refl _)
  have hpk : SqT K H p c.vals := .of hp
  cases c with
  | step s => exact ⟨_, _, .inr hpk, aqg (j := 0) rfl, aqE.mpr ⟨_, rfl, ite2 (fun _ => ⟨_, _, .inr hpk, aqg (j := 1) rfl, s, q, is, rfl, hq, hl, ok.2.2.1, by have := ok.2.1; omega, fun w H' h1 h2 h3 sm => k w H' (.step h1 (List.length_pos_iff.mp ok.1)) (by have := ok.2.1; omega) h3 sm⟩) (fun z => absurd (decide_eq_true rfl) z)⟩⟩
  | part h n t =>
   obtain ⟨o1, o2, o3, o4, o5⟩ := ok
   have hnm := hn rfl
   have hnl : n.length ≤ 8 := hnm.1.2
   refine ⟨_, _, .inr hpk, aqg (j := 0) rfl, aqE.mpr ⟨_, rfl, ite2 (fun z => absurd z (no n5)) (fun _ => ⟨_, _, .inr hpk, aqg (j := 0) rfl, aqE.mpr ⟨_, rfl, ite2 (fun _ => ⟨_, _, .inr hpk, aqg (j := 1) rfl, h, q, is, rfl, hq, hl, o3, o1, fun a H1 a1 a2 a3 s1 => ?_⟩) (fun z => absurd (decide_eq_true rfl) z)⟩⟩)⟩⟩
   refine ad (b := [123]) (by simp only [List.length_cons, List.length_nil]; omega) ⟨_, _, .inr (s1.tup hpk), aqg (j := 2) rfl, ad (by simp only [List.length_append, List.length_cons, List.length_nil]; omega) (ad (b := [125]) (by simp only [List.length_append, List.length_cons, List.length_nil]; omega) ⟨_, _, .inr (s1.tup hpk), aqg (j := 3) rfl, t, q, is, rfl, s1 _ _ hq, hl, o4, o2, fun b H2 c1 c2 c3 s2 => ad (by simp only [List.length_append, List.length_cons, List.length_nil]; omega) ?_⟩)⟩
   have := k (a ++ 123 :: (n ++ 125 :: b)) H2 (.part a1 c1 o5 hnm) (by simp only [List.length_append, List.length_cons]; omega) (fun z => by rw [a3 z, c3 z]; rfl) (s1.trans s2)
   simpa using this
  | gap n =>
   have hnm := hn rfl
   have hnl : n.length ≤ 8 := hnm.1.2
   refine ⟨_, _, .inr hpk, aqg (j := 0) rfl, aqE.mpr ⟨_, rfl, ite2 (fun z => absurd z (no n3)) (fun _ => ⟨_, _, .inr hpk, aqg (j := 0) rfl, aqE.mpr ⟨_, rfl, ite2 (fun z => absurd z (no n8)) (fun _ => ⟨_, _, .inr hpk, aqg (j := 0) rfl, aqE.mpr ⟨_, rfl, ite2 (fun _ => ⟨_, _, .inr hpk, aqg (j := 1) rfl, ?_⟩) (fun z => absurd (decide_eq_true rfl) z)⟩⟩)⟩⟩)⟩⟩
   refine ad (a := [123]) (by simp only [List.length_cons, List.length_nil]; omega) (ad (b := [125]) (by simp only [List.length_append, List.length_cons, List.length_nil]; omega) ?_)
   have := fin _ (.gap hnm) rfl (by simp only [List.length_append, List.length_cons, List.length_nil]; omega)
   simpa using this
  | num n =>
   have hnm := hn rfl
   have hnl : n.length ≤ 8 := hnm.1.2
   exact ⟨_, _, .inr hpk, aqg (j := 0) rfl, aqE.mpr ⟨_, rfl, ite2 (fun z => absurd z (no n1)) (fun _ => ⟨_, _, .inr hpk, aqg (j := 0) rfl, aqE.mpr ⟨_, rfl, ite2 (fun z => absurd z (no n6)) (fun _ => named _ n _ w1 n11.symm (by decide) hpk hnm (fin _ (.num hnm) rfl (by simp only [List.length_append, List.length_cons, List.length_nil]; omega)))⟩⟩)⟩⟩
  | word n =>
   have hnm := hn rfl
   have hnl : n.length ≤ 8 := hnm.1.2
   exact ⟨_, _, .inr hpk, aqg (j := 0) rfl, aqE.mpr ⟨_, rfl, ite2 (fun z => absurd z (no n2)) (fun _ => ⟨_, _, .inr hpk, aqg (j := 0) rfl, aqE.mpr ⟨_, rfl, ite2 (fun z => absurd z (no n7)) (fun _ => named _ n _ w2 n13.symm (by decide) hpk hnm (fin _ (.word hnm) rfl (by simp only [List.length_append, List.length_cons, List.length_nil]; omega)))⟩⟩)⟩⟩
  | rest n =>
   have hnm := hn rfl
   have hnl : n.length ≤ 8 := hnm.1.2
   exact ⟨_, _, .inr hpk, aqg (j := 0) rfl, aqE.mpr ⟨_, rfl, ite2 (fun z => absurd z (no n4)) (fun _ => ⟨_, _, .inr hpk, aqg (j := 0) rfl, aqE.mpr ⟨_, rfl, ite2 (fun z => absurd z (no n9)) (fun _ => named _ n _ w3 n15 (by decide) hpk hnm (fin _ (.rest hnm) rfl (by simp only [List.length_append, List.length_cons, List.length_nil]; omega)))⟩⟩)⟩⟩
theorem hqn (g : G K mg) : FnOk P w K mg base CX0 4 g.gqP g.eqh ["text", "free"] jqF := by
 refine g.fqB.ok dqx (fun vs H Q E h => ?_) (fun cdv A outer s H vs Q E hr h => ?_)
 ·obtain ⟨l, fr, rfl, _⟩ := h; rfl
 ·obtain ⟨l, fr, rfl, hl, ha, k⟩ := h
  refine ⟨_, (aqe (aqs (i := 2) dqx.nd rfl (Or.inl rfl) (rqf aqb))
   (aqe (aqs (i := 3) dqx.nd rfl (Or.inl rfl) aqd)
   (aqe (nq2 PassesOwn.never (aqm jqX (pv 3) (aqt (aqI (K := K) rfl) rfl g.eqj PySem.boot_len (aqa (pv 0) aqb)) (nomark _))
   (aqe (aqs (i := 4) dqx.nd rfl (Or.inl rfl) (fqV (aqm aq3 (aqy (aqh (K := K) rfl) (pv 0) (pv 3) (fun _ _ => rfl)) aqc (nomark _)) aqd aqd))
   (aqe (aqs (i := 5) dqx.nd rfl (Or.inl rfl) (aqn (gq5 g) (hr.mono (by decide)) rfl g.fqb g.dqn.kp g.eq7 .nil pass0 (aqa (bqO (hqk (K := K) rfl) (pv 0) (bqU (pv 3)) (bqU (aqj (fqs (K := K) rfl) (pv 3) (pv 4)))) (aqa (pv 1) aqb))))
   (aqe (aqF (aqm kqq (pv 5) dqu (nomark _))
    (aqf (aql dqu)) aqr)
   (aqe (mqw (cqC (K := K) rfl PySem.F.plainAttrs_list PySem.F.slot_list_append PySem.F.type_list_append fqO (pv 2) (aqa (pv 5) aqb)))
   (aqf (aqs (i := 3) dqx.nd rfl (Or.inl rfl) (aqj (fqs (K := K) rfl) (pv 3) (pv 4)))))))))
   (aqf (aql (cqC (K := K) rfl PySem.F.plainAttrs_str PySem.F.slot_str_join PySem.F.type_str_join (iqO (K := K) rfl) aqc (aqa (pv 2) aqb))))))), ?_⟩
  walk_at "rd"
  refine ⟨by decide, fun q hq => ?_⟩
  refine pqO (fun m σ H' => ∃ (p : Nat) (dn : List Nat) (v4 v5 : Option V), m = l.length - p ∧ σ = [some (.str ⟨l.toArray⟩), some (.str ⟨fr.toArray⟩), some (.ref q), some (.int (p : Int)), v4, v5] ∧ p ≤ l.length ∧ dn.length ≤ p ∧
   H' q = some (.lst (dn.map one)) ∧ Same H H' ∧ und fr l = (und fr (l.drop p)).map (dn ++ ·)) l.length ⟨0, [], none, none, by simp, rfl, Nat.zero_le _, Nat.le_refl _, aqk, mq8 hq, by simp⟩ ?_
  rintro m σ H' ⟨p, dn, v4, v5, rfl, rfl, hp, hdn, hq', sm, hu⟩
  walk_at "rd"
  refine ⟨aqu (by omega), ite2 (fun h => ?_) (fun h => ?_)⟩
  ·have hlt : p < l.length := by omega
   refine ⟨_, fun _ _ h => h, ?_⟩
   have hc : l[p]? = some l[p] := List.getElem?_eq_getElem hlt
   generalize l[p] = c at hc
   have hd := mqH hc
   refine ⟨c, aqu (by omega), aqg hc, ?_⟩
   have hsame : ∀ y, Same H (upd H' q (.lst y)) := fun y b o e => by
    rw [aqw (aqo e hq)]; exact sm _ _ e
   have hdn2 : (dn.map one).length < sizeLine := by rw [List.length_map]; exact Nat.lt_of_le_of_lt (show dn.length ≤ 2000 by omega) (by decide)
   refine ite2 (fun h2 => ?_) (fun h2 => ?_)
   ·have hc126 : c = 126 := by have := cqr.mp h2; injection this
    subst hc126
    refine ⟨aqu (by omega), ?_⟩
    rw [show ((p : Int) + 3) = ((p + 3 : Nat) : Int) by omega, jqa, show p + 3 - p = 3 by omega, hd, List.take_succ_cons]
    refine c_sw.mpr ⟨by rw [List.length_take]; omega, fun d hd' => ?_, .inl rfl, ?_⟩
    ·rcases List.mem_cons.mp hd' with rfl | q'
     ·decide
     ·exact ha d (List.mem_of_mem_drop (List.mem_of_mem_take q'))
    rw [jqw]
    have hlen3 : (l.drop p).length = l.length - p := List.length_drop
    rw [hd] at hlen3
    generalize l.drop (p + 1) = r at hd hlen3 ⊢
    rw [List.length_cons] at hlen3
    by_cases hr2 : 2 ≤ r.length
    ·obtain ⟨a, b, r', rfl⟩ : ∃ a b r', r = a :: b :: r' := by
      match r, hr2 with
      | a :: b :: r', _ => exact ⟨a, b, r', rfl⟩
     rw [show signOfL (List.take 2 (a :: b :: r')) = oV (sgO a b) from mqj a b]
     rw [List.length_cons, List.length_cons] at hlen3
     cases e : sgO a b with
     | none =>
      have k2 := k H' sm
      rw [hu, hd, iqh e] at k2
      exact k2
     | some d =>
      rw [if_neg (by intro z; cases z)]
      refine ⟨⟨_, SqL.of hq'⟩, dn.map one, hq', hdn2, l.length - (p + 3), by omega, p + 3, dn ++ [d], _, _, rfl, rfl, by omega, by rw [List.length_append, List.length_singleton]; omega, ?_, hsame _, mqy hu hd e⟩
      rw [aqk]
      exact congrArg (fun z => some (HO.lst z)) (kqX dn d)
    ·have hlt2 : r.length < 2 := by omega
     have k2 := k H' sm
     rw [hu, hd, hqo hlt2] at k2
     rw [show signOfL (List.take 2 r) = V.non from hq3 (by rw [List.length_take]; omega)]
     exact k2
   ·have hc126 : c ≠ 126 := fun z => h2 (by rw [z])
    refine ⟨aqu (by omega), ?_⟩
    rw [show ((p : Int) + 1) = ((p + 1 : Nat) : Int) by omega, jqa, show p + 1 - p = 1 by omega, hd, List.take_succ_cons, List.take_zero]
    refine c_sw.mpr ⟨by simp, fun d hd' => ?_, .inr rfl, ?_⟩
    ·rw [List.mem_singleton.mp hd']; exact ha c (List.mem_of_getElem? hc)
    rw [kqC hc126]
    by_cases hb : (isPl c || decide (c ∈ fr)) = true
    ·rw [if_pos hb, if_neg (by intro z; cases z)]
     refine ⟨⟨_, SqL.of hq'⟩, dn.map one, hq', hdn2, l.length - (p + 1), by omega, p + 1, dn ++ [c], _, _, rfl, rfl, by omega, by rw [List.length_append, List.length_singleton]; omega, ?_, hsame _, mqz hu hd hc126 hb⟩
     rw [aqk]
     exact congrArg (fun z => some (HO.lst z)) (kqX dn c)
    ·rw [if_neg hb, if_pos rfl]
     have k2 := k H' sm
     rw [hu, hd, oqc hc126 hb] at k2
     exact k2
  ·have hpl : p = l.length := by omega
   rw [hpl, List.drop_length, kqg] at hu
   have hu2 : und fr l = some dn := by rw [hu]; simp
   refine ⟨dn.map fun c => ⟨[c].toArray⟩, SqL.of (by rw [hq', List.map_map]; rfl), ?_, ?_⟩
   ·rw [mqS]
    simp only [List.length_map, List.length_nil, Nat.mul_zero, Nat.add_zero]
    omega
   ·rw [nqV, lqA]
    have k2 := k H' sm
    rw [hu2] at k2
    exact k2
theorem jq8 (g : G K mg) : FnOk P w K mg base CX0 4 g.eqI g.dqW ["thing"] (kqi K) := by
 refine g.gqk.ok jq7 (fun vs H Q E h => ?_) (fun cdv A outer s H vs Q E hr h => ?_)
 ·obtain ⟨d, v, rfl, _⟩ := h; rfl
 ·obtain ⟨d, v, rfl, hv, hs, k⟩ := h
  refine ⟨_, (aqe (aqF (PW.pt (eqe (cqF (bqe (aqt cqQ rfl g.aqv aqp (aqa (pv 0) (aqa (dql (v := .ty "tuple") rfl g.fqo eqC rfl) aqb))))) (eqe (aqm aq3 (aqt (aqI (K := K) rfl) rfl g.eqj PySem.boot_len (aqa (pv 0) aqb)) aqd (nomark _)) (dqq (cqF (bqe (aqt cqQ rfl g.aqv aqp (aqa (aqy (aqh (K := K) rfl) (pv 0) aqd (fun _ _ => rfl)) (aqa (dql (v := .ty "str") rfl g.kq4 jqB rfl) aqb)))))))))
    (aqf (aql jqk)) aqr)
   (aqe (aqF (aqm aq3 (aqy (aqh (K := K) rfl) (pv 0) aqd (fun _ _ => rfl)) aqc (nomark _))
    (aqf (aql (cqo (aqn (dqT g) (hr.mono (by decide)) rfl g.dqw g.cqB.kp g.dqz .nil pass0 (aqa (pv 0) (aqa aqd aqb))) (cqo (aqn (gqe g) (hr.mono (by decide)) rfl g.dq0 g.cqn.kp g.dq1 .nil pass0 (aqa (aqy (aqh (K := K) rfl) (pv 0) aqd (fun _ _ => rfl)) aqb)) (cqX (mqo (aqn (mqa g) (hr.mono (by decide)) rfl g.kqA g.iqF.kp g.kqD .nil pass0 (aqa (aqy (aqh (K := K) rfl) (pv 0) aqd (fun _ _ => rfl)) aqb)))))))) aqr)
   (aqe (aqF (aqm aq3 (aqy (aqh (K := K) rfl) (pv 0) aqd (fun _ _ => rfl)) aqc (nomark _))
    (aqf (aql (cqo (aqn (dqT g) (hr.mono (by decide)) rfl g.dqw g.cqB.kp g.dqz .nil pass0 (aqa (pv 0) (aqa aqd aqb))) (cqo (aqn (hq4 g) (hr.mono (by decide)) rfl g.hqA g.fqZ.kp g.hqG .nil pass0 (aqa (aqy (aqh (K := K) rfl) (pv 0) aqd (fun _ _ => rfl)) aqb)) (cqX (aqn (fqk g) (hr.mono (by decide)) rfl g.dqd g.bqH.kp g.cqT .nil pass0 (aqa (aqy (aqh (K := K) rfl) (pv 0) aqd (fun _ _ => rfl)) (aqa (aqy (aqh (K := K) rfl) (pv 0) aqd (fun _ _ => rfl)) aqb)))))))) aqr)
   (aqf (aql (cqo (bqb (gqc (K := K) rfl) (aqy (aqh (K := K) rfl) (pv 0) aqd (fun _ _ => rfl)) (aqx (v := .ref g.cqx) rfl g.fqC rfl) (by with_unfolding_all rfl)) (cqo (aqn (dqT g) (hr.mono (by decide)) rfl g.dqw g.cqB.kp g.dqz .nil pass0 (aqa (pv 0) (aqa aqd aqb))) (cqX (aqn (hq4 g) (hr.mono (by decide)) rfl g.hqA g.fqZ.kp g.hqG .nil pass0 (aqa (aqy (aqh (K := K) rfl) (pv 0) aqd (fun _ _ => rfl)) aqb)))))))))), ?_⟩
  walk_at "rd"
  cases hv with
  | @tup p xs ds hp r =>
   refine ⟨_, L2.dqD hp, ite2 (fun z => absurd z (by decide)) (fun _ => ?_)⟩
   have sAll := (gq0 hs).2
   walk_at "rd"
   cases r with
   | nil => exact ⟨_, .inr (.of hp), ite2 (fun _ => k H (Same.refl _)) (fun z => absurd rfl z)⟩
   | @cons d0 x0 ds' xs' h0 r' =>
    refine ⟨_, .inr (.of hp), ite2 (fun z => absurd z (by rw [List.length_cons]; omega)) (fun _ => ⟨_, _, .inr (.of hp), aqg (j := 0) rfl, ?_⟩)⟩
    have sm : ∀ d ∈ ds', smallD d = true := fun d hd => cq8 sAll (List.mem_cons_of_mem _ hd)
    cases h0 with
    | str kk =>
     have eK : pieceD (.tuple (.str kk :: ds')) = pieceK kk ds' := rfl
     rw [eK] at k
     have isT : Is H (.tuple (.str kk :: ds')) (.ref p) := .tup hp (.cons (.str _) r')
     refine ⟨_, L2.eqG, ite2 (fun z => absurd z (by decide)) (fun _ => ⟨_, _, .inr (.of hp), aqg (j := 0) rfl, aqE.mpr ⟨_, rfl, ?_⟩⟩)⟩
     refine ite2 (fun h1 => ⟨_, _, _, rfl, isT, _, rfl, ?_⟩) (fun h1 => ⟨_, _, .inr (.of hp), aqg (j := 0) rfl, aqE.mpr ⟨_, rfl, ite2 (fun h2 => ⟨_, _, _, rfl, isT, _, rfl, ?_⟩) (fun h2 => ?_)⟩⟩)
     ·have e1 : pieceK kk ds' = stepD ds' := by unfold pieceK; rw [if_pos (of_decide_eq_true h1)]
      rw [e1] at k
      cases r' with
      | nil => exact ite2 (fun z => absurd (cqb (n := 2).mp z) (by simp)) (fun _ => k H (Same.refl _))
      | @cons d1 x1 ds2 xs2 h3 r2 =>
       cases r2 with
       | cons h4 r3 => exact ite2 (fun z => absurd (cqb (n := 2).mp z) (by simp)) (fun _ => k H (Same.refl _))
       | nil =>
        refine ite2 (fun _ => ⟨_, _, .inr (.of hp), aqg (j := 1) rfl, d1, x1, rfl, h3, sm d1 (List.mem_cons_self ..), fun H1 s1 => ⟨_, rfl, ?_⟩⟩) (fun z => absurd (cqb (n := 2).mpr rfl) z)
        have k1 := k H1 s1
        cases h3 with
        | str z =>
         have e2 : stepD [.str z] = (ftx (.str z) && !isDot z.cps.toList) := rfl
         rw [e2] at k1
         refine ite2 (fun hf => ?_) (fun hf => ?_)
         ·rw [hf, Bool.true_and] at k1
          exact ⟨_, _, .inr (.of (s1 _ _ hp)), aqg (j := 1) rfl, z.cps.toList, rfl, _, rfl, k1⟩
         ·rw [Bool.eq_false_iff.mpr hf, Bool.false_and] at k1
          exact k1
        | _ => exact ite2 (fun z => by cases z) (fun _ => k1)
     ·have e1 : pieceK kk ds' = partD ds' := by unfold pieceK; rw [if_neg (fun z => h1 (decide_eq_true z)), if_pos (of_decide_eq_true h2)]
      rw [e1] at k
      have out : (∀ a b c, ds' ≠ [a, b, c]) → Q (.bl false) H := fun hn => by
       have e2 : partD ds' = false := by
        match ds', hn with
        | [], _ => rfl
        | [_], _ => rfl
        | [_, _], _ => rfl
        | [a, b, c], hn => exact absurd rfl (hn a b c)
        | _ :: _ :: _ :: _ :: _, _ => rfl
       rw [← e2]
       exact k H (Same.refl _)
      refine ite2 (fun hz => ?_) (fun hz => out fun a b c z => hz (cqb (n := 4).mpr (by rw [z]; rfl)))
      have hln := cqb (n := 4).mp hz
      cases r' with
      | nil => cases hln
      | @cons d1 x1 ds2 xs2 g1 r2 =>
       cases r2 with
       | nil => cases hln
       | @cons d2 x2 ds3 xs3 g2 r3 =>
        cases r3 with
        | nil => cases hln
        | @cons d3 x3 ds4 xs4 g3 r4 =>
         cases r4 with
         | cons _ _ => simp at hln
         | nil =>
          refine ⟨_, _, .inr (.of hp), aqg (j := 2) rfl, d2, x2, rfl, g2, sm d2 (by simp), fun H1 s1 => ⟨_, rfl, ?_⟩⟩
          have e2 : partD [d1, d2, d3] = (nameD d2 && endsD d1 d3) := rfl
          rw [e2] at k
          refine ite2 (fun hn => ?_) (fun hn => ?_)
          ·rw [hn, Bool.true_and] at k
           exact ⟨_, _, .inr (.of (s1 _ _ hp)), aqg (j := 1) rfl, _, _, .inr (.of (s1 _ _ hp)), aqg (j := 3) rfl, d1, d3, x1, x3, rfl, g1.mono s1, g3.mono s1, sm d1 (by simp), sm d3 (by simp), fun H2 s2 => k H2 (s1.trans s2)⟩
          ·rw [Bool.eq_false_iff.mpr hn, Bool.false_and] at k
           exact k H1 s1
     ·have e1 : pieceK kk ds' = (decide (kk ∈ kwN) && namD ds') := by unfold pieceK; rw [if_neg (fun z => h1 (decide_eq_true z)), if_neg (fun z => h2 (decide_eq_true z))]
      rw [e1] at k
      refine ⟨_, _, .inr (.of hp), aqg (j := 0) rfl, _, kwN.map V.str, rfl, .inr (kqy (ss := kwN) (g.fqz H)), rfl, rfl, _, rfl, ?_⟩
      rw [if_neg (show ¬ false = true by decide), iqZ]
      refine ite2 (fun h3 => ⟨_, _, _, rfl, isT, _, rfl, ?_⟩) (fun h3 => ?_)
      ·rw [h3, Bool.true_and] at k
       cases r' with
       | nil => exact ite2 (fun z => absurd (cqb (n := 2).mp z) (by simp)) (fun _ => k H (Same.refl _))
       | @cons d1 x1 ds2 xs2 h4 r2 =>
        cases r2 with
        | cons h5 r3 => exact ite2 (fun z => absurd (cqb (n := 2).mp z) (by simp)) (fun _ => k H (Same.refl _))
        | nil => exact ite2 (fun _ => ⟨_, _, .inr (.of hp), aqg (j := 1) rfl, d1, x1, rfl, h4, sm d1 (by simp), fun H1 s1 => k H1 s1⟩) (fun z => absurd (cqb (n := 2).mpr rfl) z)
      ·rw [Bool.eq_false_iff.mpr h3, Bool.false_and] at k
       exact k H (Same.refl _)
    | lst hq r => exact ⟨_, L2.dqZ hq, ite2 (fun _ => k H (Same.refl _)) (fun z => absurd (by decide) z)⟩
    | tup hq r => exact ⟨_, L2.dqD hq, ite2 (fun _ => k H (Same.refl _)) (fun z => absurd (by decide) z)⟩
    | non => exact ⟨_, L2.eqT, ite2 (fun _ => k H (Same.refl _)) (fun z => absurd (by decide) z)⟩
    | bl b => exact ⟨_, L2.fq9, ite2 (fun _ => k H (Same.refl _)) (fun z => absurd (by decide) z)⟩
    | int i => exact ⟨_, L2.eqM, ite2 (fun _ => k H (Same.refl _)) (fun z => absurd (by decide) z)⟩
  | lst hp r => exact ⟨_, L2.dqZ hp, ite2 (fun _ => k H (Same.refl _)) (fun z => absurd (by decide) z)⟩
  | str x => exact ⟨_, L2.eqG, ite2 (fun _ => k H (Same.refl _)) (fun z => absurd (by decide) z)⟩
  | non => exact ⟨_, L2.eqT, ite2 (fun _ => k H (Same.refl _)) (fun z => absurd (by decide) z)⟩
  | bl b => exact ⟨_, L2.fq9, ite2 (fun _ => k H (Same.refl _)) (fun z => absurd (by decide) z)⟩
  | int i => exact ⟨_, L2.eqM, ite2 (fun _ => k H (Same.refl _)) (fun z => absurd (by decide) z)⟩
theorem iqr (g : G K mg) : FnOk P w K mg base CX0 4 g.dqe g.cqu ["_law_cell", "_law_name"] (iqL K) := by
 refine g.eqk.ok cqw (fun vs H Q E h => ?_) (fun cdv A outer s H vs Q E hr h => ?_)
 ·obtain ⟨c, n, rfl, _⟩ := h; rfl
 ·obtain ⟨c, n, rfl, k⟩ := h
  refine ⟨_, (aqe (aqF (aqm jqX (aqj aqL (pv 0) aqd) aqd (nomark _))
    (aqf (aql (aqV (aqa aqc (aqa (aqn (jqH g) (hr.mono (by decide)) rfl g.hqN g.fql.kp g.hqy .nil pass0 (aqa (aqj bqd (pv 0) aqd) aqb)) aqb))))) aqr)
   (aqe (aqF (aqm jqX (aqj aqL (pv 0) aqd) aqd (nomark _))
    (aqe (aqs (i := 2) cqw.nd rfl (Or.inl rfl) (aqn (dq6 g) (hr.mono (by decide)) rfl g.dqH g.cqM.kp g.dqR .nil pass0 (aqa (aqj bqd (pv 0) aqd) aqb)))
   (aqe (aqs (i := 3) cqw.nd rfl (Or.inl rfl) (aqn (dq6 g) (hr.mono (by decide)) rfl g.dqH g.cqM.kp g.dqR .nil pass0 (aqa (aqj bqd (pv 0) aqd) aqb)))
   (aqJ (aqF (aqm aq3 (aqj (aqi (K := K)) (pv 2) (pv 3)) aqc (nomark _))
    (aqf (aqs (i := 2) cqw.nd rfl (Or.inl rfl) (aqy (aqh (K := K) rfl) aqc (aqj aqL (aqj bqd (pv 0) aqd) aqd) (fun _ _ => rfl)))) aqr)
   (aqf (aql (aqV (aqa aqc (aqa (pv 2) (aqa (pv 1) (aqa (pv 3) aqb)))))))))) aqr)
   (aqf (aql (aqV (aqa (aqy (aqh (K := K) rfl) (aqU (aqa aqc (aqa aqc (aqa aqc (aqa aqc aqb))))) (aqj jqi (aqj aqL (pv 0) aqd) aqd) (fun _ _ => rfl)) (aqa (pv 1) aqb))))))), ?_⟩
  walk_at "rd"
  have c0 := Int.emod_nonneg c (show (8 : Int) ≠ 0 by decide)
  have c1 := Int.emod_lt_of_pos c (show (0 : Int) < 8 by decide)
  refine ⟨by decide, ite2 (fun _ => ⟨⟨by decide, by decide⟩, ?_⟩) (fun h2 => ⟨by decide, ite2 (fun _ => ⟨⟨by decide, by decide⟩, ?_⟩) (fun h4 => ?_)⟩)⟩
  ·exact ⟨_, rfl, fun l H1 h1 h2 h3 h4 s1 => ⟨by decide, fun p H2 n2 s2 e2 => k (.step l) p H2 ⟨h1, by omega, h3, h4⟩ rfl (fun z => by cases z) (s1.trans s2) e2⟩⟩
  ·refine ⟨_, rfl, fun hd H1 l1 h1 s1 => ⟨⟨by decide, by decide⟩, _, rfl, fun tl H2 l2 h2 s2 => ?_⟩⟩
   refine ⟨fun σ H3 => Same H H3 ∧ ∃ hd : List Nat, hd.length ≤ 4 ∧ (∀ c ∈ hd, isSg c = true) ∧ hd ++ tl ≠ [] ∧ σ = [some (.int c), some (tV n), some (tV hd), some (tV tl)], ?_, ?_⟩
   ·walk_at "rd"
    refine ⟨aqu (by omega), ite2 (fun h0 => ?_) (fun h0 => ⟨s1.trans s2, hd, l1, h1, fun z => h0 (by rw [z]), rfl⟩)⟩
    obtain ⟨d, hdm, hda⟩ := kql (Str.ofString "ab1.").cps.toList (c / 16) 4 (by decide) (by decide +kernel)
    have hd' : isSg d = true := by
     rw [show (Str.ofString "ab1.").cps.toList = [97, 98, 49, 46] by decide +kernel] at hdm
     simp only [List.mem_cons, List.not_mem_nil, or_false] at hdm
     rcases hdm with rfl | rfl | rfl | rfl <;> decide
    exact ⟨⟨by decide, by decide⟩, by decide, d, by decide +kernel, hda, s1.trans s2, [d], by simp, fun e he => by rw [List.mem_singleton.mp he]; exact hd', by simp, rfl⟩
   rintro σ H3 ⟨s3, hd, l1, h1, hne, rfl⟩
   walk_at "rd"
   exact ⟨by decide, fun p H4 n4 s4 e4 => k (.part hd n tl) p H4 ⟨by omega, by omega, h1, h2, hne⟩ rfl (fun _ => rfl) (s3.trans s4) e4⟩
  ·refine ⟨by decide, fun p H1 n1 s1 e1 => ⟨by decide, ?_⟩⟩
   have h : c % 8 - 4 = 0 ∨ c % 8 - 4 = 1 ∨ c % 8 - 4 = 2 ∨ c % 8 - 4 = 3 := by omega
   rcases h with h | h | h | h <;> rw [h]
   ·exact ⟨_, _, .inl (.of e1), aqg (j := 0) rfl, by decide, fun p2 H2 n2 s2 e2 => k (.num n) p2 H2 trivial rfl (fun _ => rfl) (s1.trans s2) e2⟩
   ·exact ⟨_, _, .inl (.of e1), aqg (j := 1) rfl, by decide, fun p2 H2 n2 s2 e2 => k (.word n) p2 H2 trivial rfl (fun _ => rfl) (s1.trans s2) e2⟩
   ·exact ⟨_, _, .inl (.of e1), aqg (j := 2) rfl, by decide, fun p2 H2 n2 s2 e2 => k (.gap n) p2 H2 trivial rfl (fun _ => rfl) (s1.trans s2) e2⟩
   ·exact ⟨_, _, .inl (.of e1), aqg (j := 3) rfl, by decide, fun p2 H2 n2 s2 e2 => k (.gap n) p2 H2 trivial rfl (fun _ => rfl) (s1.trans s2) e2⟩
theorem eq0 (g : G K mg) : FnOk P w K mg base CX0 4 g.aqR g.aqK ["_law_pattern_here", "_law_cells"] (eqZ K) := by
 refine g.bqu.ok bqi (fun vs H Q E h => ?_) (fun cdv A outer s H vs Q E hr h => ?_)
 ·obtain ⟨cs, e, p, q, r, xs, is, rfl, _⟩ := h; rfl
 ·obtain ⟨cs, e, p, q, r, xs, is, rfl, hp, hq, hA, hl, ok, hr', hil, k⟩ := h
  refine ⟨_, (aqe (aqs (i := 2) bqi.nd rfl (Or.inl rfl) (aqj (aqi (K := K)) aqc (cqC (K := K) rfl PySem.F.plainAttrs_str PySem.F.slot_str_join PySem.F.type_str_join (iqO (K := K) rfl) aqc (aqa (fqm (fx := ["_law_cells"]) (fr := [1]) rfl rfl (by decide +kernel) rfl (by decide +kernel) rfl (by decide +kernel) rfl (.cons rfl rfl rfl rfl .nil) rfl (iqj (K := K) rfl (aqy (aqh (K := K) rfl) (pv 0) aqd (fun _ _ => rfl))) (fun _ _ _ => hqR) (fun _ _ _ => (aqn (fq4 g) (hr.mono (by decide)) rfl g.dqy g.bqW.kp g.dqv .nil pass0 (aqa (pv 0) (aqa (pv 1) aqb))))) aqb))))
   (aqe (aqF (PW.pt (jqQ (bqe (aqy (aqh (K := K) rfl) (pv 0) aqd (fun _ _ => rfl))) (hqF (aqm (kqW hr.units) (aqy (aqh (K := K) rfl) (pv 0) aqd (fun _ _ => rfl)) (aqV aqb) (nomark _)))))
    (aqf (aqs (i := 2) bqi.nd rfl (Or.inl rfl) (aqj (aqi (K := K)) (pv 2) aqc))) aqr)
   (aqf (aql (pv 2))))), ?_⟩
  have b1 : Str.ofString "/" = ⟨[47].toArray⟩ := by decide +kernel
  rw [b1]
  walk_at "rd"
  have hxl := hA.length
  refine ⟨_, _, .inr (.of hp), aqg (j := 0) rfl, q, rfl, ⟨xs, .of hq⟩, fun pl nl => ?_⟩
  refine gq2 (xs := xs) (fun i ys H1 => Same H H1 ∧ ∃ ws : List (List Nat), ys = ws.map tV ∧ PcWs (cs.take i) ws ∧ (∀ w ∈ ws, w.length ≤ 700) ∧ (is = [] → ws = (cs.take i).map pcT)) (aqu (by omega)) ⟨aqG nl, [], rfl, .nil, (fun w hw => nomatch hw), fun _ => rfl⟩ (fun i ys H1 h => .of (h.1 _ _ hq)) (fun i x ys H1 T hx ⟨s1, ws, ey, hw, hwl, h0⟩ hl1 hT => ?_) (fun ys H1 ⟨s1, ws, ey, hw, hwl, h0⟩ hl1 => ?_)
  ·obtain ⟨c, pc, hc, rfl, hpc⟩ := hA.get hx
   obtain ⟨o1, o2⟩ := ok c (List.mem_of_getElem? hc)
   have et : cs.take (i + 1) = cs.take i ++ [c] := by rw [List.take_add_one, hc]; rfl
   walk_at "rd"
   refine ⟨c, pc, r, is, rfl, s1 _ _ hpc, o1, o2, s1 _ _ hr', hil, fun w H2 w1 w2 w3 s2 => hT _ _ (s2 _ _ hl1) ?_⟩
   refine ⟨fun b o e => by rw [aqw (aqo e nl)]; exact (s1.trans s2) b o e, ws ++ [w], by rw [ey, List.map_append]; rfl, by rw [et]; exact hw.snoc w1, fun x hx => ?_, fun z => by rw [et, List.map_append, h0 z, w3 z]; rfl⟩
   rcases List.mem_append.mp hx with y | y
   ·exact hwl x y
   ·rw [List.mem_singleton.mp y]; exact w2
  ·rw [hxl, List.take_length] at hw h0
   have hwn := hw.length
   obtain ⟨j1, j2⟩ := fqD 47 700 hwl
   rw [hwn] at j1 j2
   subst ey
   refine ⟨_, pl, ws.map mkS, rfl, rfl, ?_, ?_, ?_⟩
   ·rw [List.map_map]
    exact .of hl1
   ·rw [List.map_map, List.length_map, hwn]
    have e : ((fun x => x.length) ∘ mkS) = (fun x : List Nat => x.length) := funext fun x => aq8 x
    show (List.map ((fun x : Str => x.length) ∘ mkS) ws).sum + cs.length * 1 ≤ _
    rw [show ((fun x : Str => x.length) ∘ mkS) = (fun x : List Nat => x.length) from funext fun x => aq8 x]
    omega
   rw [kqR]
   have e1 : (⟨#[47]⟩ : Str) ++ ⟨(joinT 47 ws).toArray⟩ = ⟨(47 :: joinT 47 ws).toArray⟩ := cql (l := [47]) (m := joinT 47 ws)
   refine hqH.mpr ⟨aqu (by rw [show (⟨(joinT 47 ws).toArray⟩ : Str).length = _ from aq8 _]; show 1 + _ ≤ _; omega), ?_⟩
   rw [e1]
   refine ⟨_, _, .inr (.of (s1 _ _ hp)), aqg (j := 1) rfl, e, rfl, ?_⟩
   have eE : slT true ws e = 47 :: (joinT 47 ws ++ if e && !ws.isEmpty then [47] else []) := rfl
   refine ite2 (fun he => ⟨_, _, .inr (.of (s1 _ _ hp)), aqg (j := 0) rfl, by decide, fun p2 H2 n2 s2 e2 => ?_⟩) (fun he => ?_)
   ·have u2 := s1.trans s2
    refine ⟨.tuple (cs.map pcD), .tuple [], .tup (u2 _ _ hq) (hA.mono u2.toT).isT.is, .tup e2 .nil, (kqQ fun c hc => mqI (ok c hc).1 (ok c hc).2).shaped (by decide), by decide +kernel, _, rfl, ?_⟩
    rw [oqr, List.isEmpty_map]
    have ei : ws.isEmpty = cs.isEmpty := by
     cases hw <;> rfl
    refine ite2 (fun hz => ?_) (fun hz => ?_)
    ·refine hqH.mpr ⟨aqu (by rw [show (⟨(47 :: joinT 47 ws).toArray⟩ : Str).length = _ from aq8 _, List.length_cons]; show _ + 1 ≤ _; omega), ?_⟩
     have := k ws H2 hw hwl h0 u2
     rw [eE, he, ei, hz, if_pos (by decide)] at this
     rw [show (⟨(47 :: joinT 47 ws).toArray⟩ : Str) ++ ⟨#[47]⟩ = ⟨((47 :: joinT 47 ws) ++ [47]).toArray⟩ from cql (47 :: joinT 47 ws) [47]]
     exact this
    ·have := k ws H2 hw hwl h0 u2
     rw [eE, he, ei, show (!cs.isEmpty) = false from (Bool.not_eq_true _).mp hz, if_neg (by decide), List.append_nil] at this
     exact this
   ·have := k ws H1 hw hwl h0 s1
    rw [eE, (Bool.not_eq_true _).mp he, if_neg (by rw [Bool.false_and]; decide), List.append_nil] at this
    exact this
theorem iqz (g : G K mg) : FnOk P w K mg base CX0 5 g.cq1 g.cqt ["things"] (iqS K) := by
 refine g.eqn.ok iqI (fun vs H Q E h => ?_) (fun cdv A outer s H vs Q E hr h => ?_)
 ·obtain ⟨ds, xs, q, rfl, _⟩ := h; rfl
 ·obtain ⟨ds, xs, q, rfl, hq, hx, hs, k⟩ := h
  refine ⟨_, (aqe (aqF (PW.pt (eqe (aqm mqJ (aqt (aqI (K := K) rfl) rfl g.eqj PySem.boot_len (aqa (pv 0) aqb)) (aqx (v := iqE) rfl g.fqI ⟨_, rfl⟩) (nomark _)) (dqq (cqF (bqe (aqt (hqh (K := K) rfl rfl) rfl g.nqu PyProof.Rows.boot_all (aqa (fqm (fx := []) (fr := []) rfl rfl (by decide +kernel) rfl (by decide +kernel) rfl (by decide +kernel) rfl .nil rfl (iqj (K := K) rfl (pv 0)) (fun _ _ _ => hqR) (fun _ _ _ => (aqn (jq8 g) (hr.mono (by decide)) rfl g.hq9 g.gqk.kp g.hq8 .nil pass0 (aqa (pv 0) aqb)))) aqb)))))))
    (aqf (aql jqk)) aqr)
   (aqf (aql (cqo (aqn (fqc g) (hr.mono (by decide)) rfl g.dqc g.bqQ.kp g.dqg .nil pass0 (aqa (pv 0) aqb)) (cqX (aqn (fqh g) (hr.mono (by decide)) rfl g.dqb g.bqB.kp g.cq6 .nil pass0 (aqa (pv 0) aqb))))))), ?_⟩
  walk_at "rd"
  have hxl := gqf hx
  have sAll := gq0 hs
  have out : piecesD ds = false → ∀ H', Same H H' → Q (.bl false) H' := fun e H' s' => by
   rw [← e]
   exact k H' s'
  refine ⟨_, .inr (.of hq), ite2 (fun h => out ?_ H (Same.refl _)) (fun h => ⟨⟨_, .of hq⟩, fun p1 n1 => ?_⟩)⟩
  ·unfold piecesD
   rw [decide_eq_false (by omega), Bool.false_and]
  refine gq2 (xs := xs) (fun i ys H' => Same H H' ∧ ys = ((ds.take i).map pieceD).map V.bl) (aqu (by omega)) ⟨aqG n1, rfl⟩ (fun i ys H2 hJ => .of (hJ.1 _ _ hq)) (fun i x ys H2 T hxi hJ h2 hT => ?_) (fun ys H2 hJ h2 => ?_)
  ·obtain ⟨s2, rfl⟩ := hJ
   obtain ⟨d, hd, hxd⟩ := kqV hx hxi
   walk_at "rd"
   refine ⟨d, x, rfl, hxd.mono s2, cq8 sAll.2 (List.mem_of_getElem? hd), fun H3 s3 => hT _ H3 (s3 _ _ h2) ⟨hqv n1 (s2.trans s3), ?_⟩⟩
   rw [List.take_add_one, hd, List.map_append, List.map_append]
   rfl
  ·obtain ⟨s2, rfl⟩ := hJ
   walk_at "rd"
   have eA : ((ds.take xs.length).map pieceD).all id = ds.all pieceD := by
    rw [hxl, List.take_length, List.all_map]
    rfl
   refine ⟨_, .of h2, ?_⟩
   rw [eA]
   refine ite2 (fun h3 => out ?_ H2 s2) (fun h3 => ?_)
   ·unfold piecesD
    rw [h3, Bool.false_and, Bool.and_false]
   have h3 : ds.all pieceD = true := (Bool.not_eq_false _).mp h3
   have hP : PcAll K H2 (ds.map pcOf) xs := iqJ (hx.mono s2) h3
   have eP : piecesD ds = (restsL (ds.map pcOf) && decide ((gapsM (ds.map pcOf)).Nodup)) := by
    unfold piecesD
    rw [decide_eq_true (show ds.length ≤ 12 by omega), h3, Bool.true_and, Bool.true_and]
   refine ⟨_, xs, q, rfl, s2 _ _ hq, hP, by rw [List.length_map]; omega, fun H3 s3 => ⟨_, rfl, ?_⟩⟩
   rw [eP] at k
   refine ite2 (fun h4 => ?_) (fun h4 => ?_)
   ·rw [h4, Bool.true_and] at k
    exact ⟨_, xs, q, rfl, (s2.trans s3) _ _ hq, iqJ (hx.mono (s2.trans s3)) h3, by rw [List.length_map]; omega, fun H4 s4 => k H4 ((s2.trans s3).trans s4)⟩
   ·rw [Bool.eq_false_iff.mpr h4, Bool.false_and] at k
    exact k H3 (s2.trans s3)
theorem kqn (g : G K mg) : FnOk P w K mg base CX0 5 g.eqL g.dqQ ["head", "inside", "tail"] (jq0 K) := by
 refine g.gqa.ok gqZ (fun vs H Q E h => ?_) (fun cdv A outer s H vs Q E hr h => ?_)
 ·obtain ⟨hh, i, t, rfl, _⟩ := h; rfl
 ·obtain ⟨hd, i, t, rfl, l1, l2, l3, c1, c3, k⟩ := h
  refine ⟨_, (aqe (aqF (PW.pt (eqe (aqm lqn (pv 0) aqc (nomark _)) (dqq (aqm lqn (pv 2) aqc (nomark _)))))
    (aqf (aql (aqV (aqa aqc (aqa (aqn (hqn g) (hr.mono (by decide)) rfl g.gqR g.fqB.kp g.gqN .nil pass0 (aqa (pv 0) (aqa (aqx (v := aq7) rfl g.bqE ⟨_, rfl⟩) aqb))) (aqa (pv 1) (aqa (aqn (hqn g) (hr.mono (by decide)) rfl g.gqR g.fqB.kp g.gqN .nil pass0 (aqa (pv 2) (aqa (aqx (v := aq7) rfl g.bqE ⟨_, rfl⟩) aqb))) aqb))))))) aqr)
   (aqe (aqs (i := 3) gqZ.nd rfl (Or.inl rfl) (cqC (K := K) rfl PySem.F.plainAttrs_str PySem.F.slot_str_partition PySem.F.type_str_partition equ (pv 1) (aqa aqc aqb)))
   (aqe (aqF (aqm aq3 (aqy (aqh (K := K) rfl) (pv 3) aqd (fun _ _ => rfl)) aqc (nomark _))
    (aqf (aql (aqV (aqa aqc (aqa (pv 1) aqb))))) aqr)
   (aqf (aql (fqV (aqm (gqc (K := K) rfl) (aqy (aqh (K := K) rfl) (pv 3) aqd (fun _ _ => rfl)) (aqx (v := .ref g.bqK) rfl g.eqb rfl) (by with_unfolding_all rfl)) (aqV (aqa (aqy (aqh (K := K) rfl) (pv 3) aqd (fun _ _ => rfl)) (aqa (aqy (aqh (K := K) rfl) (pv 3) aqd (fun _ _ => rfl)) aqb))) dqu)))))), ?_⟩
  have b3 : Str.ofString ":" = ⟨[58].toArray⟩ := by decide +kernel
  have eF : aq7 = .str ⟨frS.toArray⟩ := congrArg V.str (bqq _).symm
  rw [b3, eF]
  walk_at "rd"
  have P : ¬ (hd = [] ∧ t = []) → hd.length ≤ 2000 ∧ (∀ (c : Nat), c ∈ hd → c < 128) ∧ ∀ H', Same H H' → t.length ≤ 2000 ∧ (∀ (c : Nat), c ∈ t → c < 128) ∧ ∀ H2, Same H' H2 → 4 ≤ sizeLine ∧ ∀ p H', H2 p = none → Same H2 H' → H' p = some (.tup [V.str (Str.ofString "part"), undV (und frS hd), tV i, undV (und frS t)]) → Q (V.ref p) H' := fun hne =>
   ⟨l1, c1, fun H1 s1 => ⟨l3, c3, fun H2 s2 => ⟨by decide, fun p H3 n s3 e3 => k _ _ (s1.trans (s2.trans s3)) (by unfold gapD; rw [if_neg hne]; exact .tup e3 (.cons (.str _) (.cons (jq6 _) (.cons (.str _) (.cons (jq6 _) .nil)))))⟩⟩⟩
  refine ite2 (fun h => P fun z => h (by rw [z.1])) (fun h1 => ite2 (fun h => P fun z => h (by rw [z.2])) (fun h2 => ⟨by decide, aqu (by omega), fun p hp => ?_⟩))
  have e1 : hd = [] := jqd.mp (Decidable.not_not.mp h1)
  have e2 : t = [] := jqd.mp (Decidable.not_not.mp h2)
  have sm : ∀ o, Same H (upd H p o) := fun o => aqG hp
  by_cases hm : 58 ∈ i
  ·rw [show Txt.partition ⟨i.toArray⟩ ⟨#[58]⟩ = _ from jq5 hm]
   have eg : gapD hd i t = if mkS (aft 58 i) ∈ kwW then .tuple [.str (mkS (aft 58 i)), st (bfo 58 i)] else .none := by
    unfold gapD; rw [if_pos ⟨e1, e2⟩, if_pos hm]
   rw [eg] at k
   refine ⟨_, _, .inr (.of aqk), aqg (j := 1) rfl, aqE.mpr ⟨_, rfl, ite2 (fun z => absurd (of_decide_eq_true z) (show (⟨#[58]⟩ : Str) ≠ ⟨#[]⟩ by decide)) (fun _ => ?_)⟩⟩
   generalize hH : upd H p _ = H1
   have s1 : Same H H1 := hH ▸ sm _
   have hp1 : SqT K H1 p [.str (mkS (bfo 58 i)), .str (mkS [58]), .str (mkS (aft 58 i))] := hH ▸ .of aqk
   refine ⟨_, _, .inr hp1, aqg (j := 2) rfl, _, kwW.map V.str, rfl, .inr (kqy (ss := kwW) (g.eqp H1)), rfl, rfl, _, rfl, ?_⟩
   rw [if_neg (show ¬ false = true by decide), iqZ]
   refine ite2 (fun z => ?_) (fun z => ?_)
   ·rw [if_pos (of_decide_eq_true z)] at k
    exact ⟨_, _, .inr hp1, aqg (j := 2) rfl, _, _, .inr hp1, aqg (j := 0) rfl, by decide, fun p2 H2 n2 s2 e2 => k _ _ (s1.trans s2) (.tup e2 (.cons (.str _) (.cons (.str _) .nil)))⟩
   ·rw [if_neg (fun y => z (decide_eq_true y))] at k
    exact k _ _ s1 .non
  ·rw [show Txt.partition ⟨i.toArray⟩ ⟨#[58]⟩ = _ from jqW hm]
   have eg : gapD hd i t = .tuple [.str (Str.ofString "gap"), st i] := by
    unfold gapD; rw [if_pos ⟨e1, e2⟩, if_neg hm]
   rw [eg] at k
   refine ⟨_, _, .inr (.of aqk), aqg (j := 1) rfl, aqE.mpr ⟨_, rfl, ite2 (fun _ => ?_) (fun z => absurd (decide_eq_true rfl) z)⟩⟩
   exact ⟨by decide, fun p2 H2 n2 s2 e2 => k _ _ ((sm _).trans s2) (.tup e2 (.cons (.str _) (.cons (.str _) .nil)))⟩
theorem hqJ (g : G K mg) : FnOk P w K mg base CX0 5 g.bq8 g.bqC ["_law_cell", "_law_names_here", "_law_cells"] (hqP K) := by
 refine g.dqo.ok eql (fun vs H Q E h => ?_) (fun cdv A outer s H vs Q E hr h => ?_)
 ·obtain ⟨c, pn, pc, ns, cs, rfl, _⟩ := h; rfl
 ·obtain ⟨c, pn, pc, ns, cs, rfl, hpn, hpc, hlen, hn, hns, k⟩ := h
  refine ⟨_, (aqJ (nqt (i := 3) (K := K) (fx := []) (fr := []) eql.nd rfl rfl rfl rfl rfl (by decide +kernel) rfl (by decide +kernel) rfl rfl (by decide +kernel) rfl .nil rfl (pqQ (K := K) rfl rfl g.qqd (aqa (pv 2) (aqa (pv 1) aqb))) (fun _ _ _ => hqR) (fun _ _ _ => (aqn (iqr g) (hr.mono (by decide)) rfl g.gqp g.eqk.kp g.gqt .nil pass0 (aqa (pv 0) (aqa (pv 1) aqb)))))
   (aqJ (aqF (PW.pt (jqQ (aqm aq3 (aqj aqL (pv 0) aqd) aqd (nomark _)) (hqF (aqm (kqW hr.units) (pv 3) (aqU aqb) (nomark _)))))
    (aqf (qql (aqV (aqa aqc (aqa (aqy (aqh (K := K) rfl) (pv 1) (aqj jqi (aqt (aqI (K := K) rfl) rfl g.eqj PySem.boot_len (aqa (pv 3) aqb)) aqd) (fun _ _ => rfl)) aqb))) (qqV (pv 3) (kq7 iqe aqd) nq0))) aqr)
   (aqf (aql (aqV (aqa (gq8 (fqq (K := K) rfl) rfl g.fqo eqC (aqa (pv 3) aqb)) (aqa (oqv (bqb (oqe hr.units) (pv 3) (aqU aqb) (nomark _)) (cqX (bqb aq3 (aqj aqL (aqj bqd (pv 0) aqd) aqd) aqd (nomark _)))) aqb))))))), ?_⟩
  walk_at "rd"
  refine ⟨fun σ H1 => Same H H1 ∧ ∃ (ps : List Pc) (pl : Addr) (xs : List V), σ = [some (.int c), some (.ref pn), some (.ref pc), some (.ref pl)] ∧ PcT H1 ps xs ∧ H1 pl = some (.lst xs) ∧ H pl = none ∧ ps.length = cs.length ∧ (∀ x ∈ ps, PcOk x ∧ x.isRest = false) ∧ (∀ (i : Nat) (x : Pc), ps[i]? = some x → x.isStep = false → ns[i]? = some x.name), ?_, ?_⟩
  ·refine ⟨pc, pn, _, _, ⟨rfl, rfl⟩, hpc, .of hpn, fun p0 n0 => ?_⟩
   refine lqd (fun i ws H' => SameBut p0 H H' ∧ ∃ ps : List Pc, PcT H' ps ws ∧ ps.length = i ∧ (∀ x ∈ ps, PcOk x ∧ x.isRest = false) ∧ ∀ (j : Nat) (x : Pc), ps[j]? = some x → x.isStep = false → ns[j]? = some x.name) (fun i ws H1 H2 s h => ?_) (by rw [List.length_map]; exact aqu (by omega)) ⟨hqS.trans (SameBut.refl _ _), [], .nil, rfl, (fun x hx => by cases hx), fun j x hx => by cases hx⟩ (fun i ws H2 h => ?_) (fun i x y ws H2 T hx hy h hp2 hT => ?_) (fun ws H2 h hp2 => ?_)
   ·obtain ⟨h1, ps, h2, h3⟩ := h
    exact ⟨h1.trans s.but, ps, h2.mono s.toT, h3⟩
   ·have s := h.1.same n0
    exact ⟨s.seq hpc, .of (s _ _ hpn)⟩
   ·obtain ⟨sb, ps, h2, h3, h4, h5⟩ := h
    rw [List.getElem?_map] at hx hy
    obtain ⟨cc, hcc, rfl⟩ := Option.map_eq_some_iff.mp hx
    obtain ⟨nn, hnn, rfl⟩ := Option.map_eq_some_iff.mp hy
    walk_at "rd"
    refine ⟨cc, nn, rfl, fun pcx q H3 ok1 ok2 ok3 s3 hq => hT _ H3 (s3 _ _ hp2) ?_⟩
    have hqp : q ≠ p0 := fun z => by rw [z, s3 _ _ hp2] at hq; cases hq
    refine ⟨(sb.trans s3.but).trans hqS, ps ++ [pcx], ?_, by rw [List.length_append, List.length_singleton, h3], fun x hx => ?_, fun j x hj hst => ?_⟩
    ·have t3 : SameT H2 (upd H3 p0 (.lst (ws ++ [.ref q]))) := fun b ys e => by
      rw [aqw (fun z => by rw [z, hp2] at e; cases e)]
      exact s3 _ _ e
     exact PcT.append (.cons (by rw [aqw hqp]; exact hq) .nil) (h2.mono t3)
    ·rcases List.mem_append.mp hx with z | z
     ·exact h4 x z
     ·rw [List.mem_singleton.mp z]; exact ⟨ok1, ok2⟩
    ·by_cases hj2 : j < ps.length
     ·rw [List.getElem?_append_left hj2] at hj
      exact h5 j x hj hst
     ·rw [List.getElem?_append_right (by omega)] at hj
      have hk3 : j - ps.length = 0 := by
       cases hh : j - ps.length with
       | zero => rfl
       | succ z => rw [hh] at hj; cases hj
      rw [hk3] at hj
      cases hj
      rw [show j = i by omega, hnn, ok3 hst]
   ·obtain ⟨sb, ps, h2, h3, h4, h5⟩ := h
    rw [List.length_map, List.length_map] at h3
    exact ⟨sb.same n0, ps, p0, ws, rfl, h2, hp2, n0, by omega, h4, h5⟩
  rintro σ H1 ⟨s1, ps, pl, xs, rfl, hP, hpl, nl, hl, hok, hnm⟩
  have hxl := hP.length
  have hsg : ∀ {qs : List Pc}, (∀ x ∈ qs, PcOk x) → (∀ (i : Nat) (x : Pc), qs[i]? = some x → x.isStep = false → ns[i]? = some x.name) → (∀ n ∈ ns, ∀ x ∈ n, isSg x = true) → ∀ x ∈ qs, PcSg x := fun {qs} h1 h2 h3 x hx => by
   obtain ⟨i, hi⟩ := List.mem_iff_getElem?.mp hx
   have ok := h1 x hx
   refine ⟨fun l e => ?_, fun a b d e => ?_, fun y hy => ?_⟩
   ·rw [e] at ok; exact ok.2.2.1
   ·rw [e] at ok; exact ⟨ok.2.2.1, ok.2.2.2.1⟩
   ·cases hst : x.isStep with
    | true =>
     cases x with
     | step l => cases hy
     | _ => cases hst
    | false => exact h3 _ (List.mem_of_getElem? (h2 i x hi hst)) y hy
  walk_at "rd"
  have neN : ∀ (H2 : Hp) (p2 : Addr) (R : Bool → Hp → Prop), Same H1 H2 → H2 p2 = some (.lst []) → R (!ps.isEmpty) H2 → rNeD (V.ref pl) (V.ref p2) H2 fun x H' => ∃ k, x = V.bl k ∧ R k H' := fun H2 p2 R s2 h2 hR => by
   refine ⟨.list (ps.map pcD), .list [], .lst (s2 _ _ hpl) (hP.mono s2.toT).isT.is, .lst h2 .nil, (kqO (hsg (fun x hx => (hok x hx).1) hnm hns)).shaped (by decide), by decide +kernel, _, rfl, ?_⟩
   rw [iqY, List.isEmpty_map]
   exact hR
  refine ⟨fun σ H2 => Same H H2 ∧ ∃ (ps : List Pc) (xs : List V), σ = [some (.int c), some (.ref pn), some (.ref pc), some (.ref pl)] ∧ PcT H2 ps xs ∧ H2 pl = some (.lst xs) ∧ ps.length = cs.length ∧ PatOk ps ∧ (∀ (i : Nat) (x : Pc), ps[i]? = some x → x.isStep = false → ns[i]? = some x.name), ⟨by decide, ?_⟩, ?_⟩
  ·have stay : ∀ H2, Same H1 H2 → Same H H2 ∧ ∃ (ps' : List Pc) (xs : List V), [some (V.int c), some (V.ref pn), some (V.ref pc), some (V.ref pl)] = [some (V.int c), some (.ref pn), some (.ref pc), some (.ref pl)] ∧ PcT H2 ps' xs ∧ H2 pl = some (.lst xs) ∧ ps'.length = cs.length ∧ PatOk ps' ∧ (∀ (i : Nat) (x : Pc), ps'[i]? = some x → x.isStep = false → ns[i]? = some x.name) := fun H2 s2 =>
    ⟨s1.trans s2, ps, xs, rfl, hP.mono s2.toT, s2 _ _ hpl, hl, ⟨fun x hx => (hok x hx).1, fun i x hi hr => by rw [(hok x (List.mem_of_getElem? hi)).2] at hr; cases hr⟩, hnm⟩
   refine ite2 (fun _ => ⟨by decide, fun p2 H2 n2 s2 hp2 => neN H2 p2 _ s2 hp2 ?_⟩) (fun _ => stay H1 (Same.refl _))
   refine ite2 (fun he => ?_) (fun _ => stay H2 s2)
   have hne : ps ≠ [] := fun z => by rw [z] at he; cases he
   have hpos : 0 < ps.length := List.length_pos_iff.mpr hne
   have hnl : ps.length - 1 < ns.length := by omega
   refine ⟨xs, .inl (.of (s2 _ _ hpl)), ns.map tV, tV ns[ps.length - 1], .inl (.of (s2 _ _ (s1 _ _ hpn))), ?_, by decide, fun p3 H3 n3 s3 hp3 => ?_⟩
   ·rw [hxl, show ((ps.length : Int) - 1) = ((ps.length - 1 : Nat) : Int) by omega]
    exact aqg (by rw [List.getElem?_map, List.getElem?_eq_getElem hnl]; rfl)
   have hpl3 := (s2.trans s3) _ _ hpl
   have h3l : p3 ≠ pl := fun z => by rw [z, hpl3] at hp3; cases hp3
   refine ⟨xs, xs.length - 1, hpl3, ?_, ?_⟩
   ·have hx0 : 0 < xs.length := by omega
    unfold ixN
    rw [if_neg (by omega)]
    rw [if_pos (by omega)]
    congr 1
    omega
   refine ⟨?_, ps.take (ps.length - 1) ++ [.rest ns[ps.length - 1]], _, rfl, ?_, aqk, ?_, ⟨fun x hx => ?_, fun i x hi hr => ?_⟩, fun i x hi hst => ?_⟩
   ·exact fun b o e => by rw [aqw (aqo e nl)]; exact (s1.trans (s2.trans s3)) _ _ e
   ·have ex : xs.set (xs.length - 1) (.ref p3) = xs.take (ps.length - 1) ++ [.ref p3] := by
     rw [List.set_eq_take_append_cons_drop, if_pos (by omega), hxl, List.drop_eq_nil_of_le (by omega)]
    rw [ex]
    have t3 : SameT H1 (upd H3 pl (.lst (xs.take (ps.length - 1) ++ [.ref p3]))) := fun b ys e => by
     rw [aqw (fun z => by rw [z, hpl] at e; cases e)]
     exact (s2.trans s3) _ _ e
    exact PcT.append (.cons (by rw [aqw h3l]; exact hp3) .nil) ((hP.mono t3).take _)
   ·rw [List.length_append, List.length_take, List.length_singleton]; omega
   ·rcases List.mem_append.mp hx with z | z
    ·exact (hok x (List.mem_of_mem_take z)).1
    ·rw [List.mem_singleton.mp z]; trivial
   ·rw [List.length_append, List.length_take, List.length_singleton]
    by_cases hi2 : i < ps.length - 1
    ·rw [List.getElem?_append_left (by rw [List.length_take]; omega)] at hi
     have := (hok x (List.mem_of_mem_take (List.mem_of_getElem? hi))).2
     rw [this] at hr; cases hr
    ·have := (List.getElem?_eq_some_iff.mp hi).1
     rw [List.length_append, List.length_take, List.length_singleton] at this
     omega
   ·by_cases hi2 : i < ps.length - 1
    ·rw [List.getElem?_append_left (by rw [List.length_take]; omega), List.getElem?_take, if_pos hi2] at hi
     exact hnm i x hi hst
    ·have h9 := (List.getElem?_eq_some_iff.mp hi).1
     rw [List.length_append, List.length_take, List.length_singleton] at h9
     have hi3 : i = ps.length - 1 := by omega
     rw [List.getElem?_append_right (by rw [List.length_take]; omega), List.length_take, show i - min (ps.length - 1) ps.length = 0 by omega] at hi
     cases hi
     rw [hi3, List.getElem?_eq_getElem hnl]
     rfl
  clear hP hpl hok hnm hxl hl neN
  rintro σ H2 ⟨s2, ps, xs, rfl, hP, hpl, hl, hok, hnm⟩
  walk_at "rd"
  refine ⟨xs, .inl (.of hpl), fun l H3 s3 hl3 => ⟨by decide, fun p4 H4 n4 s4 hp4 => ?_⟩⟩
  have s24 := s3.trans s4
  refine ⟨.list (ps.map pcD), .list [], .lst (s24 _ _ hpl) (hP.mono s24.toT).isT.is, .lst hp4 .nil, (kqO (hsg hok.1 hnm hns)).shaped (by decide), by decide +kernel, _, rfl, ?_⟩
  rw [iqY, List.isEmpty_map]
  refine ite2 (fun he => ⟨by decide, fun p5 H5 n5 s5 hp5 => ?_⟩) (fun he => ⟨⟨by decide, by decide⟩, by decide, by decide, fun p5 H5 n5 s5 hp5 => ?_⟩)
  ·exact k ps true p5 l xs H5 hok hl hnm (fun _ => rfl) ((s2.trans s24).trans s5) ((s4.trans s5) _ _ hl3) (hP.mono (s24.trans s5).toT) hp5
  ·exact k ps _ p5 l xs H5 hok hl hnm (fun z => absurd (by rw [z]; rfl) he) ((s2.trans s24).trans s5) ((s4.trans s5) _ _ hl3) (hP.mono (s24.trans s5).toT) hp5
theorem fqG (g : G K mg) : FnOk P w K mg base CX0 6 g.dqj g.cqs ["thing"] (dqS K) := by
 refine g.cq9.ok iqm (fun vs H Q E h => ?_) (fun cdv A outer s H vs Q E hr h => ?_)
 ·obtain ⟨d, v, rfl, _⟩ := h; rfl
 ·obtain ⟨d, v, rfl, hv, hs, k⟩ := h
  refine ⟨_, (aqe (aqF (PW.pt (eqe (cqF (bqe (aqn (dqT g) (hr.mono (by decide)) rfl g.dqw g.cqB.kp g.dqz .nil pass0 (aqa (pv 0) (aqa aqd aqb))))) (eqe (cqF (bqe (aqt cqQ rfl g.aqv aqp (aqa (aqy (aqh (K := K) rfl) (pv 0) (aqx (v := iqR) rfl g.gqS ⟨_, rfl⟩) (fun _ _ => rfl)) (aqa (dql (v := .ty "tuple") rfl g.fqo eqC rfl) aqb))))) (dqq (cqF (bqe (aqt cqQ rfl g.aqv aqp (aqa (aqy (aqh (K := K) rfl) (pv 0) (aqx (v := kqT) rfl g.iqt ⟨_, rfl⟩) (fun _ _ => rfl)) (aqa (dql (v := .ty "bool") rfl g.oqg pqj rfl) aqb)))))))))
    (aqf (aql jqk)) aqr)
   (aqf (aql (cqo (aqn (iqz g) (hr.mono (by decide)) rfl g.gqx g.eqn.kp g.gqz .nil pass0 (aqa (aqy (aqh (K := K) rfl) (pv 0) (aqx (v := iqR) rfl g.gqS ⟨_, rfl⟩) (fun _ _ => rfl)) aqb)) (cqX (oqv (aqy (aqh (K := K) rfl) (pv 0) (aqx (v := kqT) rfl g.iqt ⟨_, rfl⟩) (fun _ _ => rfl)) (cqX (bqb mqJ (aqt (aqI (K := K) rfl) rfl g.eqj PySem.boot_len (aqa (aqy (aqh (K := K) rfl) (pv 0) (aqx (v := iqR) rfl g.gqS ⟨_, rfl⟩) (fun _ _ => rfl)) aqb)) aqd (nomark _))))))))), ?_⟩
  walk_at "rd"
  refine ⟨d, v, 2, rfl, hv, _, rfl, ?_⟩
  cases hv with
  | @tup p xs ds hp r =>
   have sAll := (gq0 hs).2
   have out : (∀ l e, ds ≠ [.tuple l, .bool e]) → Q (.bl false) H := fun hn => by
    have e2 : patD (.tuple ds) = false := by
     unfold patD
     split
     ·next l e h => cases h; exact absurd rfl (hn l e)
     ·rfl
    rw [← e2]
    exact k H (Same.refl _)
   refine ite2 (fun h => out fun l e z => by rw [z] at h; exact absurd h (by rw [show tupN 2 (.tuple [.tuple l, .bool e]) = true from cqb (n := 2).mpr rfl]; decide)) (fun h => ?_)
   have hln := cqb (n := 2).mp ((Bool.not_eq_false _).mp h)
   cases r with
   | nil => cases hln
   | @cons d0 x0 ds1 xs1 g0 r1 =>
    cases r1 with
    | nil => cases hln
    | @cons d1 x1 ds2 xs2 g1 r2 =>
     cases r2 with
     | cons _ _ => simp at hln
     | nil =>
      walk_at "rd"
      refine ⟨_, _, .inr (.of hp), aqg (j := 0) rfl, ?_⟩
      cases g0 with
      | @tup q ys l hq ry =>
       refine ⟨_, L2.dqD hq, ite2 (fun z => absurd z (by decide)) (fun _ => ⟨_, _, .inr (.of hp), aqg (j := 1) rfl, ?_⟩)⟩
       cases g1 with
       | bl e =>
        refine ⟨_, L2.fq9, ite2 (fun z => absurd z (by decide)) (fun _ => ⟨_, _, .inr (.of hp), aqg (j := 0) rfl, l, ys, q, rfl, hq, ry, cq8 sAll (List.mem_cons_self ..), fun H1 s1 => ⟨_, rfl, ?_⟩⟩)⟩
        have eP : patD (.tuple [.tuple l, .bool e]) = (piecesD l && (e || decide (0 < l.length))) := rfl
        rw [eP] at k
        have hyl := gqf ry
        refine ite2 (fun h1 => ⟨_, _, .inr (.of (s1 _ _ hp)), aqg (j := 1) rfl, e, rfl, ?_⟩) (fun h1 => ?_)
        ·rw [h1, Bool.true_and] at k
         cases e with
         | true => exact ite2 (fun _ => k H1 s1) (fun z => absurd rfl z)
         | false =>
          refine ite2 (fun z => by cases z) (fun _ => ⟨_, _, .inr (.of (s1 _ _ hp)), aqg (j := 0) rfl, ?_⟩)
          walk_at "rd"
          refine ⟨_, .inr (.of (s1 _ _ hq)), ?_⟩
          have e3 : decide ((0 : Int) < (ys.length : Int)) = (false || decide (0 < l.length)) := by
           rw [Bool.false_or, decide_eq_decide]
           omega
          rw [e3]
          exact k H1 s1
        ·rw [Bool.eq_false_iff.mpr h1, Bool.false_and] at k
         exact k H1 s1
       | lst hq r => exact ⟨_, L2.dqZ hq, ite2 (fun _ => k H (Same.refl _)) (fun z => absurd (by decide) z)⟩
       | tup hq r => exact ⟨_, L2.dqD hq, ite2 (fun _ => k H (Same.refl _)) (fun z => absurd (by decide) z)⟩
       | str x => exact ⟨_, L2.eqG, ite2 (fun _ => k H (Same.refl _)) (fun z => absurd (by decide) z)⟩
       | non => exact ⟨_, L2.eqT, ite2 (fun _ => k H (Same.refl _)) (fun z => absurd (by decide) z)⟩
       | int i => exact ⟨_, L2.eqM, ite2 (fun _ => k H (Same.refl _)) (fun z => absurd (by decide) z)⟩
      | lst hq r => exact ⟨_, L2.dqZ hq, ite2 (fun _ => out (fun l e z => by cases z)) (fun z => absurd (by decide) z)⟩
      | str x => exact ⟨_, L2.eqG, ite2 (fun _ => out (fun l e z => by cases z)) (fun z => absurd (by decide) z)⟩
      | non => exact ⟨_, L2.eqT, ite2 (fun _ => out (fun l e z => by cases z)) (fun z => absurd (by decide) z)⟩
      | bl b => exact ⟨_, L2.fq9, ite2 (fun _ => out (fun l e z => by cases z)) (fun z => absurd (by decide) z)⟩
      | int i => exact ⟨_, L2.eqM, ite2 (fun _ => out (fun l e z => by cases z)) (fun z => absurd (by decide) z)⟩
  | _ => exact ite2 (fun _ => k H (Same.refl _)) (fun z => absurd rfl z)
theorem fq6 (g : G K mg) : FnOk P w K mg base CX0 6 g.dqh g.cqy ["text"] (dqL K) := by
 refine g.dqf.ok dqI (fun vs H Q E h => ?_) (fun cdv A outer s H vs Q E hr h => ?_)
 ·obtain ⟨t, rfl, _⟩ := h; rfl
 ·obtain ⟨t, rfl, l1, c1, k⟩ := h
  refine ⟨_, (aqe (aqs (i := 1) dqI.nd rfl (Or.inl rfl) (cqC (K := K) rfl PySem.F.plainAttrs_str PySem.F.slot_str_partition PySem.F.type_str_partition equ (pv 0) (aqa aqc aqb)))
   (aqe (aqF (aqm aq3 (aqy (aqh (K := K) rfl) (pv 1) aqd (fun _ _ => rfl)) aqc (nomark _))
    (aqf (aql (aqV (aqa aqc (aqa (aqn (hqn g) (hr.mono (by decide)) rfl g.gqR g.fqB.kp g.gqN .nil pass0 (aqa (pv 0) (aqa (aqx (v := aq7) rfl g.bqE ⟨_, rfl⟩) aqb))) aqb))))) aqr)
   (aqe (aqs (i := 2) dqI.nd rfl (Or.inl rfl) (cqC (K := K) rfl PySem.F.plainAttrs_str PySem.F.slot_str_partition PySem.F.type_str_partition equ (aqy (aqh (K := K) rfl) (pv 1) aqd (fun _ _ => rfl)) (aqa aqc aqb)))
   (aqe (aqF (aqm aq3 (aqy (aqh (K := K) rfl) (pv 2) aqd (fun _ _ => rfl)) aqc (nomark _))
    (aqf (aql dqu)) aqr)
   (aqf (aql (aqn (kqn g) (hr.mono (by decide)) rfl g.iqi g.gqa.kp g.hq5 .nil pass0 (aqa (aqy (aqh (K := K) rfl) (pv 1) aqd (fun _ _ => rfl)) (aqa (aqy (aqh (K := K) rfl) (pv 2) aqd (fun _ _ => rfl)) (aqa (aqy (aqh (K := K) rfl) (pv 2) aqd (fun _ _ => rfl)) aqb)))))))))), ?_⟩
  have b1 : Str.ofString "{" = ⟨[123].toArray⟩ := by decide +kernel
  have b2 : Str.ofString "}" = ⟨[125].toArray⟩ := by decide +kernel
  have eF : aq7 = .str ⟨frS.toArray⟩ := congrArg V.str (bqq _).symm
  rw [b1, b2, eF]
  walk_at "rd"
  refine ⟨by decide, aqu (by omega), fun p hp => ?_⟩
  have sm : ∀ o, Same H (upd H p o) := fun o => aqG hp
  by_cases hm : 123 ∈ t
  ·obtain ⟨a, b, et, ha, ea, eb⟩ := gql hm
   have hl := congrArg List.length et
   rw [List.length_append, List.length_cons] at hl
   have ca : ∀ c ∈ a, c < 128 := fun c hc => c1 c (by rw [et]; exact List.mem_append_left _ hc)
   have cb : ∀ c ∈ b, c < 128 := fun c hc => c1 c (by rw [et]; exact List.mem_append_right _ (List.mem_cons_of_mem _ hc))
   have eg : rpcD t = if 125 ∈ b then gapD a (bfo 125 b) (aft 125 b) else .none := by
    unfold rpcD; rw [if_pos hm, ea, eb]
   rw [eg] at k
   rw [show Txt.partition ⟨t.toArray⟩ ⟨#[123]⟩ = _ from jq5 hm, ea, eb]
   refine ⟨_, _, .inr (.of aqk), aqg (j := 1) rfl, aqE.mpr ⟨_, rfl, ite2 (fun z => absurd (of_decide_eq_true z) (show (⟨#[123]⟩ : Str) ≠ ⟨#[]⟩ by decide)) (fun _ => ?_)⟩⟩
   generalize hH : upd H p _ = H1
   have s1 : Same H H1 := hH ▸ sm _
   have hp1 : SqT K H1 p [.str (mkS a), .str (mkS [123]), .str (mkS b)] := hH ▸ .of aqk
   refine ⟨_, _, .inr hp1, aqg (j := 2) rfl, ?_⟩
   walk_at "rd"
   refine ⟨by decide, aqu (by omega), fun p2 hp2 => ?_⟩
   have sm2 : ∀ o, Same H (upd H1 p2 o) := fun o => s1.trans (aqG hp2)
   by_cases hm2 : 125 ∈ b
   ·obtain ⟨a2, b2, et2, ha2, ea2, eb2⟩ := gql hm2
    rw [if_pos hm2, ea2, eb2] at k
    have hl2 := congrArg List.length et2
    rw [List.length_append, List.length_cons] at hl2
    rw [show Txt.partition ⟨b.toArray⟩ ⟨#[125]⟩ = _ from jq5 hm2, ea2, eb2]
    refine ⟨_, _, .inr (.of aqk), aqg (j := 1) rfl, aqE.mpr ⟨_, rfl, ite2 (fun z => absurd (of_decide_eq_true z) (show (⟨#[125]⟩ : Str) ≠ ⟨#[]⟩ by decide)) (fun _ => ?_)⟩⟩
    refine ⟨_, _, .inr ((aqG hp2).tup hp1), aqg (j := 0) rfl, _, _, .inr (.of aqk), aqg (j := 0) rfl, _, _, .inr (.of aqk), aqg (j := 2) rfl, ?_⟩
    exact ⟨a, a2, b2, rfl, by omega, by omega, by omega, ca, fun c hc => cb c (by rw [et2]; exact List.mem_append_right _ (List.mem_cons_of_mem _ hc)), fun v H2 s2 hv => k v H2 ((sm2 _).trans s2) hv⟩
   ·rw [if_neg hm2] at k
    rw [show Txt.partition ⟨b.toArray⟩ ⟨#[125]⟩ = _ from jqW hm2]
    refine ⟨_, _, .inr (.of aqk), aqg (j := 1) rfl, aqE.mpr ⟨_, rfl, ite2 (fun _ => k _ _ (sm2 _) .non) (fun z => absurd (decide_eq_true rfl) z)⟩⟩
  ·have eg : rpcD t = .tuple [.str (Str.ofString "step"), oD (und frS t)] := by
    unfold rpcD; rw [if_neg hm]
   rw [eg] at k
   rw [show Txt.partition ⟨t.toArray⟩ ⟨#[123]⟩ = _ from jqW hm]
   refine ⟨_, _, .inr (.of aqk), aqg (j := 1) rfl, aqE.mpr ⟨_, rfl, ite2 (fun _ => ?_) (fun z => absurd (decide_eq_true rfl) z)⟩⟩
   exact ⟨l1, c1, fun H1 s1 => ⟨by decide, fun p2 H2 n2 s2 e2 => k _ _ ((sm _).trans (s1.trans s2)) (.tup e2 (.cons (.str _) (.cons (jq6 _) .nil)))⟩⟩
theorem dq7 (g : G K mg) : FnOk P w K mg base CX0 7 g.bql g.bqa ["text"] (eqt K) := by
 refine g.aqT.ok aqD (fun vs H Q E h => ?_) (fun cdv A outer s H vs Q E hr h => ?_)
 ·obtain ⟨ts, rfl, _⟩ := h; rfl
 ·obtain ⟨ts, rfl, h0, hf, hl, hc, hp, k⟩ := h
  refine ⟨_, (aqe (aqF (PW.pt (eqe (cqF (bqe (aqt iqW rfl g.aqv aqp (aqa (pv 0) (aqa (dql (v := .ty "str") rfl g.kq4 jqB rfl) aqb))))) (dqq (cqF (bqe (cqC (K := K) rfl PySem.F.plainAttrs_str PySem.F.slot_str_startswith PySem.F.type_str_startswith jql (pv 0) (aqa aqc aqb)))))))
    (aqf kq2) aqr)
   (aqe (aqs (i := 1) aqD.nd rfl (Or.inl rfl) (cqC (K := K) rfl PySem.F.plainAttrs_str PySem.F.slot_str_split PySem.F.type_str_split iqy (bqO (hqk (K := K) rfl) (pv 0) (bqU aqd) dqJ) (aqa aqc aqb)))
   (aqe (aqs (i := 2) aqD.nd rfl (Or.inl rfl) (bqb aq3 (aqy (aqh (K := K) rfl) (pv 1) (kq7 iqe aqd) (fun _ _ => rfl)) aqc (nomark _)))
   (aqe (aqs (i := 3) aqD.nd rfl (Or.inl rfl) (gq8 (fqq (K := K) rfl) rfl g.fqo eqC (aqa (fqm (fx := []) (fr := []) rfl rfl (by decide +kernel) rfl (by decide +kernel) rfl (by decide +kernel) rfl .nil rfl (kqJ (K := K) rfl (fqV (bqe (pv 2)) (bqO (fqL (K := K) rfl) (pv 1) dqJ (bqU (kq7 iqe aqd))) (pv 1))) (fun _ _ _ => hqR) (fun _ _ _ => (aqn (fq6 g) (hr.mono (by decide)) rfl g.eqm g.dqf.kp g.eqy .nil pass0 (aqa (pv 0) aqb)))) aqb)))
   (aqe (aqF (cqF (bqe (aqn (fqG g) (hr.mono (by decide)) rfl g.eqx g.cq9.kp g.dq8 .nil pass0 (aqa (aqV (aqa (pv 3) (aqa (pv 2) aqb))) aqb))))
    (aqf kq2) aqr)
   (aqf (aql (aqV (aqa (pv 3) (aqa (pv 2) aqb)))))))))), ?_⟩
  have b1 : Str.ofString "/" = ⟨[47].toArray⟩ := by decide +kernel
  rw [b1]
  walk_at "rd"
  refine ⟨_, _, _, _, rfl, .str _, dqC K "str" (by decide) "str" (by decide), _, rfl, ite2 (fun z => by cases z) (fun _ => ?_)⟩
  have hj : (joinT 47 ts).length ≤ 70100 := by
   have := (fqD 47 700 (ws := ts) fun t ht => (hc t ht).1).1
   have : ts.length * 701 ≤ 100 * 701 := Nat.mul_le_mul_right _ hl
   omega
  refine ite2 (fun z => absurd rfl z) (fun _ => ⟨aqu (by omega), by omega, fun pt nt => ?_⟩)
  rw [show Txt.split ⟨(joinT 47 ts).toArray⟩ ⟨#[47]⟩ = ts.map mkS from gqo hf h0, List.map_map]
  have s1 : ∀ o, Same H (upd H pt o) := fun o => aqG nt
  generalize hH : upd H pt _ = H1
  have s1 : Same H H1 := hH ▸ s1 _
  have ht1 : SqL K H1 pt (ts.map tV) := hH ▸ .of aqk
  obtain ⟨tl, htl⟩ : ∃ tl, ts.getLast? = some tl := ⟨_, List.getLast?_eq_some_getLast h0⟩
  have eE : rptE ts = decide (mkS tl = ⟨#[]⟩) := by
   unfold rptE
   rw [htl, decide_eq_decide, jqd]
   exact ⟨fun z => by cases z; rfl, fun z => by rw [z]⟩
  refine ⟨_, _, .inl ht1, kqE tV htl, aqE.mpr ⟨_, rfl, ?_⟩⟩
  rw [← eE]
  have hL : (rptL ts).length ≤ ts.length ∧ ∀ t ∈ rptL ts, t ∈ ts := by
   unfold rptL
   split
   ·exact ⟨by rw [List.length_dropLast]; omega, fun t ht => List.dropLast_subset _ ht⟩
   ·exact ⟨Nat.le_refl _, fun t ht => ht⟩
  have F : ∀ (pl : Addr) (ys : List V) (H3 : Hp), Same H H3 → H3 pl = some (.lst ys) → IsTAll H3 ((rptL ts).map rpcD) ys → rTupleS K [.ref pl] H3 fun x H1 => 2 ≤ sizeLine ∧ ∀ (p : Addr) (H' : Hp), H1 p = none → Same H1 H' → H' p = some (HO.tup [x, V.bl (rptE ts)]) → dqS K [V.ref p] H' (fun x_1 H' => ∃ k, x_1 = V.bl k ∧ if k = false then False else 2 ≤ sizeLine ∧ ∀ (p : Addr) (H'_1 : Hp), H' p = none → Same H' H'_1 → H'_1 p = some (HO.tup [x, V.bl (rptE ts)]) → Q (V.ref p) H'_1) E0 := fun pl ys H3 s3 e3 i3 => by
   have hyl := i3.length
   rw [List.length_map] at hyl
   refine ⟨pl, ys, rfl, .inl (.of e3), fun p4 H4 s4 e4 => ⟨by decide, fun p5 H5 n5 s5 e5 => ?_⟩⟩
   have u5 := s3.trans (s4.trans s5)
   have i5 : IsT H5 (rptD ts) (.ref p5) := .tup e5 (.cons (.tup (s5 _ _ e4) (i3.mono (s4.trans s5).toT)) (.cons (.bl _) .nil))
   refine ⟨_, _, rfl, i5.is, iq1 (by omega) (fun t ht => by have := (hc t ht).1; omega), fun H6 s6 => ⟨_, rfl, ite2 (fun z => ?_) (fun _ => ⟨by decide, fun p7 H7 n7 s7 e7 => ?_⟩)⟩⟩
   ·rw [hp] at z; cases z
   ·exact k _ _ (u5.trans (s6.trans s7)) (.tup e7 (.cons (.tup ((s5.trans (s6.trans s7)) _ _ e4) (i3.mono (s4.trans (s5.trans (s6.trans s7))).toT)) (.cons (.bl _) .nil)))
  have W : ∀ (pa : Addr) (H2 : Hp), Same H H2 → SqL K H2 pa ((rptL ts).map tV) → ∀ p, H2 p = none → ∀ Z : VK, (∀ (pl : Addr) (ys : List V) (H3 : Hp), Same H H3 → H3 pl = some (.lst ys) → IsTAll H3 ((rptL ts).map rpcD) ys → Z (.ref pl) H3) → CompI (Itl K pa) p [] tYes (tCall (dqL K) [] E0 (tCons (tVar 0) tNil)) Z H2 := fun pa H2 s2 h2 p np Z hZ => by
   refine iqd h2 (aqu (by rw [List.length_map]; omega)) np (fun x y H' => ∀ t, x = tV t → IsT H' (rpcD t) y) (fun x y Ha Hb sm h t et => (h t et).mono sm) (fun x hx H3 T s3 hT => ?_) (fun ys H3 s3 hA e3 => hZ p ys H3 (s2.trans s3) e3 ?_)
   ·obtain ⟨t, ht, rfl⟩ := List.mem_map.mp hx
    obtain ⟨c1, c2⟩ := hc t (hL.2 t ht)
    walk_at "rd"
    exact ⟨t, rfl, by omega, c2, fun v H4 s4 hv => hT v H4 s4 fun t' et => by cases cqr.mp (V.str.inj et); exact hv⟩
   ·have key : ∀ (l : List (List Nat)) (ys : List V), All2 (fun x y H' => ∀ t, x = tV t → IsT H' (rpcD t) y) H3 (l.map tV) ys → IsTAll H3 (l.map rpcD) ys := fun l => by
     induction l with
     | nil => intro ys h; cases h; exact .nil
     | cons a l ih =>
      intro ys h
      cases h with
      | cons h1 h2 => exact .cons (h1 a rfl) (ih _ h2)
    exact key _ _ hA
  refine ite2 (fun he => ⟨_, ht1, fun p2 H2 n2 s2 e2 => ?_⟩) (fun he => ?_)
  ·have eL : cutV (ts.map tV) none (some (-1)) = (rptL ts).map tV := by
    rw [iqn]
    unfold rptL
    rw [if_pos he]
    exact List.map_dropLast.symm
   rw [eL] at e2
   exact ⟨⟨_, .of e2⟩, fun p np => W p2 H2 (s1.trans s2) (.of e2) p np _ F⟩
  ·have eL : ts = rptL ts := by
    unfold rptL
    rw [if_neg he]
   exact ⟨⟨_, ht1⟩, fun p np => W pt H1 s1 (eL ▸ ht1) p np _ F⟩
theorem gqH (g : G K mg) : FnOk P w K mg base (CXE P w base) 7 g.bql g.bqa ["text"] (gqJ K g.aqq) := by
 refine g.aqT.okx aqD (fun vs H Q E h => ?_) (fun cdv A outer s H vs Q E hr h => ?_)
 ·obtain ⟨v, rfl, _⟩ := h; rfl
 ·obtain ⟨v, rfl, hv, k⟩ := h
  refine ⟨_, (aqe (aqF (PW.pt (eqe (cqF (bqe (aqt iqW rfl g.aqv aqp (aqa (pv 0) (aqa (dql (v := .ty "str") rfl g.kq4 jqB rfl) aqb))))) (dqq (cqF (bqe (cqC (K := K) rfl PySem.F.plainAttrs_str PySem.F.slot_str_startswith PySem.F.type_str_startswith jql (pv 0) (aqa aqc aqb)))))))
    (aqf (iq2 jqz rfl g.dqK g.fqg rfl)) aqr)
   (aqe (aqs (i := 1) aqD.nd rfl (Or.inl rfl) (cqC (K := K) rfl PySem.F.plainAttrs_str PySem.F.slot_str_split PySem.F.type_str_split iqy (bqO (hqk (K := K) rfl) (pv 0) (bqU aqd) dqJ) (aqa aqc aqb)))
   (aqe (aqs (i := 2) aqD.nd rfl (Or.inl rfl) (bqb aq3 (aqy (aqh (K := K) rfl) (pv 1) (kq7 iqe aqd) (fun _ _ => rfl)) aqc (nomark _)))
   (aqe (aqs (i := 3) aqD.nd rfl (Or.inl rfl) (gq8 (fqq (K := K) rfl) rfl g.fqo eqC (aqa (fqm (fx := []) (fr := []) rfl rfl (by decide +kernel) rfl (by decide +kernel) rfl (by decide +kernel) rfl .nil rfl (kqJ (K := K) rfl (fqV (bqe (pv 2)) (bqO (fqL (K := K) rfl) (pv 1) dqJ (bqU (kq7 iqe aqd))) (pv 1))) (fun _ _ _ => hqR) (fun _ _ _ => (aqn (fq6 g) (hr.mono (by decide)) rfl g.eqm g.dqf.kp g.eqy .nil pass0 (aqa (pv 0) aqb)))) aqb)))
   (aqe (aqF (cqF (bqe (aqn (fqG g) (hr.mono (by decide)) rfl g.eqx g.cq9.kp g.dq8 .nil pass0 (aqa (aqV (aqa (pv 3) (aqa (pv 2) aqb))) aqb))))
    (aqf (iq2 jqz rfl g.dqK g.fqg rfl)) aqr)
   (aqf (aql (aqV (aqa (pv 3) (aqa (pv 2) aqb)))))))))), ?_⟩
  have b1 : Str.ofString "/" = ⟨[47].toArray⟩ := by decide +kernel
  rw [b1]
  walk_at "rd"
  rcases hv with ⟨ty, h1, h2⟩ | ⟨t, rfl, ht⟩ | ⟨ts, rfl, h0, hf, hl, hc, hp⟩
  ·exact ⟨_, _, _, _, rfl, h1, h2, _, rfl, ite2 (fun _ => k H (Same.refl _)) (fun z => absurd rfl z)⟩
  ·refine ⟨_, _, _, _, rfl, .str _, dqC K "str" (by decide) "str" (by decide), _, rfl, ite2 (fun z => by cases z) (fun _ => ?_)⟩
   walk_at "rd"
   exact ite2 (fun _ => k H (Same.refl _)) (fun z => absurd z (fun y => y ht))
  refine ⟨_, _, _, _, rfl, .str _, dqC K "str" (by decide) "str" (by decide), _, rfl, ite2 (fun z => by cases z) (fun _ => ?_)⟩
  walk_at "rd"
  have hj : (joinT 47 ts).length ≤ 80100 := by
   have := (fqD 47 800 (ws := ts) fun t ht => (hc t ht).1).1
   have : ts.length * 801 ≤ 100 * 801 := Nat.mul_le_mul_right _ hl
   omega
  refine ite2 (fun z => absurd rfl z) (fun _ => ⟨aqu (by omega), by omega, fun pt nt => ?_⟩)
  rw [show Txt.split ⟨(joinT 47 ts).toArray⟩ ⟨#[47]⟩ = ts.map mkS from gqo hf h0, List.map_map]
  have s1 : ∀ o, Same H (upd H pt o) := fun o => aqG nt
  generalize hH : upd H pt _ = H1
  have s1 : Same H H1 := hH ▸ s1 _
  have ht1 : SqL K H1 pt (ts.map tV) := hH ▸ .of aqk
  obtain ⟨tl, htl⟩ : ∃ tl, ts.getLast? = some tl := ⟨_, List.getLast?_eq_some_getLast h0⟩
  have eE : rptE ts = decide (mkS tl = ⟨#[]⟩) := by
   unfold rptE
   rw [htl, decide_eq_decide, jqd]
   exact ⟨fun z => by cases z; rfl, fun z => by rw [z]⟩
  refine ⟨_, _, .inl ht1, kqE tV htl, aqE.mpr ⟨_, rfl, ?_⟩⟩
  rw [← eE]
  have hL : (rptL ts).length ≤ ts.length ∧ ∀ t ∈ rptL ts, t ∈ ts := by
   unfold rptL
   split
   ·exact ⟨by rw [List.length_dropLast]; omega, fun t ht => List.dropLast_subset _ ht⟩
   ·exact ⟨Nat.le_refl _, fun t ht => ht⟩
  have F : ∀ (pl : Addr) (ys : List V) (H3 : Hp), Same H H3 → H3 pl = some (.lst ys) → IsTAll H3 ((rptL ts).map rpcD) ys → rTupleS K [.ref pl] H3 fun x H1 => 2 ≤ sizeLine ∧ ∀ (p : Addr) (H' : Hp), H1 p = none → Same H1 H' → H' p = some (HO.tup [x, V.bl (rptE ts)]) → dqS K [V.ref p] H' (fun x_1 H' => ∃ k, x_1 = V.bl k ∧ if k = false then E (.ref g.aqq) none H' else 2 ≤ sizeLine ∧ ∀ (p : Addr) (H'_1 : Hp), H' p = none → Same H' H'_1 → H'_1 p = some (HO.tup [x, V.bl (rptE ts)]) → Q (V.ref p) H'_1) E0 := fun pl ys H3 s3 e3 i3 => by
   have hyl := i3.length
   rw [List.length_map] at hyl
   refine ⟨pl, ys, rfl, .inl (.of e3), fun p4 H4 s4 e4 => ⟨by decide, fun p5 H5 n5 s5 e5 => ?_⟩⟩
   have u5 := s3.trans (s4.trans s5)
   have i5 : IsT H5 (rptD ts) (.ref p5) := .tup e5 (.cons (.tup (s5 _ _ e4) (i3.mono (s4.trans s5).toT)) (.cons (.bl _) .nil))
   exact ⟨_, _, rfl, i5.is, iq1 (by omega) (fun t ht => by have := (hc t ht).1; omega), fun H6 s6 => ⟨_, rfl, ite2 (fun _ => k _ (u5.trans s6)) (fun z => absurd hp z)⟩⟩
  have W : ∀ (pa : Addr) (H2 : Hp), Same H H2 → SqL K H2 pa ((rptL ts).map tV) → ∀ p, H2 p = none → ∀ Z : VK, (∀ (pl : Addr) (ys : List V) (H3 : Hp), Same H H3 → H3 pl = some (.lst ys) → IsTAll H3 ((rptL ts).map rpcD) ys → Z (.ref pl) H3) → CompI (Itl K pa) p [] tYes (tCall (dqL K) [] E0 (tCons (tVar 0) tNil)) Z H2 := fun pa H2 s2 h2 p np Z hZ => by
   refine iqd h2 (aqu (by rw [List.length_map]; omega)) np (fun x y H' => ∀ t, x = tV t → IsT H' (rpcD t) y) (fun x y Ha Hb sm h t et => (h t et).mono sm) (fun x hx H3 T s3 hT => ?_) (fun ys H3 s3 hA e3 => hZ p ys H3 (s2.trans s3) e3 ?_)
   ·obtain ⟨t, ht, rfl⟩ := List.mem_map.mp hx
    obtain ⟨c1, c2⟩ := hc t (hL.2 t ht)
    walk_at "rd"
    exact ⟨t, rfl, by omega, c2, fun v H4 s4 hv => hT v H4 s4 fun t' et => by cases cqr.mp (V.str.inj et); exact hv⟩
   ·have key : ∀ (l : List (List Nat)) (ys : List V), All2 (fun x y H' => ∀ t, x = tV t → IsT H' (rpcD t) y) H3 (l.map tV) ys → IsTAll H3 (l.map rpcD) ys := fun l => by
     induction l with
     | nil => intro ys h; cases h; exact .nil
     | cons a l ih =>
      intro ys h
      cases h with
      | cons h1 h2 => exact .cons (h1 a rfl) (ih _ h2)
    exact key _ _ hA
  refine ite2 (fun he => ⟨_, ht1, fun p2 H2 n2 s2 e2 => ?_⟩) (fun he => ?_)
  ·have eL : cutV (ts.map tV) none (some (-1)) = (rptL ts).map tV := by
    rw [iqn]
    unfold rptL
    rw [if_pos he]
    exact List.map_dropLast.symm
   rw [eL] at e2
   exact ⟨⟨_, .of e2⟩, fun p np => W p2 H2 (s1.trans s2) (.of e2) p np _ F⟩
  ·have eL : ts = rptL ts := by
    unfold rptL
    rw [if_neg he]
   exact ⟨⟨_, ht1⟩, fun p np => W pt H1 s1 (eL ▸ ht1) p np _ F⟩
theorem hqC (g : G K mg) : FnOk P w K mg base CX0 8 g.cqg g.bqL ["_law_text_here"] (hqz K) := by
 refine g.dqk.ok bqF (fun vs H Q E h => ?_) (fun cdv A outer s H vs Q E hr h => ?_)
 ·obtain ⟨v, rfl, _⟩ := h; rfl
 ·obtain ⟨v, rfl, hv, k⟩ := h
  refine ⟨_, (aqe (aqs (i := 1) bqF.nd rfl (Or.inl rfl) dqu)
   (aqe (kq3 (i := 2) (gqH g) (hr.mono (by decide)) rfl g.bq1 g.aqT.kp g.bq2 (aqa (pv 0) aqb) (fun _ _ h => h) rfl rfl rfl g.iqa g.hqZ bqF.nd rfl rfl (fun _ => (aqf (aqs (i := 1) bqF.nd rfl (Or.inl rfl) (pv 2)))))
   (aqe (aqF (PW.pt (eqe (cqF (bqe (aqt (cqS (K := K) rfl) rfl g.aqv aqp (aqa (pv 1) (aqa (aqx (v := .ref g.aqq) rfl g.dqK rfl) aqb))))) (dqq (cqF (bqe (aqt (cqS (K := K) rfl) rfl g.aqv aqp (aqa (pv 1) (aqa (dql (v := .ty "ValueError") rfl g.gqw iqC rfl) aqb))))))))
    (aqf (aql jqk)) aqr)
   (aqe (aqF (PW.pt (eqe (bqe (aqt (cqS (K := K) rfl) rfl g.aqv aqp (aqa (pv 1) (aqa (aqx (v := .ref g.dqF) rfl g.gqY rfl) aqb)))) (eqe (bqe (aqt (cqS (K := K) rfl) rfl g.aqv aqp (aqa (pv 1) (aqa (aqx (v := .ref g.gqV) rfl g.kqK rfl) aqb)))) (dqq (bqe (aqt (cqS (K := K) rfl) rfl g.aqv aqp (aqa (pv 1) (aqa (aqx (v := .ref g.fqu) rfl g.iq7 rfl) aqb))))))))
    (aqf (aql jqk)) aqr)
   (aqf (aql (cqo (mqo (aqt (cqS (K := K) rfl) rfl g.aqv aqp (aqa (pv 1) (aqa (aqx (v := .ref g.gqU) rfl g.kqM rfl) aqb)))) (cqX (mqo (aqt (cqS (K := K) rfl) rfl g.aqv aqp (aqa (pv 1) (aqa (aqx (v := .ref g.iqq) rfl g.mqW rfl) aqb)))))))))))), ?_⟩
  walk_at "rd"
  refine ⟨v, rfl, hv, fun H2 s2 => ⟨g.aqq, rfl, g.cqq, fun a ha => ⟨g.aqq, true, aqk, g.aq6, .cls g.cqi, ite2 (fun z => by cases z) (fun _ => ?_)⟩⟩⟩
  refine ⟨g.aqq, true, aqk, g.aq6, .ty g.bqT, ite2 (fun z => by cases z) (fun _ => ?_)⟩
  refine ⟨g.aqq, false, aqk, g.aq6, .cls g.cqj, ite2 (fun z => by cases z) (fun _ => ?_)⟩
  refine ⟨g.aqq, false, aqk, g.aq6, .cls g.cqV, ite2 (fun z => by cases z) (fun _ => ?_)⟩
  refine ⟨g.aqq, false, aqk, g.aq6, .cls g.cqN, ite2 (fun z => by cases z) (fun _ => ?_)⟩
  refine ⟨g.aqq, false, aqk, g.aq6, .cls g.cq2, ite2 (fun _ => ?_) (fun z => absurd rfl z)⟩
  exact ⟨g.aqq, false, aqk, g.aq6, .cls g.dqs, k _ (s2.trans (aqG ha))⟩
theorem rqu (g : G K mg) : FnOk P w K mg base CX0 9 g.mqZ g.jqm ["_law_script"] (kq1 K) := by
 refine g.qqX.ok hqf (fun vs H Q E h => ?_) (fun cdv A outer s H vs Q E hr h => ?_)
 ·obtain ⟨a, ns, rfl, _⟩ := h; rfl
 ·obtain ⟨a, ns, rfl, hS, hn, k⟩ := h
  refine ⟨_, (aqJ (aqs (i := 1) hqf.nd rfl (Or.inl rfl) (aqn (iqK g) (hr.mono (by decide)) rfl g.gqr g.dq9.kp g.gqA .nil pass0 (aqa (aqn (cqG g) (hr.mono (by decide)) rfl g.cqf g.bqk.kp g.bqZ .nil pass0 (aqa (pv 0) (aqa aqd aqb))) (aqa aqd aqb))))
   (aqJ (aqs (i := 2) hqf.nd rfl (Or.inl rfl) (aqn (hqJ g) (hr.mono (by decide)) rfl g.eq1 g.dqo.kp g.eq5 .nil pass0 (aqa (aqn (cqG g) (hr.mono (by decide)) rfl g.cqf g.bqk.kp g.bqZ .nil pass0 (aqa (pv 0) (aqa aqd aqb))) (aqa (pv 1) (aqa (bqO (fqL (K := K) rfl) (pv 0) (bqU aqd) (bqU aqd)) aqb)))))
   (aqJ (aqs (i := 3) hqf.nd rfl (Or.inl rfl) (aqn (eq0 g) (hr.mono (by decide)) rfl g.cqK g.bqu.kp g.cqD .nil pass0 (aqa (pv 2) (aqa (aqU aqb) aqb))))
   (aqe (aqs (i := 4) hqf.nd rfl (Or.inl rfl) (aqn (cqG g) (hr.mono (by decide)) rfl g.cqf g.bqk.kp g.bqZ .nil pass0 (aqa (pv 0) (aqa aqd aqb))))
   (aqJ (aqs (i := 5) hqf.nd rfl (Or.inl rfl) (aqn (hqI g) (hr.mono (by decide)) rfl g.eq2 g.dqp.kp g.eq8 .nil pass0 (aqa (pv 3) (aqa (aqj aqL (pv 4) aqd) (aqa (aqj bqd (pv 4) aqd) (aqa (aqy (aqh (K := K) rfl) (pv 1) aqd (fun _ _ => rfl)) aqb))))))
   (aqe (jqL PassesOwn.never rfl (fqN rfl g.hqE (aqa aqd aqb)) (dqM (i := 6) hqf.nd rfl (Or.inl rfl))
   (aqf (aqF (PW.pt (eqe (aqm (kqW hr.units) (aqn (dq7 g) (hr.mono (by decide)) rfl g.bq1 g.aqT.kp g.bq2 .nil pass0 (aqa (pv 3) aqb)) (pv 2) (nomark _)) (dqq (cqF (bqe (aqn (hqC g) (hr.mono (by decide)) rfl g.eq6 g.dqk.kp g.eq4 .nil pass0 (aqa (pv 5) aqb)))))))
    (aqf (aql jqk)) aqr)))
   (aqf (aql (bqb (oqe hr.units) (aqn (dq7 g) (hr.mono (by decide)) rfl g.bq1 g.aqT.kp g.bq2 .nil pass0 (aqa (pv 3) aqb)) (pv 2) (nomark _)))))))))), ?_⟩
  walk_at "rd"
  refine ⟨fun σ H1 => Same H H1 ∧ ∃ (nm : List (List Nat)) (pn : Addr), σ = [some (.ref a), some (.ref pn), none, none, none, none, none] ∧ H1 pn = some (.lst (nm.map tV)) ∧ nm.length = 13 ∧ (∀ n ∈ nm, 0 < n.length ∧ n.length ≤ 8 ∧ n.all isSma = true) ∧ nm.Nodup, ?_, ?_⟩
  ·exact ⟨a, ns, 0, rfl, hS, _, 13, rfl, by decide, fun nm pn H1 h1 h2 h3 s1 h4 => ⟨s1, nm, pn, rfl, h4, h1, h2, h3⟩⟩
  rintro σ H1 ⟨s1, nm, pn, rfl, hpn, hnl, hnm, hnd⟩
  have hnsg : ∀ n ∈ nm, ∀ x ∈ n, isSg x = true := fun n hn' => qq1 (hnm n hn').2.2
  walk_at "rd"
  refine ⟨fun σ H2 => Same H1 H2 ∧ ∃ (cs : List Pc) (e : Bool) (p q : Addr) (xs : List V), σ = [some (.ref a), some (.ref pn), some (.ref p), none, none, none, none] ∧ PatOk cs ∧ cs.length ≤ 12 ∧ (gapsM cs).Nodup ∧ (∀ c ∈ cs, PcOk c ∧ (c.isStep = false → NmOk c.name)) ∧ (cs = [] → e = true) ∧ H2 q = some (.tup xs) ∧ PcT H2 cs xs ∧ H2 p = some (.tup [.ref q, .bl e]), ?_, ?_⟩
  ·refine ⟨a, ns, 1, rfl, s1.seq hS, _, s1.seq hS, fun p0 H0 n0 s2 e0 => ?_⟩
   have hcl : (cutA ns (some 3) (some 15)).length ≤ 12 := qqj ns 3 15
   refine ⟨_, pn, p0, nm, cutA ns (some 3) (some 15), rfl, s2 _ _ hpn, .of (by rw [e0, nqc]), by omega, by omega, hnsg, fun cs e p q xs H3 h1 h2 h3 h4 s3 h5 h6 h7 => ?_⟩
   obtain ⟨g1, g2⟩ := iqf hnd (cs := cs) 0 (fun i c hc hs => by rw [Nat.zero_add]; exact h3 i c hc hs)
   refine ⟨s2.trans s3, cs, e, p, q, xs, rfl, h1, by omega, g1, fun c hc => ⟨h1.1 c hc, fun hs => ?_⟩, h4, h5, h6, h7⟩
   obtain ⟨i, hi, ei⟩ := List.getElem_of_mem hc
   have := hnm _ (List.mem_of_getElem? (h3 i c (List.getElem?_eq_some_iff.mpr ⟨hi, ei⟩) hs))
   exact ⟨⟨this.1, this.2.1⟩, this.2.2⟩
  rintro σ H2 ⟨s2, cs, e, p, q, xs, rfl, hok, hcl, hgn, ok, he, hq, hP, hp⟩
  have s02 := s1.trans s2
  have hall : ∀ {ws : List (List Nat)}, PcWs cs ws → (∀ w ∈ ws, w.length ≤ 700) → slT true ws e = 47 :: joinT 47 (ws ++ if e then [[]] else []) ∧ (ws ++ if e then [[]] else []) ≠ [] ∧ Free 47 (ws ++ if e then [[]] else []) ∧ (ws ++ if e then [[]] else []).length ≤ 100 ∧ (∀ t ∈ (ws ++ if e then [[]] else []), t.length ≤ 700 ∧ ∀ c ∈ t, c < 128) ∧ rptD (ws ++ if e then [[]] else []) = .tuple [.tuple (cs.map pcD), .bool e] := fun {ws} hw hwl => by
   obtain ⟨a1, a2, a3⟩ := lqQ hw he
   refine ⟨a1, a3, a2, ?_, fun t ht => ?_, nqM hw⟩
   ·rw [List.length_append, hw.length]
    cases e <;> simp <;> omega
   ·rcases List.mem_append.mp ht with z | z
    ·obtain ⟨i, hi, ei⟩ := List.getElem_of_mem z
     obtain ⟨d, hd, hw'⟩ := hw.get (List.getElem?_eq_some_iff.mpr ⟨hi, ei⟩)
     exact ⟨hwl t z, oqB hw'⟩
    ·cases e with
     | false => cases z
     | true => rw [List.mem_singleton.mp z]; exact ⟨Nat.zero_le _, fun c hc => by cases hc⟩
  have hpd : patD (.tuple [.tuple (cs.map pcD), .bool e]) = true := nqY hok (fun c hc => (ok c hc).2) hgn hcl he
  have hw0 : PcWs cs (cs.map pcT) := oqf fun c hc => rqI (ok c hc).1 (ok c hc).2
  have hl0 : ∀ w ∈ cs.map pcT, w.length ≤ 700 := fun w hw => by
   obtain ⟨c, hc, rfl⟩ := List.mem_map.mp hw
   exact oq1 (ok c hc).1 (ok c hc).2
  have isD : ∀ {H' : Hp}, Same H2 H' → IsT H' (.tuple [.tuple (cs.map pcD), .bool e]) (.ref p) := fun s => .tup (s _ _ hp) (.cons (.tup (s _ _ hq) (hP.mono s.toT).isT) (.cons (.bl _) .nil))
  walk_at "rd"
  obtain ⟨e1, t1, t2, t3, t4, t5⟩ := hall hw0 hl0
  obtain ⟨ts, ets⟩ : ∃ ts, ts = (cs.map pcT ++ if e then [[]] else []) := ⟨_, rfl⟩
  rw [← ets] at e1 t1 t2 t3 t4 t5
  refine ⟨fun σ H3 => Same H2 H3 ∧ σ = [some (.ref a), some (.ref pn), some (.ref p), some (tV (47 :: joinT 47 ts)), none, none, none], ?_, ?_⟩
  ·refine ⟨by decide, fun p3 H3 n3 s3 e3 => ⟨cs, e, p, q, p3, xs, [], rfl, s3 _ _ hp, s3 _ _ hq, hP.mono s3.toT, hcl, ok, e3, by simp, fun ws H4 w1 w2 w3 s4 => ⟨s3.trans s4, ?_⟩⟩⟩
   rw [w3 rfl, e1]
  rintro σ H3 ⟨s3, rfl⟩
  walk_at "rd"
  have f1 := nqO hw0 he
  have f2 := pqu ok he
  rw [← ets] at f1 f2
  have hl13 : ts.length ≤ 13 := by
   rw [ets, List.length_append, List.length_map]
   cases e <;> simp <;> omega
  obtain ⟨n12, hn12⟩ : ∃ n, nm[12]? = some n := ⟨_, List.getElem?_eq_getElem (by omega)⟩
  have hn12' := hnm n12 (List.mem_of_getElem? hn12)
  refine ⟨a, ns, 2, rfl, (s02.trans s3).seq hS, fun σ H4 => Same H2 H4 ∧ ∃ v : V, NoPt K H4 v ∧ σ = [some (.ref a), some (.ref pn), some (.ref p), some (tV (47 :: joinT 47 ts)), some (.int (ns.getD 2 0)), some v, none], ?_, ?_⟩
  ·refine ⟨_, _, rfl, rfl, (by decide : (0 : Int) < 24), _, _, rfl, rfl, ⟨by decide, by decide⟩, _, _, .inl (.of ((s2.trans s3) _ _ hpn)), aqg (j := 12) (by rw [List.getElem?_map, hn12]; rfl), ?_⟩
   exact ⟨ts, _, _, n12, rfl, Int.emod_nonneg _ (by decide), Int.emod_lt_of_pos _ (by decide), ⟨⟨hn12'.1, hn12'.2.1⟩, hn12'.2.2⟩, t1, t2, hl13, t4, f1, f2, fun v H4 s4 hv => ⟨s3.trans s4, v, hv, rfl⟩⟩
  rintro σ H4 ⟨s4, v, hv, rfl⟩
  have lay : SeqAt.shaped (.tuple [.tuple (cs.map pcD), .bool e]) = true := (LayAt.tup (n := 2) fun d hd => by
   simp only [List.mem_cons, List.not_mem_nil, or_false] at hd
   rcases hd with rfl | rfl
   ·exact kqQ fun c hc => mqI (ok c hc).1 (ok c hc).2
   ·exact LayAt.bool.le (by decide)).shaped (by decide)
  have rd : ∀ (H6 : Hp) (Z : VK), (∀ (v : V) (H' : Hp), Same H6 H' → IsT H' (.tuple [.tuple (cs.map pcD), .bool e]) v → Z v H') → eqt K [tV (47 :: joinT 47 ts)] H6 Z E0 := fun H6 Z h => ⟨ts, rfl, t1, t2, t3, t4, by rw [t5]; exact hpd, by rw [t5]; exact h⟩
  have req : PyData.eqv (.tuple [.tuple (cs.map pcD), .bool e]) (.tuple [.tuple (cs.map pcD), .bool e]) = true := pqC cs e
  walk_at "rd"
  refine ⟨by decide, by decide, eqX (fun i σ H' => Same H4 H' ∧ ∃ v6 : Option V, σ = [some (.ref a), some (.ref pn), some (.ref p), some (tV (47 :: joinT 47 ts)), some (.int (ns.getD 2 0)), some v, v6]) ⟨Same.refl _, none, rfl⟩ ?_ ?_⟩
  ·rintro i σ H5 hi ⟨s5, v6, rfl⟩
   walk_at "rd"
   have s25 := s4.trans s5
   refine rd H5 _ fun u H6 s6 hu => ⟨_, _, hu.is, (isD (s25.trans s6)).is, lay, lay, _, rfl, ?_⟩
   rw [req]
   refine ite2 (fun z => by cases z) (fun _ => ⟨v, rfl, hv.mono (s5.trans s6), fun H7 s7 => ⟨_, rfl, ite2 (fun z => by cases z) (fun _ => ⟨s5.trans (s6.trans s7), _, rfl⟩)⟩⟩)
  ·rintro σ H5 ⟨s5, v6, rfl⟩
   walk_at "rd"
   refine rd H5 _ fun u H6 s6 hu => ⟨_, _, hu.is, (isD (s4.trans (s5.trans s6))).is, lay, lay, ?_⟩
   rw [req]
   exact k _
end
theorem usl0 {us : List Value} (h : us.length = 0) : us = [] := List.length_eq_zero_iff.mp h
local macro_rules | `(tactic| walk_at "b0") => `(tactic| exact fun _ _ _ _ _ _ us hl => by obtain e := usl0 hl; subst e; rfl)
theorem usl1 {us : List Value} (h : us.length = 1) : ∃ x0, us = [x0] := List.length_eq_one_iff.mp h
local macro_rules | `(tactic| walk_at "b1") => `(tactic| exact fun _ _ _ _ _ _ us hl => by obtain ⟨x0, e⟩ := usl1 hl; subst e; rfl)
theorem usl2 {us : List Value} (h : us.length = 2) : ∃ x0 x1, us = [x0, x1] := by
 cases us with
 | nil => cases h
 | cons x0 l =>
  obtain ⟨x1, rfl⟩ := usl1 (Nat.succ.inj h)
  exact ⟨_, _, rfl⟩
local macro_rules | `(tactic| walk_at "b2") => `(tactic| exact fun _ _ _ _ _ _ us hl => by obtain ⟨x0, x1, e⟩ := usl2 hl; subst e; rfl)
theorem usl3 {us : List Value} (h : us.length = 3) : ∃ x0 x1 x2, us = [x0, x1, x2] := by
 cases us with
 | nil => cases h
 | cons x0 l =>
  obtain ⟨x1, x2, rfl⟩ := usl2 (Nat.succ.inj h)
  exact ⟨_, _, _, rfl⟩
local macro_rules | `(tactic| walk_at "b3") => `(tactic| exact fun _ _ _ _ _ _ us hl => by obtain ⟨x0, x1, x2, e⟩ := usl3 hl; subst e; rfl)
theorem usl4 {us : List Value} (h : us.length = 4) : ∃ x0 x1 x2 x3, us = [x0, x1, x2, x3] := by
 cases us with
 | nil => cases h
 | cons x0 l =>
  obtain ⟨x1, x2, x3, rfl⟩ := usl3 (Nat.succ.inj h)
  exact ⟨_, _, _, _, rfl⟩
local macro_rules | `(tactic| walk_at "b4") => `(tactic| exact fun _ _ _ _ _ _ us hl => by obtain ⟨x0, x1, x2, x3, e⟩ := usl4 hl; subst e; rfl)
abbrev fo (n : Str) (s : Stmt) (d k a b : Value) (e : Option Addr) (c t : Value) : FuncData := W.fnOf n n (defArgs s) (defBody s) (defScope s) d k a b e c t
theorem qqe {l : PySem.W.OpenLaw} {w : World} {K : W.Frag} {h : Heap} {mg : Str → Option Value} {fa : Addr} (X : K.In h) (Gl : h.Ns mainGlobals mg) (hfa : mg "law" = some (.ref fa))
  {eC_NoRow : Addr} (en_NoRow : W.nsIn K mainGlobals "NoRow" = some (some (.ref eC_NoRow)))
  {eC_NoName : Addr} (en_NoName : W.nsIn K mainGlobals "NoName" = some (some (.ref eC_NoName)))
  {eC_NoValue : Addr} (en_NoValue : W.nsIn K mainGlobals "NoValue" = some (some (.ref eC_NoValue)))
  {eC_NoBase : Addr} (en_NoBase : W.nsIn K mainGlobals "NoBase" = some (some (.ref eC_NoBase)))
  {eC_NoAddress : Addr} (en_NoAddress : W.nsIn K mainGlobals "NoAddress" = some (some (.ref eC_NoAddress)))
  {eC_NoPattern : Addr} (en_NoPattern : W.nsIn K mainGlobals "NoPattern" = some (some (.ref eC_NoPattern)))
  {eC_WayError : Addr} (en_WayError : W.nsIn K mainGlobals "WayError" = some (some (.ref eC_WayError)))
  (a1 : W.nsIn K mainGlobals "made_of" = some (some (.ref f1))) (l1 : K.lookup f1 = some ⟨oc1, od1, .func (fo "made_of" fqF .none kV1 dc1 pm1 an1 cd1 ct1), sl1⟩)
  (a2 : W.nsIn K mainGlobals "figure_number" = some (some (.ref f2))) (l2 : K.lookup f2 = some ⟨oc2, od2, .func (fo "figure_number" bqM .none kV2 dc2 pm2 an2 cd2 ct2), sl2⟩)
  (a3 : W.nsIn K mainGlobals "sign_numbered" = some (some (.ref f3))) (l3 : K.lookup f3 = some ⟨oc3, od3, .func (fo "sign_numbered" bqJ .none kV3 dc3 pm3 an3 cd3 ct3), sl3⟩)
  (a4 : W.nsIn K mainGlobals "is_tuple" = some (some (.ref f4))) (l4 : K.lookup f4 = some ⟨oc4, od4, .func (fo "is_tuple" eqF .none kV4 dc4 pm4 an4 cd4 ct4), sl4⟩)
  (a5 : W.nsIn K mainGlobals "is_dot" = some (some (.ref f5))) (l5 : K.lookup f5 = some ⟨oc5, od5, .func (fo "is_dot" gqW .none kV5 dc5 pm5 an5 cd5 ct5), sl5⟩)
  (a6 : W.nsIn K mainGlobals "rests_stand_last" = some (some (.ref f6))) (l6 : K.lookup f6 = some ⟨oc6, od6, .func (fo "rests_stand_last" aqY .none kV6 dc6 pm6 an6 cd6 ct6), sl6⟩)
  (a7 : W.nsIn K mainGlobals "is_gap" = some (some (.ref f7))) (l7 : K.lookup f7 = some ⟨oc7, od7, .func (fo "is_gap" gqM .none kV7 dc7 pm7 an7 cd7 ct7), sl7⟩)
  (a8 : W.nsIn K mainGlobals "name_of" = some (some (.ref f8))) (l8 : K.lookup f8 = some ⟨oc8, od8, .func (fo "name_of" fq7 .none kV8 dc8 pm8 an8 cd8 ct8), sl8⟩)
  (a9 : W.nsIn K mainGlobals "_law_cell_at" = some (some (.ref f9))) (l9 : K.lookup f9 = some ⟨oc9, od9, .func (fo "_law_cell_at" cqe .none kV9 dc9 pm9 an9 cd9 ct9), sl9⟩)
  (a10 : W.nsIn K mainGlobals "_law_names" = some (some (.ref f10))) (l10 : K.lookup f10 = some ⟨oc10, od10, .func (fo "_law_names" cqW .none kV10 dc10 pm10 an10 cd10 ct10), sl10⟩)
  (a11 : W.nsIn K mainGlobals "_law_signs" = some (some (.ref f11))) (l11 : K.lookup f11 = some ⟨oc11, od11, .func (fo "_law_signs" cq7 .none kV11 dc11 pm11 an11 cd11 ct11), sl11⟩)
  (a12 : W.nsIn K mainGlobals "_law_pair" = some (some (.ref f12))) (l12 : K.lookup f12 = some ⟨oc12, od12, .func (fo "_law_pair" dqX .none kV12 dc12 pm12 an12 cd12 ct12), sl12⟩)
  (a13 : W.nsIn K mainGlobals "_law_odd_part" = some (some (.ref f13))) (l13 : K.lookup f13 = some ⟨oc13, od13, .func (fo "_law_odd_part" bqA .none kV13 dc13 pm13 an13 cd13 ct13), sl13⟩)
  (a14 : W.nsIn K mainGlobals "is_text" = some (some (.ref f14))) (l14 : K.lookup f14 = some ⟨oc14, od14, .func (fo "is_text" fqH .none kV14 dc14 pm14 an14 cd14 ct14), sl14⟩)
  (a15 : W.nsIn K mainGlobals "sign_of" = some (some (.ref f15))) (l15 : K.lookup f15 = some ⟨oc15, od15, .func (fo "sign_of" fqJ .none kV15 dc15 pm15 an15 cd15 ct15), sl15⟩)
  (a16 : W.nsIn K mainGlobals "is_name" = some (some (.ref f16))) (l16 : K.lookup f16 = some ⟨oc16, od16, .func (fo "is_name" fqY .none kV16 dc16 pm16 an16 cd16 ct16), sl16⟩)
  (a17 : W.nsIn K mainGlobals "names_of" = some (some (.ref f17))) (l17 : K.lookup f17 = some ⟨oc17, od17, .func (fo "names_of" eqD .none kV17 dc17 pm17 an17 cd17 ct17), sl17⟩)
  (a18 : W.nsIn K mainGlobals "_law_text" = some (some (.ref f18))) (l18 : K.lookup f18 = some ⟨oc18, od18, .func (fo "_law_text" dqB .none kV18 dc18 pm18 an18 cd18 ct18), sl18⟩)
  (a19 : W.nsIn K mainGlobals "_law_written" = some (some (.ref f19))) (l19 : K.lookup f19 = some ⟨oc19, od19, .func (fo "_law_written" bq5 .none kV19 dc19 pm19 an19 cd19 ct19), sl19⟩)
  (a20 : W.nsIn K mainGlobals "_law_spoiled" = some (some (.ref f20))) (l20 : K.lookup f20 = some ⟨oc20, od20, .func (fo "_law_spoiled" cqc .none kV20 dc20 pm20 an20 cd20 ct20), sl20⟩)
  (a21 : W.nsIn K mainGlobals "sign_written" = some (some (.ref f21))) (l21 : K.lookup f21 = some ⟨oc21, od21, .func (fo "sign_written" bq6 .none kV21 dc21 pm21 an21 cd21 ct21), sl21⟩)
  (a22 : W.nsIn K mainGlobals "is_filled_text" = some (some (.ref f22))) (l22 : K.lookup f22 = some ⟨oc22, od22, .func (fo "is_filled_text" bqt .none kV22 dc22 pm22 an22 cd22 ct22), sl22⟩)
  (a23 : W.nsIn K mainGlobals "are_ends_of_part" = some (some (.ref f23))) (l23 : K.lookup f23 = some ⟨oc23, od23, .func (fo "are_ends_of_part" aqW .none kV23 dc23 pm23 an23 cd23 ct23), sl23⟩)
  (a24 : W.nsIn K mainGlobals "names_are_unlike" = some (some (.ref f24))) (l24 : K.lookup f24 = some ⟨oc24, od24, .func (fo "names_are_unlike" aq1 .none kV24 dc24 pm24 an24 cd24 ct24), sl24⟩)
  (a25 : W.nsIn K mainGlobals "_law_step" = some (some (.ref f25))) (l25 : K.lookup f25 = some ⟨oc25, od25, .func (fo "_law_step" dqE .none kV25 dc25 pm25 an25 cd25 ct25), sl25⟩)
  (a26 : W.nsIn K mainGlobals "_law_piece_text" = some (some (.ref f26))) (l26 : K.lookup f26 = some ⟨oc26, od26, .func (fo "_law_piece_text" bqg .none kV26 dc26 pm26 an26 cd26 ct26), sl26⟩)
  (a27 : W.nsIn K mainGlobals "undone" = some (some (.ref f27))) (l27 : K.lookup f27 = some ⟨oc27, od27, .func (fo "undone" gqQ (.ref T27) kV27 dc27 pm27 an27 cd27 ct27), sl27⟩)
  (d27 : K.lookup T27 = some ⟨ocT27, odT27, .seq #[.str (Str.ofString "") dt27_0] nT27, slT27⟩)
  (a28 : W.nsIn K mainGlobals "is_piece" = some (some (.ref f28))) (l28 : K.lookup f28 = some ⟨oc28, od28, .func (fo "is_piece" eqK .none kV28 dc28 pm28 an28 cd28 ct28), sl28⟩)
  (a29 : W.nsIn K mainGlobals "_law_piece" = some (some (.ref f29))) (l29 : K.lookup f29 = some ⟨oc29, od29, .func (fo "_law_piece" cq4 .none kV29 dc29 pm29 an29 cd29 ct29), sl29⟩)
  (a30 : W.nsIn K mainGlobals "_law_pattern_text" = some (some (.ref f30))) (l30 : K.lookup f30 = some ⟨oc30, od30, .func (fo "_law_pattern_text" aqN .none kV30 dc30 pm30 an30 cd30 ct30), sl30⟩)
  (a31 : W.nsIn K mainGlobals "are_pieces" = some (some (.ref f31))) (l31 : K.lookup f31 = some ⟨oc31, od31, .func (fo "are_pieces" cqZ .none kV31 dc31 pm31 an31 cd31 ct31), sl31⟩)
  (a32 : W.nsIn K mainGlobals "read_gap" = some (some (.ref f32))) (l32 : K.lookup f32 = some ⟨oc32, od32, .func (fo "read_gap" eqH .none kV32 dc32 pm32 an32 cd32 ct32), sl32⟩)
  (a33 : W.nsIn K mainGlobals "_law_pattern" = some (some (.ref f33))) (l33 : K.lookup f33 = some ⟨oc33, od33, .func (fo "_law_pattern" bq9 .none kV33 dc33 pm33 an33 cd33 ct33), sl33⟩)
  (a34 : W.nsIn K mainGlobals "is_pattern" = some (some (.ref f34))) (l34 : K.lookup f34 = some ⟨oc34, od34, .func (fo "is_pattern" dqa .none kV34 dc34 pm34 an34 cd34 ct34), sl34⟩)
  (a35 : W.nsIn K mainGlobals "read_piece" = some (some (.ref f35))) (l35 : K.lookup f35 = some ⟨oc35, od35, .func (fo "read_piece" cqU .none kV35 dc35 pm35 an35 cd35 ct35), sl35⟩)
  (a36 : W.nsIn K mainGlobals "read_pattern" = some (some (.ref f36))) (l36 : K.lookup f36 = some ⟨oc36, od36, .func (fo "read_pattern" bq3 .none kV36 dc36 pm36 an36 cd36 ct36), sl36⟩)
  (a37 : W.nsIn K mainGlobals "_law_refused" = some (some (.ref f37))) (l37 : K.lookup f37 = some ⟨oc37, od37, .func (fo "_law_refused" bqY .none kV37 dc37 pm37 an37 cd37 ct37), sl37⟩)
  (a38 : W.nsIn K mainGlobals "law" = some (some (.ref f38))) (l38 : K.lookup f38 = some ⟨oc38, od38, .func (fo "law" nqq .none kV38 dc38 pm38 an38 cd38 ct38), sl38⟩)
  {qa0_NAMED_WORDS : Addr} {qd0_NAMED_WORDS : Option Addr} {qn0_NAMED_WORDS : Nat} {qs0_NAMED_WORDS : Array (Option Value)} {qt0_0_NAMED_WORDS : Tok} {qt1_0_NAMED_WORDS : Tok} {qt2_0_NAMED_WORDS : Tok} {qt3_0_NAMED_WORDS : Tok}
  (e_NAMED_WORDS : W.nsIn K mainGlobals "NAMED_WORDS" = some (some (.ref qa0_NAMED_WORDS)))
  (y0_NAMED_WORDS : K.lookup qa0_NAMED_WORDS = some ⟨.type "tuple", qd0_NAMED_WORDS, .seq #[.str (Str.ofString "number") qt0_0_NAMED_WORDS, .str (Str.ofString "word") qt1_0_NAMED_WORDS, .str (Str.ofString "gap") qt2_0_NAMED_WORDS, .str (Str.ofString "rest") qt3_0_NAMED_WORDS] qn0_NAMED_WORDS, qs0_NAMED_WORDS⟩)
  {qa0_WRITTEN_WORDS : Addr} {qd0_WRITTEN_WORDS : Option Addr} {qn0_WRITTEN_WORDS : Nat} {qs0_WRITTEN_WORDS : Array (Option Value)} {qt0_0_WRITTEN_WORDS : Tok} {qt1_0_WRITTEN_WORDS : Tok} {qt2_0_WRITTEN_WORDS : Tok}
  (e_WRITTEN_WORDS : W.nsIn K mainGlobals "WRITTEN_WORDS" = some (some (.ref qa0_WRITTEN_WORDS)))
  (y0_WRITTEN_WORDS : K.lookup qa0_WRITTEN_WORDS = some ⟨.type "tuple", qd0_WRITTEN_WORDS, .seq #[.str (Str.ofString "number") qt0_0_WRITTEN_WORDS, .str (Str.ofString "word") qt1_0_WRITTEN_WORDS, .str (Str.ofString "rest") qt2_0_WRITTEN_WORDS] qn0_WRITTEN_WORDS, qs0_WRITTEN_WORDS⟩)
  {hqM : Tok} (e_SIGNS : W.nsIn K mainGlobals "SIGNS" = some (some (.str (Str.ofString " !\"#$&'()*+,-./0123456789:;<=>?@ABCDEFGHIJKLMNOPQRSTUVWXYZ[\\]^_`abcdefghijklmnopqrstuvwxyz{|}~") hqM)))
  {aq9 : Tok} (e_SMALL_LETTERS : W.nsIn K mainGlobals "SMALL_LETTERS" = some (some (.str (Str.ofString "abcdefghijklmnopqrstuvwxyz") aq9)))
  {gq7 : Tok} (e_PLAIN : W.nsIn K mainGlobals "PLAIN" = some (some (.str (Str.ofString "abcdefghijklmnopqrstuvwxyzABCDEFGHIJKLMNOPQRSTUVWXYZ0123456789-_.") gq7)))
  {bqc : Tok} (e_FREE_IN_STEPS : W.nsIn K mainGlobals "FREE_IN_STEPS" = some (some (.str (Str.ofString "!$'()*,;@&=+") bqc)))
  {bqn : Tok} (e_FIRST_NUMBER : W.nsIn K mainGlobals "FIRST_NUMBER" = some (some (.int 32 bqn)))
  {bqD : Tok} (e_LAST_NUMBER : W.nsIn K mainGlobals "LAST_NUMBER" = some (some (.int 126 bqD)))
  {aqM : Tok} (e_NUMBER_LEFT_OUT : W.nsIn K mainGlobals "NUMBER_LEFT_OUT" = some (some (.int 37 aqM)))
  {aq5 : Tok} (e_SMALL_FIGURES : W.nsIn K mainGlobals "SMALL_FIGURES" = some (some (.str (Str.ofString "0123456789abcdef") aq5)))
  {aq4 : Tok} (e_GREAT_FIGURES : W.nsIn K mainGlobals "GREAT_FIGURES" = some (some (.str (Str.ofString "0123456789ABCDEF") aq4)))
  {jqR : Tok} (e_STAY : W.nsIn K mainGlobals "STAY" = some (some (.str (Str.ofString ".") jqR)))
  {t_UP : Tok} (e_UP : W.nsIn K mainGlobals "UP" = some (some (.str (Str.ofString "..") t_UP)))
  {fqt : Tok} (e_PIECES : W.nsIn K mainGlobals "PIECES" = some (some (.int 0 fqt)))
  {fqE : Tok} (e_CLOSES : W.nsIn K mainGlobals "CLOSES" = some (some (.int 1 fqE)))
  {bqP : Tok} (e_MOST_PIECES : W.nsIn K mainGlobals "MOST_PIECES" = some (some (.int 12 bqP)))
  {bqm : Tok} (e_LONGEST_NAME : W.nsIn K mainGlobals "LONGEST_NAME" = some (some (.int 8 bqm)))
  (z_all : W.nsIn K mainGlobals "all" = some none)
  (z_len : W.nsIn K mainGlobals "len" = some none)
  (z_isinstance : W.nsIn K mainGlobals "isinstance" = some none)
  (z_tuple : W.nsIn K mainGlobals "tuple" = some none)
  (z_range : W.nsIn K mainGlobals "range" = some none)
  (z_ord : W.nsIn K mainGlobals "ord" = some none)
  (z_str : W.nsIn K mainGlobals "str" = some none)
  (z_enumerate : W.nsIn K mainGlobals "enumerate" = some none)
  (z_max : W.nsIn K mainGlobals "max" = some none)
  (z_set : W.nsIn K mainGlobals "set" = some none)
  (z_zip : W.nsIn K mainGlobals "zip" = some none)
  (z_bool : W.nsIn K mainGlobals "bool" = some none)
  (z_ValueError : W.nsIn K mainGlobals "ValueError" = some none)
  (ex_NoPattern : W.excIn K eC_NoPattern vErr vNew = true)
  (ew1_WayError : W.typeIn K (.ref eC_WayError) = some (.type "type"))
  (ew2_WayError : W.subIn K (.ref eC_WayError) (.type "BaseException") = some true)
  (ew3_WayError : (W.clsIn K eC_WayError).isSome = true)
  (el0_NoPattern : W.findIn K (.ref eC_NoPattern) "__getattribute__" = some (some (.builtin "BaseException.__getattribute__")))
  (el1_NoPattern : W.findIn K (.ref eC_NoPattern) "__class__" = some (some (.builtin "object.__class__")))
  (el2_NoPattern : W.findIn K (.ref eC_NoPattern) "__getattr__" = some none)
  (el3_NoPattern : W.mroIn K eC_NoPattern (.type "object") = some true)
  (el4_NoPattern : W.mroIn K eC_NoPattern (.type "BaseException") = some true)
  (el5_NoPattern : (W.clsIn K eC_NoPattern).isSome = true)
  (eu_NoPattern_WayError : W.subIn K (.ref eC_NoPattern) (.ref eC_WayError) = some true)
  (ei_NoPattern_NoPattern : W.kitOne K (.ref eC_NoPattern) (.ref eC_NoPattern) = some true)
  (ei_NoPattern_ValueError : W.kitOne K (.ref eC_NoPattern) (.type "ValueError") = some true)
  (ei_NoPattern_NoAddress : W.kitOne K (.ref eC_NoPattern) (.ref eC_NoAddress) = some false)
  (ei_NoPattern_NoBase : W.kitOne K (.ref eC_NoPattern) (.ref eC_NoBase) = some false)
  (ei_NoPattern_NoValue : W.kitOne K (.ref eC_NoPattern) (.ref eC_NoValue) = some false)
  (ei_NoPattern_NoName : W.kitOne K (.ref eC_NoPattern) (.ref eC_NoName) = some false)
  (ei_NoPattern_NoRow : W.kitOne K (.ref eC_NoPattern) (.ref eC_NoRow) = some false)
  (kk : ((((((W.keepIn K (.ref f1) && W.keepIn K (.ref f2)) && W.keepIn K (.ref f3)) && (W.keepIn K (.ref f4) && W.keepIn K (.ref f5))) && (((W.keepIn K (.ref f6) && W.keepIn K (.ref f7)) && W.keepIn K (.ref f8)) && (W.keepIn K (.ref f9) && W.keepIn K (.ref f10)))) && ((((W.keepIn K (.ref f11) && W.keepIn K (.ref f12)) && W.keepIn K (.ref f13)) && (W.keepIn K (.ref f14) && W.keepIn K (.ref f15))) && ((W.keepIn K (.ref f16) && W.keepIn K (.ref f17)) && (W.keepIn K (.ref f18) && W.keepIn K (.ref f19))))) && (((((W.keepIn K (.ref f20) && W.keepIn K (.ref f21)) && W.keepIn K (.ref f22)) && (W.keepIn K (.ref f23) && W.keepIn K (.ref f24))) && (((W.keepIn K (.ref f25) && W.keepIn K (.ref f26)) && W.keepIn K (.ref f27)) && (W.keepIn K (.ref f28) && W.keepIn K (.ref f29)))) && ((((W.keepIn K (.ref f30) && W.keepIn K (.ref f31)) && W.keepIn K (.ref f32)) && (W.keepIn K (.ref f33) && W.keepIn K (.ref f34))) && ((W.keepIn K (.ref f35) && W.keepIn K (.ref f36)) && (W.keepIn K (.ref f37) && W.keepIn K (.ref f38)))))) = true)
  (cc : ((((((W.codeIn K cd1 "made_of" && W.codeIn K cd2 "figure_number") && W.codeIn K cd3 "sign_numbered") && (W.codeIn K cd4 "is_tuple" && W.codeIn K cd5 "is_dot")) && (((W.codeIn K cd6 "rests_stand_last" && W.codeIn K cd7 "is_gap") && W.codeIn K cd8 "name_of") && (W.codeIn K cd9 "_law_cell_at" && W.codeIn K cd10 "_law_names"))) && ((((W.codeIn K cd11 "_law_signs" && W.codeIn K cd12 "_law_pair") && W.codeIn K cd13 "_law_odd_part") && (W.codeIn K cd14 "is_text" && W.codeIn K cd15 "sign_of")) && ((W.codeIn K cd16 "is_name" && W.codeIn K cd17 "names_of") && (W.codeIn K cd18 "_law_text" && W.codeIn K cd19 "_law_written")))) && (((((W.codeIn K cd20 "_law_spoiled" && W.codeIn K cd21 "sign_written") && W.codeIn K cd22 "is_filled_text") && (W.codeIn K cd23 "are_ends_of_part" && W.codeIn K cd24 "names_are_unlike")) && (((W.codeIn K cd25 "_law_step" && W.codeIn K cd26 "_law_piece_text") && W.codeIn K cd27 "undone") && (W.codeIn K cd28 "is_piece" && W.codeIn K cd29 "_law_piece"))) && ((((W.codeIn K cd30 "_law_pattern_text" && W.codeIn K cd31 "are_pieces") && W.codeIn K cd32 "read_gap") && (W.codeIn K cd33 "_law_pattern" && W.codeIn K cd34 "is_pattern")) && ((W.codeIn K cd35 "read_piece" && W.codeIn K cd36 "read_pattern") && (W.codeIn K cd37 "_law_refused" && W.codeIn K cd38 "law"))))) = true) :
  ∃ fd : FuncData, (∀ (s : Shared) (v : Value), BindsTo s fd ⟨[v], []⟩ [("_law_script", v)]) ∧ ∀ base : Heap, K.In base → base.Ns mainGlobals mg → FnOk l.prog w K mg base CX0 9 fa fd ["_law_script"] (kq1 K) := by
 have e := hfa.symm.trans (W.mg_of X Gl a38)
 have e2 : f38 = fa := by cases e; rfl
 subst e2
 have M : ∀ {x : Str} {v : Value}, W.nsIn K mainGlobals x = some (some v) → mg x = some v := fun a => W.mg_of X Gl a
 simp only [Bool.and_eq_true] at kk cc
 obtain ⟨⟨⟨⟨⟨⟨ka1, ka2⟩, ka3⟩, ⟨ka4, ka5⟩⟩, ⟨⟨⟨ka6, ka7⟩, ka8⟩, ⟨ka9, ka10⟩⟩⟩, ⟨⟨⟨⟨ka11, ka12⟩, ka13⟩, ⟨ka14, ka15⟩⟩, ⟨⟨ka16, ka17⟩, ⟨ka18, ka19⟩⟩⟩⟩, ⟨⟨⟨⟨⟨ka20, ka21⟩, ka22⟩, ⟨ka23, ka24⟩⟩, ⟨⟨⟨ka25, ka26⟩, ka27⟩, ⟨ka28, ka29⟩⟩⟩, ⟨⟨⟨⟨ka30, ka31⟩, ka32⟩, ⟨ka33, ka34⟩⟩, ⟨⟨ka35, ka36⟩, ⟨ka37, ka38⟩⟩⟩⟩⟩ := kk
 obtain ⟨⟨⟨⟨⟨⟨ca1, ca2⟩, ca3⟩, ⟨ca4, ca5⟩⟩, ⟨⟨⟨ca6, ca7⟩, ca8⟩, ⟨ca9, ca10⟩⟩⟩, ⟨⟨⟨⟨ca11, ca12⟩, ca13⟩, ⟨ca14, ca15⟩⟩, ⟨⟨ca16, ca17⟩, ⟨ca18, ca19⟩⟩⟩⟩, ⟨⟨⟨⟨⟨ca20, ca21⟩, ca22⟩, ⟨ca23, ca24⟩⟩, ⟨⟨⟨ca25, ca26⟩, ca27⟩, ⟨ca28, ca29⟩⟩⟩, ⟨⟨⟨⟨ca30, ca31⟩, ca32⟩, ⟨ca33, ca34⟩⟩, ⟨⟨ca35, ca36⟩, ⟨ca37, ca38⟩⟩⟩⟩⟩ := cc
 have F1 := aqC (st := fqF) l1 ca1 ka1
 have F2 := aqC (st := bqM) l2 ca2 ka2
 have F3 := aqC (st := bqJ) l3 ca3 ka3
 have F4 := aqC (st := eqF) l4 ca4 ka4
 have F5 := aqC (st := gqW) l5 ca5 ka5
 have F6 := aqC (st := aqY) l6 ca6 ka6
 have F7 := aqC (st := gqM) l7 ca7 ka7
 have F8 := aqC (st := fq7) l8 ca8 ka8
 have F9 := aqC (st := cqe) l9 ca9 ka9
 have F10 := aqC (st := cqW) l10 ca10 ka10
 have F11 := aqC (st := cq7) l11 ca11 ka11
 have F12 := aqC (st := dqX) l12 ca12 ka12
 have F13 := aqC (st := bqA) l13 ca13 ka13
 have F14 := aqC (st := fqH) l14 ca14 ka14
 have F15 := aqC (st := fqJ) l15 ca15 ka15
 have F16 := aqC (st := fqY) l16 ca16 ka16
 have F17 := aqC (st := eqD) l17 ca17 ka17
 have F18 := aqC (st := dqB) l18 ca18 ka18
 have F19 := aqC (st := bq5) l19 ca19 ka19
 have F20 := aqC (st := cqc) l20 ca20 ka20
 have F21 := aqC (st := bq6) l21 ca21 ka21
 have F22 := aqC (st := bqt) l22 ca22 ka22
 have F23 := aqC (st := aqW) l23 ca23 ka23
 have F24 := aqC (st := aq1) l24 ca24 ka24
 have F25 := aqC (st := dqE) l25 ca25 ka25
 have F26 := aqC (st := bqg) l26 ca26 ka26
 have F27 := pqF (st := gqQ) l27 ca27 ka27
 have F28 := aqC (st := eqK) l28 ca28 ka28
 have F29 := aqC (st := cq4) l29 ca29 ka29
 have F30 := aqC (st := aqN) l30 ca30 ka30
 have F31 := aqC (st := cqZ) l31 ca31 ka31
 have F32 := aqC (st := eqH) l32 ca32 ka32
 have F33 := aqC (st := bq9) l33 ca33 ka33
 have F34 := aqC (st := dqa) l34 ca34 ka34
 have F35 := aqC (st := cqU) l35 ca35 ka35
 have F36 := aqC (st := bq3) l36 ca36 ka36
 have F37 := aqC (st := bqY) l37 ca37 ka37
 have F38 := aqC (st := nqq) l38 ca38 ka38
 let g : G K mg := {
  fqT := f1, eqQ := _, fqS := F1, hqL := M a1,
  hqB := F1.binds (by walk_at "b2"),
  bqG := f2, bqs := _, bqI := F2, cqR := M a2,
  cqL := F2.binds (by walk_at "b1"),
  bqN := f3, bqo := _, cqO := F3, dq5 := M a3,
  eqi := F3.binds (by walk_at "b1"),
  eqR := f4, dqA := _, cqB := F4, dqw := M a4,
  dqz := F4.binds (by walk_at "b2"),
  gqX := f5, fqA := _, iqF := F5, kqA := M a5,
  kqD := F5.binds (by walk_at "b1"),
  aq0 := f6, aqP := _, bqQ := F6, dqc := M a6,
  dqg := F6.binds (by walk_at "b1"),
  gqL := f7, fqw := _, iqv := F7, kqG := M a7,
  kqv := F7.binds (by walk_at "b1"),
  fq1 := f8, eqP := _, hqx := F8, jqq := M a8,
  iq3 := F8.binds (by walk_at "b1"),
  bq4 := f9, bqx := _, bqk := F9, cqf := M a9,
  bqZ := F9.binds (by walk_at "b2"),
  cq3 := f10, cqz := _, dq9 := F10, gqr := M a10,
  gqA := F10.binds (by walk_at "b2"),
  cq5 := f11, cqv := _, eqc := F11, gqq := M a11,
  gqy := F11.binds (by walk_at "b0"),
  dqN := f12, cq0 := _, fqd := F12, hqe := M a12,
  hqr := F12.binds (by walk_at "b2"),
  bqR := f13, bqp := _, cqI := F13, eqa := M a13,
  eqz := F13.binds (by walk_at "b2"),
  fq5 := f14, eqY := _, eqq := F14, fqx := M a14,
  fqX := F14.binds (by walk_at "b1"),
  fq8 := f15, eqJ := _, gq3 := F15, jqp := M a15,
  jqj := F15.binds (by walk_at "b1"),
  fqQ := f16, eqE := _, fqZ := F16, hqA := M a16,
  hqG := F16.binds (by walk_at "b1"),
  eqW := f17, dqU := _, gqd := F17, iqg := M a17,
  hq6 := F17.binds (by walk_at "b1"),
  dqY := f18, dqi := _, cqM := F18, dqH := M a18,
  dqR := F18.binds (by walk_at "b1"),
  cqa := f19, bqy := _, bqj := F19, bq7 := M a19,
  cqd := F19.binds (by walk_at "b2"),
  cqh := f20, bqz := _, dqp := F20, eq2 := M a20,
  eq8 := F20.binds (by walk_at "b4"),
  bq0 := f21, bqw := _, dqn := F21, fqb := M a21,
  eq7 := F21.binds (by walk_at "b2"),
  bqr := f22, bqf := _, cqn := F22, dq0 := M a22,
  dq1 := F22.binds (by walk_at "b1"),
  aqZ := f23, aqO := _, bqH := F23, dqd := M a23,
  cqT := F23.binds (by walk_at "b2"),
  aqX := f24, aqS := _, bqB := F24, dqb := M a24,
  cq6 := F24.binds (by walk_at "b1"),
  dqO := f25, cqY := _, fql := F25, hqN := M a25,
  hqy := F25.binds (by walk_at "b1"),
  bqh := f26, aq2 := _, bqW := F26, dqy := M a26,
  dqv := F26.binds (by walk_at "b2"),
  gqP := f27, eqh := _, kqB := T27, iqc := dt27_0, fqB := F27, gqR := M a27,
  gqN := F27.binds (ps := ["text", "free"]) (ds := []) d27 fun _ _ _ _ _ _ us hl => match us, hl with | [_, _], _ => ⟨_, rfl, rfl⟩,
  mqN := F27.binds (ps := ["text", "free"]) (ds := [.str (Str.ofString "") dt27_0]) d27 fun _ _ _ _ _ _ us hl => by obtain ⟨x, rfl⟩ := rqm hl; exact ⟨_, rfl, rfl⟩,
  eqI := f28, dqW := _, gqk := F28, hq9 := M a28,
  hq8 := F28.binds (by walk_at "b1"),
  dqe := f29, cqu := _, eqk := F29, gqp := M a29,
  gqt := F29.binds (by walk_at "b2"),
  aqR := f30, aqK := _, bqu := F30, cqK := M a30,
  cqD := F30.binds (by walk_at "b2"),
  cq1 := f31, cqt := _, eqn := F31, gqx := M a31,
  gqz := F31.binds (by walk_at "b1"),
  eqL := f32, dqQ := _, gqa := F32, iqi := M a32,
  hq5 := F32.binds (by walk_at "b3"),
  bq8 := f33, bqC := _, dqo := F33, eq1 := M a33,
  eq5 := F33.binds (by walk_at "b3"),
  dqj := f34, cqs := _, cq9 := F34, eqx := M a34,
  dq8 := F34.binds (by walk_at "b1"),
  dqh := f35, cqy := _, dqf := F35, eqm := M a35,
  eqy := F35.binds (by walk_at "b1"),
  bql := f36, bqa := _, aqT := F36, bq1 := M a36,
  bq2 := F36.binds (by walk_at "b1"),
  cqg := f37, bqL := _, dqk := F37, eq6 := M a37,
  eq4 := F37.binds (by walk_at "b1"),
  mqZ := f38, jqm := _, qqX := F38, rqF := M a38,
  rqB := F38.binds (by walk_at "b1"),
  cqx := qa0_NAMED_WORDS, fqC := W.mg_of X Gl e_NAMED_WORDS, fqz := fun H => (.tup (xs := [.str (Str.ofString "number"), .str (Str.ofString "word"), .str (Str.ofString "gap"), .str (Str.ofString "rest")]) (.inr ⟨_, _, _, y0_NAMED_WORDS, rfl, rfl, (by show 4 ≤ sizeLine; decide), (.cons ⟨_, rfl⟩ (.cons ⟨_, rfl⟩ (.cons ⟨_, rfl⟩ (.cons ⟨_, rfl⟩ .nil))))⟩) (.cons (.str _) (.cons (.str _) (.cons (.str _) (.cons (.str _) .nil))))),
  bqK := qa0_WRITTEN_WORDS, eqb := W.mg_of X Gl e_WRITTEN_WORDS, eqp := fun H => (.tup (xs := [.str (Str.ofString "number"), .str (Str.ofString "word"), .str (Str.ofString "rest")]) (.inr ⟨_, _, _, y0_WRITTEN_WORDS, rfl, rfl, (by show 3 ≤ sizeLine; decide), (.cons ⟨_, rfl⟩ (.cons ⟨_, rfl⟩ (.cons ⟨_, rfl⟩ .nil)))⟩) (.cons (.str _) (.cons (.str _) (.cons (.str _) .nil)))),
  hqM := hqM, kqo := W.mg_of X Gl e_SIGNS,
  aq9 := aq9, eqf := W.mg_of X Gl e_SMALL_LETTERS,
  gq7 := gq7, lqP := W.mg_of X Gl e_PLAIN,
  bqc := bqc, bqE := W.mg_of X Gl e_FREE_IN_STEPS,
  bqn := bqn, dqm := W.mg_of X Gl e_FIRST_NUMBER,
  bqD := bqD, fqW := W.mg_of X Gl e_LAST_NUMBER,
  aqM := aqM, bqX := W.mg_of X Gl e_NUMBER_LEFT_OUT,
  aq5 := aq5, cqJ := W.mg_of X Gl e_SMALL_FIGURES,
  aq4 := aq4, cqE := W.mg_of X Gl e_GREAT_FIGURES,
  jqR := jqR, oqp := W.mg_of X Gl e_STAY,
  t_UP := t_UP, c_UP := W.mg_of X Gl e_UP,
  fqt := fqt, gqS := W.mg_of X Gl e_PIECES,
  fqE := fqE, iqt := W.mg_of X Gl e_CLOSES,
  bqP := bqP, fqI := W.mg_of X Gl e_MOST_PIECES,
  bqm := bqm, fqa := W.mg_of X Gl e_LONGEST_NAME,
  nqu := W.mg_none_of X Gl z_all,
  eqj := W.mg_none_of X Gl z_len,
  aqv := W.mg_none_of X Gl z_isinstance,
  fqo := W.mg_none_of X Gl z_tuple,
  hqE := W.mg_none_of X Gl z_range,
  oqS := W.mg_none_of X Gl z_ord,
  kq4 := W.mg_none_of X Gl z_str,
  gq9 := W.mg_none_of X Gl z_enumerate,
  qqY := W.mg_none_of X Gl z_max,
  qqo := W.mg_none_of X Gl z_set,
  qqd := W.mg_none_of X Gl z_zip,
  oqg := W.mg_none_of X Gl z_bool,
  gqw := W.mg_none_of X Gl z_ValueError,
  iqq := eC_NoRow, mqW := W.mg_of X Gl en_NoRow,
  gqU := eC_NoName, kqM := W.mg_of X Gl en_NoName,
  fqu := eC_NoValue, iq7 := W.mg_of X Gl en_NoValue,
  gqV := eC_NoBase, kqK := W.mg_of X Gl en_NoBase,
  dqF := eC_NoAddress, gqY := W.mg_of X Gl en_NoAddress,
  aqq := eC_NoPattern, dqK := W.mg_of X Gl en_NoPattern,
  eqS := eC_WayError, iqa := W.mg_of X Gl en_WayError,
  fqg := ex_NoPattern,
  hqZ := ⟨ew1_WayError, ew2_WayError, ew3_WayError⟩,
  aq6 := ⟨el0_NoPattern, el1_NoPattern, el2_NoPattern, el3_NoPattern, el4_NoPattern, el5_NoPattern⟩,
  cqq := eu_NoPattern_WayError,
  cqi := ei_NoPattern_NoPattern,
  bqT := ei_NoPattern_ValueError,
  cqj := ei_NoPattern_NoAddress,
  cqV := ei_NoPattern_NoBase,
  cqN := ei_NoPattern_NoValue,
  cq2 := ei_NoPattern_NoName,
  dqs := ei_NoPattern_NoRow }
 exact ⟨g.jqm, fun s v => .of_eq rfl, fun base _ _ => rqu g⟩
theorem walk {l : PySem.W.OpenLaw} {q : Program} {loose : List Str} {XP : (Str → Option Value) → Heap → Prop} {YP : World → Heap → Prop} {d : DefRec} {K : Params → W.Frag} (hn : l.most = some 63) (hdf : d.params.defaults = [])
  (hY : ∀ (w : World) (h : Heap), YP w h → (K w.params).In h)
  (F : ∀ (w : World) (mg : Str → Option Value) (fa : Addr) (h : Heap), (K w.params).In h → h.Ns mainGlobals mg → mg d.name = some (.ref fa) →
   ∃ fd : FuncData, (∀ (s : Shared) (u : Value), BindsTo s fd ⟨[u], []⟩ [("_law_script", u)]) ∧ ∀ base : Heap, (K w.params).In base → base.Ns mainGlobals mg → FnOk l.prog w (K w.params) mg base CX0 9 fa fd ["_law_script"] (kq1 (K w.params))) :
  PySem.W.WalkO q loose XP YP l.row.toRowW d [] (fun f vs => PySem.call f vs) :=
 L2.pqD (n := 63) (k := 9) (x := "_law_script") (CX := fun _ => CX0) (sp := fun w => kq1 (K w.params)) hn (by decide) hdf ⟨rfl, by decide, by decide⟩ hY F (fun _ _ a ns hl _ hS => ⟨a, ns, rfl, hS, hl, fun _ => rfl⟩) fun _ _ _ _ _ z => z
end Wm
theorem PySem.W.Fast.tw9311388067753371984 : True := trivial
theorem PySem.W.Fast.tw1670806315053878209 : True := trivial
theorem PySem.W.Fast.tw12810530347988829967 : True := trivial
theorem PySem.W.Fast.tw5874466583290951068 : True := trivial
theorem PySem.W.Fast.tw15240224661251127608 : True := trivial
theorem PySem.W.Fast.tw3886388293192461518 : True := trivial
theorem PySem.W.Fast.tw15789114876450054212 : True := trivial
theorem PySem.W.Fast.tw17892908503583076615 : True := trivial
theorem PySem.W.Fast.tw12225181575123638694 : True := trivial
theorem PySem.W.Fast.tw9605623536633560568 : True := trivial
theorem PySem.W.Fast.tw12209952589820858416 : True := trivial
theorem PySem.W.Fast.tw13722855896683645844 : True := trivial
theorem PySem.W.Fast.tw16482443061059669318 : True := trivial
theorem PySem.W.Fast.tw13260274767471193944 : True := trivial
theorem PySem.W.Fast.tw6960288452181096195 : True := trivial
theorem PySem.W.Fast.tw17752462838827022365 : True := trivial
theorem PySem.W.Fast.tw15333854371414865889 : True := trivial
theorem PySem.W.Fast.tw1972235537611193486 : True := trivial
theorem PySem.W.Fast.tw3632661494127266834 : True := trivial
theorem PySem.W.Fast.tw15509668342066576375 : True := trivial
theorem PySem.W.Fast.tw12087751667354033918 : True := trivial
theorem PySem.W.Fast.tw5715860142655478723 : True := trivial
theorem PySem.W.Fast.tw8815254745096537946 : True := trivial
theorem PySem.W.Fast.tw3106223139174158356 : True := trivial
theorem PySem.W.Fast.tw7046492068720635146 : True := trivial
theorem PySem.W.Fast.tw11831630158330444805 : True := trivial
theorem PySem.W.Fast.tw1107527010718925025 : True := trivial
theorem PySem.W.Fast.tw9114347957989356739 : True := trivial
theorem PySem.W.Fast.tw2798684893432598805 : True := trivial
theorem PySem.W.Fast.tw8283736119441620319 : True := trivial
theorem PySem.W.Fast.tw3291590092290426743 : True := trivial
theorem PySem.W.Fast.tw8834022910660631313 : True := trivial
theorem PySem.W.Fast.tw10610507526936498773 : True := trivial
theorem PySem.W.Fast.tw4089425582048821106 : True := trivial
theorem PySem.W.Fast.tw1457832077616639112 : True := trivial
theorem PySem.W.Fast.tw5079593964998819933 : True := trivial
theorem PySem.W.Fast.tw7477582481019096887 : True := trivial
theorem PySem.W.Fast.tw5892647604203848231 : True := trivial
theorem PySem.W.Fast.tw8393228398333585736 : True := trivial
theorem PySem.W.Fast.tw6571128844946968270 : True := trivial
theorem PySem.W.Fast.tw9917358199284055998 : True := trivial
theorem PySem.W.Fast.tw7360887755132885893 : True := trivial
theorem PySem.W.Fast.tw11792267540496319075 : True := trivial
theorem PySem.W.Fast.tw7089173023718011153 : True := trivial
theorem PySem.W.Fast.tw17568914848288952154 : True := trivial
theorem PySem.W.Fast.tw3238981374253167051 : True := trivial
theorem PySem.W.Fast.tw669226409703702143 : True := trivial
theorem PySem.W.Fast.tw15922846045496655518 : True := trivial
theorem PySem.W.Fast.tw16472020805692762212 : True := trivial
theorem PySem.W.Fast.tw6702001825266912496 : True := trivial
theorem PySem.W.Fast.tw5789095529180271223 : True := trivial
theorem PySem.W.Fast.tw17231395215791717386 : True := trivial
theorem PySem.W.Fast.tw10053971672554544751 : True := trivial
theorem PySem.W.Fast.tw12902474495718348164 : True := trivial
theorem PySem.W.Fast.tw12218548198900027062 : True := trivial
theorem PySem.W.Fast.tw14296167132669626616 : True := trivial
theorem PySem.W.Fast.tw13325915904897903567 : True := trivial
theorem PySem.W.Fast.tw12148756704695840262 : True := trivial
theorem PySem.W.Fast.tw11824007451687976408 : True := trivial
theorem PySem.W.Fast.tw5994583268864910850 : True := trivial
theorem PySem.W.Fast.tw10391398828566422821 : True := trivial
theorem PySem.W.Fast.tw1339504311454737322 : True := trivial
theorem PySem.W.Fast.tw560266203701304187 : True := trivial
theorem PySem.W.Fast.tw5183272461387376937 : True := trivial
theorem PySem.W.Fast.tw2559650694225471874 : True := trivial
theorem PySem.W.Fast.tw10100619831729228361 : True := trivial
theorem PySem.W.Fast.tw16053106073088162657 : True := trivial
theorem PySem.W.Fast.tw17168567968948602880 : True := trivial
theorem PySem.W.Fast.tw3070228365840045635 : True := trivial
theorem PySem.W.Fast.tw3363711206180094216 : True := trivial
theorem PySem.W.Fast.tw4310374437953805637 : True := trivial
theorem PySem.W.Fast.tw15827083606098691487 : True := trivial
theorem PySem.W.Fast.tw13109051080906901015 : True := trivial
theorem PySem.W.Fast.tw4093231403789669670 : True := trivial
theorem PySem.W.Fast.tw5798420392047320439 : True := trivial
theorem PySem.W.Fast.tw11223161785224812985 : True := trivial
theorem PySem.W.Fast.tw15728693946662766479 : True := trivial
theorem PySem.W.Fast.tw15758530145875268910 : True := trivial
theorem PySem.W.Fast.tw7183526877740020474 : True := trivial
theorem PySem.W.Fast.tw18279717337640886772 : True := trivial
theorem PySem.W.Fast.tw7262445756347522791 : True := trivial
theorem PySem.W.Fast.tw6578005172484372132 : True := trivial
theorem PySem.W.Fast.tw18318402706280760918 : True := trivial
theorem PySem.W.Fast.tw16811185135109187680 : True := trivial
theorem PySem.W.Fast.tw17767174969718932062 : True := trivial
theorem PySem.W.Fast.tw17027808874375805 : True := trivial
theorem PySem.W.Fast.tw3495508354421892061 : True := trivial
theorem PySem.W.Fast.tw6973557652775452605 : True := trivial
theorem PySem.W.Fast.tw9156256437523879976 : True := trivial
theorem PySem.W.Fast.tw11528129570076523797 : True := trivial
theorem PySem.W.Fast.tw17946628568857052050 : True := trivial
theorem PySem.W.Fast.tw8313765265519568475 : True := trivial
theorem PySem.W.Fast.tw15318765411259212905 : True := trivial
theorem PySem.W.Fast.tw6032963219339712455 : True := trivial
theorem PySem.W.Fast.tw416873033079319470 : True := trivial
theorem PySem.W.Fast.tw4428514875631153647 : True := trivial
theorem PySem.W.Fast.tw14732526633172351519 : True := trivial
theorem PySem.W.Fast.tw832000375838502662 : True := trivial
theorem PySem.W.Fast.tw4156641827256784538 : True := trivial
theorem PySem.W.Fast.tw10000584624880947159 : True := trivial
theorem PySem.W.Fast.tw12528345910088995628 : True := trivial
theorem PySem.W.Fast.tw1838226865438031575 : True := trivial
theorem PySem.W.Fast.tw6999545627245325152 : True := trivial
theorem PySem.W.Fast.tw11685578713229762288 : True := trivial
open PySem PySem.W PyProof.Rows
set_option maxRecDepth 100000 in
set_option maxHeartbeats 0 in
theorem PySem.Challenge.cw_waymark_k52_texts_of_no_pattern_holds : PySem.Challenge.rw_waymark_k52_texts_of_no_pattern.Holds := by
 w_on; o_law; k_head; (case hw => w_witness2)
 k_fill
 refine Wm.walk (l := PySem.Challenge.rw_waymark_k52_texts_of_no_pattern) rfl rfl (fun w h Y => PySem.W.kIn_of Y) ?F
 case F =>
  intro w mg fa h KX G hmg
  refine' Wm.qqe KX G hmg ?en_NoRow ?en_NoName ?en_NoValue ?en_NoBase ?en_NoAddress ?en_NoPattern ?en_WayError ?a1 ?l1 ?a2 ?l2 ?a3 ?l3 ?a4 ?l4 ?a5 ?l5 ?a6 ?l6 ?a7 ?l7 ?a8 ?l8 ?a9 ?l9 ?a10 ?l10 ?a11 ?l11 ?a12 ?l12 ?a13 ?l13 ?a14 ?l14 ?a15 ?l15 ?a16 ?l16 ?a17 ?l17 ?a18 ?l18 ?a19 ?l19 ?a20 ?l20 ?a21 ?l21 ?a22 ?l22 ?a23 ?l23 ?a24 ?l24 ?a25 ?l25 ?a26 ?l26 ?a27 ?l27 ?d27 ?a28 ?l28 ?a29 ?l29 ?a30 ?l30 ?a31 ?l31 ?a32 ?l32 ?a33 ?l33 ?a34 ?l34 ?a35 ?l35 ?a36 ?l36 ?a37 ?l37 ?a38 ?l38 ?e_NAMED_WORDS ?y0_NAMED_WORDS ?e_WRITTEN_WORDS ?y0_WRITTEN_WORDS ?e_SIGNS ?e_SMALL_LETTERS ?e_PLAIN ?e_FREE_IN_STEPS ?e_FIRST_NUMBER ?e_LAST_NUMBER ?e_NUMBER_LEFT_OUT ?e_SMALL_FIGURES ?e_GREAT_FIGURES ?e_STAY ?e_UP ?e_PIECES ?e_CLOSES ?e_MOST_PIECES ?e_LONGEST_NAME ?z_all ?z_len ?z_isinstance ?z_tuple ?z_range ?z_ord ?z_str ?z_enumerate ?z_max ?z_set ?z_zip ?z_bool ?z_ValueError ?ex_NoPattern ?ew1_WayError ?ew2_WayError ?ew3_WayError ?el0_NoPattern ?el1_NoPattern ?el2_NoPattern ?el3_NoPattern ?el4_NoPattern ?el5_NoPattern ?eu_NoPattern_WayError ?ei_NoPattern_NoPattern ?ei_NoPattern_ValueError ?ei_NoPattern_NoAddress ?ei_NoPattern_NoBase ?ei_NoPattern_NoValue ?ei_NoPattern_NoName ?ei_NoPattern_NoRow ?kk ?cc
  (case en_NoRow | en_NoName | en_NoValue | en_NoBase | en_NoAddress | en_NoPattern | en_WayError => first | k_is | kit_is | with_unfolding_all kernel_rfl | with_unfolding_all rfl)
  (case a1 | l1 | a2 | l2 | a3 | l3 | a4 | l4 | a5 | l5 | a6 | l6 | a7 | l7 | a8 | l8 | a9 | l9 | a10 | l10 | a11 | l11 | a12 | l12 | a13 | l13 | a14 | l14 | a15 | l15 | a16 | l16 | a17 | l17 | a18 | l18 | a19 | l19 | a20 | l20 | a21 | l21 | a22 | l22 | a23 | l23 | a24 | l24 | a25 | l25 | a26 | l26 | a27 | l27 | d27 | a28 | l28 | a29 | l29 | a30 | l30 | a31 | l31 | a32 | l32 | a33 | l33 | a34 | l34 | a35 | l35 | a36 | l36 | a37 | l37 | a38 | l38 | e_NAMED_WORDS | y0_NAMED_WORDS | e_WRITTEN_WORDS | y0_WRITTEN_WORDS | e_SIGNS | e_SMALL_LETTERS | e_PLAIN | e_FREE_IN_STEPS | e_FIRST_NUMBER | e_LAST_NUMBER | e_NUMBER_LEFT_OUT | e_SMALL_FIGURES | e_GREAT_FIGURES | e_STAY | e_UP | e_PIECES | e_CLOSES | e_MOST_PIECES | e_LONGEST_NAME | z_all | z_len | z_isinstance | z_tuple | z_range | z_ord | z_str | z_enumerate | z_max | z_set | z_zip | z_bool | z_ValueError => k_is)
  (case ex_NoPattern | ew1_WayError | ew2_WayError | ew3_WayError | el0_NoPattern | el1_NoPattern | el2_NoPattern | el3_NoPattern | el4_NoPattern | el5_NoPattern | eu_NoPattern_WayError | ei_NoPattern_NoPattern | ei_NoPattern_ValueError | ei_NoPattern_NoAddress | ei_NoPattern_NoBase | ei_NoPattern_NoValue | ei_NoPattern_NoName | ei_NoPattern_NoRow => first | k_is | kit_is | with_unfolding_all kernel_rfl | with_unfolding_all rfl)
  (case kk | cc => first | k_is | with_unfolding_all kernel_rfl | with_unfolding_all rfl)
