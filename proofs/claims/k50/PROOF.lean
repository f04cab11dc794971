import PyProof.Rows.All
import Wide.All
import OpenK.AllK
import Wide.FinOn
import Lean
import PyProof.EqAt
import PyProof.EqKinds
import PyProof.TupleCall
import PySem.Challenge.RW_waymark_k50_what_is_a_pattern
set_option Elab.async false
set_option linter.all false
set_option maxRecDepth 100000
namespace L2
open PySem PySem.Spec PyProof.Rows
abbrev Key := Sum Int Str
def keyIs : Key → Value → Bool
 | .inl k, v => Value.isInt k v
 | .inr x, v => Value.isStrOf x v
def keyH (w : World) : Key → Int
 | .inl k => hashInt k
 | .inr x => hashStr w x
theorem aqC : ∀ {k : Key} {v : Value}, keyIs k v = true → (∃ i t, k = Sum.inl i ∧ v = Value.int i t) ∨ (∃ x t, k = Sum.inr x ∧ v = Value.str x t)
 | .inl i, v, h => by
  obtain ⟨t, e⟩ := Value.isInt_shape (k := i) (v := v) h
  exact .inl ⟨i, t, rfl, e⟩
 | .inr x, v, h => by
  obtain ⟨t, e⟩ := Value.isStrOf_shape (x := x) (v := v) h
  exact .inr ⟨x, t, rfl, e⟩
theorem lqM (a b : Int) : decide ((Sum.inl a : Key) = Sum.inl b) = (a == b) := by
 by_cases e : a = b
 ·subst e; simp
 ·have h : ¬ (Sum.inl a : Key) = Sum.inl b := fun q => e (Sum.inl.inj q)
  rw [decide_eq_false h]
  exact (beq_eq_false_iff_ne.mpr e).symm
theorem mqe (a b : Str) : decide ((Sum.inr a : Key) = Sum.inr b) = decide (a = b) := by
 by_cases e : a = b
 ·subst e; simp
 ·have h : ¬ (Sum.inr a : Key) = Sum.inr b := fun q => e (Sum.inr.inj q)
  rw [decide_eq_false h, decide_eq_false e]
theorem mqo (a : Int) (b : Str) : decide ((Sum.inl a : Key) = Sum.inr b) = false := decide_eq_false (fun q => nomatch q)
theorem lqL (a : Str) (b : Int) : decide ((Sum.inr a : Key) = Sum.inl b) = false := decide_eq_false (fun q => nomatch q)
def mixKind (prog : Program) (w : World) : PySem.KeyKind prog w Key where
 is := keyIs
 hash := keyH w
 inj := fun v a b ha hb => by
  rcases aqC ha with ⟨i, t, rfl, rfl⟩ | ⟨x, t, rfl, rfl⟩
  ·rcases aqC hb with ⟨j, u, rfl, e⟩ | ⟨y, u, rfl, e⟩
   ·injection e with e1 _; rw [e1]
   ·exact nomatch e
  ·rcases aqC hb with ⟨j, u, rfl, e⟩ | ⟨y, u, rfl, e⟩
   ·exact nomatch e
   ·injection e with e1 _; rw [e1]
 byValue := fun k v h => by
  rcases aqC h with ⟨i, t, rfl, rfl⟩ | ⟨x, t, rfl, rfl⟩ <;> rfl
 pyHash := fun hv h => by
  rcases aqC hv with ⟨i, t, rfl, rfl⟩ | ⟨x, t, rfl, rfl⟩
  ·exact wpAny_pyHash_int h
  ·exact wpAny_pyHash_str h
 eqBool := fun hu hv h => by
  rcases aqC hu with ⟨i, t, rfl, rfl⟩ | ⟨x, t, rfl, rfl⟩
  ·rcases aqC hv with ⟨j, u, rfl, rfl⟩ | ⟨y, u, rfl, rfl⟩
   ·rw [lqM] at h; exact wpAny_eqBool_int h
   ·rw [mqo] at h; exact SeqAt.EqAt.int_str i t y u _ _ _ _ h
  ·rcases aqC hv with ⟨j, u, rfl, rfl⟩ | ⟨y, u, rfl, rfl⟩
   ·rw [lqL] at h; exact SeqAt.EqAt.str_int x t j u _ _ _ _ h
   ·rw [mqe] at h; exact wpAny_eqBool_str h
 «strs» := fun k x t v h => by
  rcases aqC h with ⟨i, u, rfl, e⟩ | ⟨y, u, rfl, e⟩
  ·exact nomatch e
  ·injection e with e1 _
   subst e1
   cases v <;> rfl
inductive V where
 | non | bl (b : Bool) | int (i : Int) | str (x : Str) | byt (b : Array UInt8) | flt (b : UInt64) | ref (a : Addr) | ty (n : String)
 deriving DecidableEq
def RelV : V → Value → Prop
 | .non, u => u = Value.none
 | .bl b, u => u = Value.bool b
 | .int i, u => ∃ t, u = Value.int i t
 | .str x, u => ∃ t, u = Value.str x t
 | .byt b, u => ∃ t, u = Value.bytes b t
 | .flt b, u => ∃ t, u = Value.float b t
 | .ref a, u => u = Value.ref a
 | .ty n, u => u = Value.type n
abbrev Vals : List V → List Value → Prop := Paired RelV
theorem Vals.length {xs : List V} {us : List Value} (r : Vals xs us) : xs.length = us.length := Paired.length r
theorem Vals.get : ∀ {xs : List V} {us : List Value} {i : Nat} {x : V}, Vals xs us → xs[i]? = some x → ∃ u, us[i]? = some u ∧ RelV x u
 | _, _, _, _, .nil, e => by simp at e
 | _, _, 0, _, .cons r _, e => by simp at e; subst e; exact ⟨_, rfl, r⟩
 | _, _, i + 1, x, .cons _ t, e => by
  obtain ⟨u, h1, h2⟩ := Vals.get (i := i) (x := x) t (by simpa using e)
  exact ⟨u, by simpa using h1, h2⟩
theorem Vals.set {x : V} {u : Value} (r : RelV x u) : ∀ {xs : List V} {us : List Value} (i : Nat), Vals xs us → Vals (xs.set i x) (us.set i u)
 | _, _, _, .nil => .nil
 | _, _, 0, .cons _ t => .cons r t
 | _, _, i + 1, .cons q t => .cons q (Vals.set r i t)
theorem Vals.append : ∀ {xs ys : List V} {us ws : List Value}, Vals xs us → Vals ys ws → Vals (xs ++ ys) (us ++ ws)
 | _, _, _, _, .nil, s => s
 | _, _, _, _, .cons r t, s => .cons r (Vals.append t s)
theorem Vals.take : ∀ {xs : List V} {us : List Value} (n : Nat), Vals xs us → Vals (xs.take n) (us.take n)
 | _, _, 0, _ => .nil
 | _, _, _ + 1, .nil => .nil
 | _, _, n + 1, .cons r t => .cons r (Vals.take n t)
theorem Vals.drop : ∀ {xs : List V} {us : List Value} (n : Nat), Vals xs us → Vals (xs.drop n) (us.drop n)
 | _, _, 0, r => r
 | _, _, _ + 1, .nil => .nil
 | _, _, n + 1, .cons _ t => Vals.drop n t
def RelO : Option V → Option Value → Prop
 | some v, some u => RelV v u
 | none, none => True
 | _, _ => False
def KV {κ : Type} : List (κ × V) → List (κ × Value) → Prop := Paired fun (p : κ × V) (q : κ × Value) => p.1 = q.1 ∧ RelV p.2 q.2
def kV : Key → V
 | .inl i => .int i
 | .inr x => .str x
inductive HO where
 | lst (xs : List V)
 | tup (xs : List V)
 | dK (kvs : List (Key × V)) | dT (kvs : List (List Key × V))
 | set (S : Int → Bool) (n : Nat)
 | ins (C dx : Addr) (fs : List (Str × V))
 | own (x : Addr)
 | xd (fs : List (Str × V))
 | met (f x : Addr)
 | rng (lo hi : Int)
 | frz (o : Obj) (u : HO)
 | tbl (ps : Array Value)
 | ext (φ : Heap → Prop)
abbrev Hp := Addr → Option HO
def upd (H : Hp) (a : Addr) (o : HO) : Hp := fun b => if b = a then some o else H b
theorem aqn {H : Hp} {a : Addr} {o : HO} : upd H a o a = some o := by unfold upd; rw [if_pos rfl]
theorem aqp {H : Hp} {a b : Addr} {o : HO} (h : b ≠ a) : upd H a o b = H b := by unfold upd; rw [if_neg h]
theorem aqj {H : Hp} {a b : Addr} {o : HO} (h : H a = some o) (h' : H b = none) : a ≠ b := by
 intro e; subst e; rw [h] at h'; cases h'
section
variable (P : Program) (w : World)
def ObjOk (H : Hp) (h : Heap) (a : Addr) : HO → Prop
 | .lst xs => xs.length ≤ sizeLine ∧ ∃ (its : List Value) (n : Nat), Vals xs its ∧ h.get? a = some { cls := .type "list", data := .seq its.toArray n }
 | .tup xs => xs.length ≤ sizeLine ∧ ∃ its : List Value, Vals xs its ∧ IsTup h a its.toArray
 | .dK kvs => kvs.length ≤ sizeLine ∧ (a == sysModules) = false ∧ ∃ vs, KV kvs vs ∧ h.DictOf (mixKind P w) a vs
 | .dT kvs => kvs.length ≤ sizeLine ∧ (a == sysModules) = false ∧ ∃ xs : List (List Key × Addr × Value),
   Paired (fun (p : List Key × V) (q : List Key × Addr × Value) => p.1 = q.1 ∧ H q.2.1 = some (.tup (p.1.map kV)) ∧ RelV p.2 q.2.2) kvs xs ∧
   ∃ o es ep, h.get? a = some o ∧ o.ExactDict ∧ o.data = .dict es ep ∧ es.toList = xs.map (entryOfKey (tupleKind (mixKind P w))) ∧ (xs.map (·.1)).Nodup
 | .set S n => h.SetOf (intKind P w) a S n
 | .ins C dx fs => H dx = some (.own a) ∧ fs.length ≤ 1000 ∧ dx ≠ a ∧ h.get? a = some (PySem.W.instObj C dx) ∧
   ∃ mA, h.Ns1 dx mA ∧ (∀ f, RelO (fs.lookup f) (mA f)) ∧ PySem.Within mA (fs.map (·.1))
 | .own _ => ∃ o, h.get? a = some o
 | .xd fs => ∃ mA, h.Ns1 a mA ∧ ∀ f, RelO (fs.lookup f) (mA f)
 | .rng lo hi => ∃ t u v, h.get? a = some { cls := .type "range", data := .fields #[.int lo t, .int hi u, .int 1 v] }
 | .frz o u => h.get? a = some o ∧ ObjOk H h a u
 | .tbl ps => h.get? a = some { cls := .none, data := .fields ps }
 | .met f x => h.get? a = some (PySem.W.methodObj (.ref f) (.ref x))
 | .ext φ => φ h ∧ (∃ o, h.get? a = some o) ∧ ∀ h1 h2 : Heap, φ h1 → (∀ o, h1.get? a = some o → h2.get? a = some o) → φ h2
def HOk (H : Hp) (h : Heap) : Prop := ∀ a o, H a = some o → ObjOk P w H h a o
end
section
variable {P : Program} {w : World} {H H' : Hp} {h h' : Heap} {a : Addr} {o : HO}
theorem ObjOk.lt (x : ObjOk P w H h a o) : a < h.objs.size := by
 cases o with
 | lst xs => obtain ⟨_, _, _, _, e⟩ := x; exact Heap.lt_size e
 | tup xs => obtain ⟨_, _, _, p⟩ := x; exact p.lt
 | dK kvs => obtain ⟨_, _, _, _, o, _, _, e, _⟩ := x; exact Heap.lt_size e
 | dT kvs => obtain ⟨_, _, _, _, o, _, _, e, _⟩ := x; exact Heap.lt_size e
 | set S n => obtain ⟨o, _, _, _, e, _⟩ := x; exact Heap.lt_size e
 | ins C dx fs => obtain ⟨_, _, _, e, _⟩ := x; exact Heap.lt_size e
 | own y => obtain ⟨_, e⟩ := x; exact Heap.lt_size e
 | xd fs => obtain ⟨_, ⟨_, _, _, e, _⟩, _⟩ := x; exact Heap.lt_size e
 | rng lo hi => obtain ⟨_, _, _, e⟩ := x; exact Heap.lt_size e
 | frz ob u => obtain ⟨e, _⟩ := x; exact Heap.lt_size e
 | tbl ps => exact Heap.lt_size (show h.get? a = some _ from x)
 | met f y => exact Heap.lt_size (show h.get? a = some _ from x)
 | ext φ => obtain ⟨_, ⟨_, e⟩, _⟩ := x; exact Heap.lt_size e
theorem Paired.mapP {α β : Type} {F G : α → β → Prop} : ∀ {l₁ : List α} {l₂ : List β}, Paired F l₁ l₂ → (∀ a b, F a b → G a b) → Paired G l₁ l₂
 | _, _, .nil, _ => .nil
 | _, _, .cons r t, f => .cons (f _ _ r) (Paired.mapP t f)
theorem ObjOk.stay (x : ObjOk P w H h a o) (k : ∀ b u, (b = a ∨ H b = some (.own a)) → h.get? b = some u → h'.get? b = some u)
  (ho : ∀ b, H b = some (.own a) → H' b = some (.own a)) (ht : ∀ b xs, H b = some (.tup xs) → H' b = some (.tup xs)) : ObjOk P w H' h' a o := by
 induction o with
 | lst xs => obtain ⟨z, its, n, r, e⟩ := x; exact ⟨z, its, n, r, k _ _ (.inl rfl) e⟩
 | tup xs => obtain ⟨z, its, r, ob, e, c⟩ := x; exact ⟨z, its, r, ob, k _ _ (.inl rfl) e, c⟩
 | dK kvs => obtain ⟨z, y, vs, r, ob, es, ep, e, c⟩ := x; exact ⟨z, y, vs, r, ob, es, ep, k _ _ (.inl rfl) e, c⟩
 | dT kvs =>
  obtain ⟨z, y, xs, r, ob, es, ep, e, c⟩ := x
  exact ⟨z, y, xs, Paired.mapP r fun p q z => ⟨z.1, ht _ _ z.2.1, z.2.2⟩, ob, es, ep, k _ _ (.inl rfl) e, c⟩
 | set S n => obtain ⟨ob, es, ep, t, e, c⟩ := x; exact ⟨ob, es, ep, t, k _ _ (.inl rfl) e, c⟩
 | ins C dx fs =>
  obtain ⟨d, z, ne, e, mA, ⟨od, es, ep, e2, c⟩, r⟩ := x
  exact ⟨ho _ d, z, ne, k _ _ (.inl rfl) e, mA, ⟨od, es, ep, k _ _ (.inr d) e2, c⟩, r⟩
 | own y => obtain ⟨ob, e⟩ := x; exact ⟨ob, k _ _ (.inl rfl) e⟩
 | xd fs => obtain ⟨mA, ⟨od, es, ep, e, c⟩, r⟩ := x; exact ⟨mA, ⟨od, es, ep, k _ _ (.inl rfl) e, c⟩, r⟩
 | rng lo hi => obtain ⟨t, u, v, e⟩ := x; exact ⟨t, u, v, k _ _ (.inl rfl) e⟩
 | frz ob u ih => obtain ⟨e, q⟩ := x; exact ⟨k _ _ (.inl rfl) e, ih q⟩
 | tbl ps =>
  have e : h.get? a = some { cls := .none, data := .fields ps } := x
  show h'.get? a = some { cls := .none, data := .fields ps }
  exact k a _ (.inl rfl) e
 | met f y =>
  have e : h.get? a = some (PySem.W.methodObj (.ref f) (.ref y)) := x
  show h'.get? a = some (PySem.W.methodObj (.ref f) (.ref y))
  exact k a _ (.inl rfl) e
 | ext φ => obtain ⟨p, ⟨o, e⟩, st⟩ := x; exact ⟨st _ _ p fun o q => k _ _ (.inl rfl) q, ⟨o, k _ _ (.inl rfl) e⟩, st⟩
theorem HOk.lt (x : HOk P w H h) (e : H a = some o) : a < h.objs.size := (x a o e).lt
theorem HOk.fresh (x : HOk P w H h) (e : h.objs.size ≤ a) : H a = none := by
 cases q : H a with
 | none => rfl
 | some u => exact absurd (Nat.lt_of_lt_of_le (x.lt q) e) (Nat.lt_irrefl _)
theorem HOk.kept (x : HOk P w H h) (k : ∀ b u, h.get? b = some u → h'.get? b = some u) : HOk P w H h' := fun a o e =>
 (x a o e).stay (fun b u _ q => k b u q) (fun _ q => q) fun _ _ q => q
theorem HOk.laid (x : HOk P w H h) (k : ∀ b u, h.get? b = some u → h'.get? b = some u) (hp : h.objs.size ≤ a) (new : ObjOk P w (upd H a o) h' a o) : HOk P w (upd H a o) h' := fun b u e => by
 have hn := x.fresh hp
 by_cases hb : b = a
 ·subst hb; rw [aqn] at e; cases e; exact new
 ·rw [aqp hb] at e
  exact (x b u e).stay (fun c v _ q => k c v q) (fun c q => by rw [aqp (aqj q hn)]; exact q) fun c xs q => by rw [aqp (aqj q hn)]; exact q
end
def Rd (H : Hp) (a : Addr) (u : HO) : Prop := H a = some u ∨ ∃ o, H a = some (.frz o u)
theorem Rd.ok {P : Program} {w : World} {H : Hp} {h : Heap} {a : Addr} {u : HO} (r : Rd H a u) (x : HOk P w H h) : ObjOk P w H h a u := by
 rcases r with r | ⟨o, r⟩
 ·exact x a u r
 ·obtain ⟨_, q⟩ := x a _ r
  exact q
def Mut : Option HO → Prop
 | some (.lst _) => True
 | some (.dK _) => True
 | some (.dT _) => True
 | some (.set _ _) => True
 | some (.ins _ _ _) => True
 | some (.ext _) => True
 | _ => False
section
variable {P : Program} {w : World} {H : Hp} {h h' : Heap} {x e : Addr} {o' : HO}
theorem HOk.write (ok : HOk P w H h) (mu : Mut (H x)) (he : e = x ∨ H e = some (.own x)) (k : ∀ b u, b ≠ e → h.get? b = some u → h'.get? b = some u) (heo : ∃ u, h'.get? e = some u)
  (new : ObjOk P w (upd H x o') h' x o') : HOk P w (upd H x o') h' := fun b u q => by
 have nown : ∀ c y, H c = some (.own y) → c ≠ x := fun c y r z => by subst z; rw [r] at mu; exact mu
 have ntup : ∀ c xs, H c = some (.tup xs) → c ≠ x := fun c xs r z => by subst z; rw [r] at mu; exact mu
 by_cases hb : b = x
 ·subst hb; rw [aqn] at q; cases q; exact new
 ·rw [aqp hb] at q
  by_cases hbe : b = e
  ·have q' : H b = some (.own x) := by
    rcases he with z | z
    ·exact absurd (hbe.trans z) hb
    ·rw [hbe]; exact z
   rw [q] at q'; cases q'
   obtain ⟨v, hv⟩ := heo
   exact ⟨v, by rw [hbe]; exact hv⟩
  ·refine (ok b u q).stay (fun c v hc r => k c v ?_ r) (fun c r => by rw [aqp (nown c b r)]; exact r) fun c xs r => by rw [aqp (ntup c xs r)]; exact r
   rcases hc with rfl | hc
   ·exact hbe
   ·rintro rfl
    rcases he with z | z
    ·exact nown c b hc z
    ·rw [hc] at z; cases z; exact hb rfl
end
structure Un (fs ex : List Addr) (H H' : Hp) (h h' : Heap) : Prop where
 keep : ∀ b o, h.get? b = some o → H b = none → b ∉ fs → b ∉ ex → h'.get? b = some o
 slot : ∀ b o, h.get? b = some o → H b = none → b ∈ fs → b ∉ ex → ∃ sl, h'.get? b = some { o with slots := sl }
 free : ∀ b o, h.get? b = some o → H b = none → b ∉ ex → H' b = none
 there : ∀ b o, h.get? b = some o → b ∉ ex → ∃ o', h'.get? b = some o'
 tups : ∀ b xs, H b = some (.tup xs) → H' b = some (.tup xs)
 frzs : ∀ b o u, H b = some (.frz o u) → H' b = some (.frz o u)
 tbls : ∀ b ps, H b = some (.tbl ps) → ∃ more, H' b = some (.tbl (ps ++ more))
section
variable {fs fs' ex ex' : List Addr} {H H1 H2 : Hp} {h h1 h2 h' : Heap} {a x e : Addr} {o : HO}
theorem Un.any (u : Un fs ex H H1 h h1) {b : Addr} {ob : Obj} (q : h.get? b = some ob) (n : H b = none) (hx : b ∉ ex) : ∃ sl, h1.get? b = some { ob with slots := sl } := by
 by_cases hb : b ∈ fs
 ·exact u.slot b ob q n hb hx
 ·exact ⟨ob.slots, u.keep b ob q n hb hx⟩
theorem Un.kept (k : ∀ b u, h.get? b = some u → h'.get? b = some u) : Un fs ex H H h h' :=
 ⟨fun b ob q _ _ _ => k b ob q, fun b ob q _ _ _ => ⟨ob.slots, k b ob q⟩, fun _ _ _ n _ => n, fun b ob q _ => ⟨ob, k b ob q⟩, fun _ _ q => q, fun _ _ _ q => q, fun _ ps q => ⟨#[], by rw [q]; simp⟩⟩
theorem Un.refl : Un fs ex H H h h := Un.kept fun _ _ q => q
theorem Un.laid (k : ∀ b u, h.get? b = some u → h'.get? b = some u) (hp : h.objs.size ≤ a) (hn : H a = none) : Un fs ex H (upd H a o) h h' where
 keep := fun b u q _ _ _ => k b u q
 slot := fun b u q _ _ _ => ⟨u.slots, k b u q⟩
 free := fun b u q n _ => by rw [aqp (Nat.ne_of_lt (Nat.lt_of_lt_of_le (Heap.lt_size q) hp))]; exact n
 there := fun b u q _ => ⟨u, k b u q⟩
 tups := fun b xs q => by rw [aqp (aqj q hn)]; exact q
 frzs := fun b u xs q => by rw [aqp (aqj q hn)]; exact q
 tbls := fun b ps q => ⟨#[], by rw [aqp (aqj q hn), q]; simp⟩
theorem Un.write (mu : Mut (H x)) (he : e = x ∨ H e = some (.own x)) (k : ∀ b u, b ≠ e → h.get? b = some u → h'.get? b = some u) (heo : ∃ u, h'.get? e = some u) : Un fs ex H (upd H x o) h h' := by
 have hx : ∀ b, H b = none → b ≠ x := fun b n z => by subst z; rw [n] at mu; exact mu
 have hb : ∀ b, H b = none → b ≠ e := fun b n z => by
  subst z
  rcases he with r | r
  ·exact hx b n r
  ·rw [n] at r; cases r
 have hm : ∀ b u, H b = some u → ¬ Mut (some u) → b ≠ x := fun b u q nm z => by subst z; rw [q] at mu; exact nm mu
 refine ⟨fun b u q n _ _ => k b u (hb b n) q, fun b u q n _ _ => ⟨u.slots, k b u (hb b n) q⟩, fun b u q n _ => by rw [aqp (hx b n)]; exact n, fun b u q _ => ?_,
  fun b xs q => by rw [aqp (hm b _ q fun z => z)]; exact q, fun b u xs q => by rw [aqp (hm b _ q fun z => z)]; exact q, fun b ps q => ⟨#[], by rw [aqp (hm b _ q fun z => z), q]; simp⟩⟩
 by_cases hbe : b = e
 ·subst hbe; exact heo
 ·exact ⟨u, k b u hbe q⟩
end
def trk (h : Heap) (H : Hp) : List Addr := (List.range h.objs.size).filter fun a => (H a).isSome
def hidT (h : Heap) (H : Hp) : Heap := PySem.W.hideAll h (trk h H)
theorem hqA (h : Heap) (H : Hp) : (hidT h H).objs.size = h.objs.size := PySem.W.hideAll_size _ _
theorem jql {h : Heap} {H : Hp} {b : Addr} {o : Obj} (e : h.get? b = some o) (n : H b = none) : (hidT h H).get? b = some o :=
 PySem.W.hideAll_get _ e fun hm => by
  have q : (H b).isSome = true := (List.mem_filter.mp hm).2
  rw [n] at q; simp at q
theorem kqy {h : Heap} {H : Hp} {b : Addr} {o : Obj} (e : (hidT h H).get? b = some o) : h.get? b = some o ∧ H b = none := by
 have e' : h.get? b = some o := PySem.W.of_hideAll (trk h H) e
 refine ⟨e', ?_⟩
 cases q : H b with
 | none => rfl
 | some x =>
  have hm : b ∈ trk h H := List.mem_filter.mpr ⟨List.mem_range.mpr (Heap.lt_size e'), by simp [q]⟩
  have z : (hidT h H).get? b = none := PySem.W.hideAll_none (trk h H) hm
  rw [z] at e; cases e
def allNews (g h : Heap) (L : Addr) : List (Addr × Obj) := (List.range h.objs.size).filterMap fun a => if a = L ∨ (g.get? a).isSome = true then none else (h.get? a).map fun o => (a, o)
def rest (g h : Heap) (L d : Addr) : List (Addr × Obj) := (allNews g h L).filter fun p => decide (p.1 ≠ d)
structure Mod (K : PySem.W.Frag) (mg : Str → Option Value) (base : Heap) : Prop where
 kin : K.In base
 glob : base.Ns mainGlobals mg
 blt : ∃ mb, base.Ns builtinsNs mb ∧ ∀ x : Str, x ≠ "__name__" → mb x = bootBuiltins x
 nolimit : base.NoLimit
structure Cx where
 prog : Program
 w : World
 K : PySem.W.Frag
 mg : Str → Option Value
 base : Heap
 A : Around
 N : List Str
 s₀ : Shared
 H₀ : Hp
 env : Env
 outer : List Env
 stack : List Env
 ex : List Addr
 fn : Str → Bool
 calm : Bool
 pn : List (Addr × Obj)
 xe : Value → Shared → Prop
def frs (l : List Env) : List Addr := l.filterMap (·.frame)
abbrev Cx.fs (X : Cx) : List Addr := frs X.outer
def Vis (sc : Scope) (x : Str) : Prop := sc.names.lookup x = some .local ∨ sc.names.lookup x = some .cell ∨ sc.names.lookup x = some .free
def Loc (sc : Scope) (x : Str) : Prop := sc.names.lookup x = some .local ∨ sc.names.lookup x = some .cell
def Look (env : Env) (h : Heap) (m : Str → Option Value) (x : Str) (u : Value) : Prop :=
 (env.kindOf x = some .local ∧ m x = some u) ∨ ((env.kindOf x = some .cell ∨ env.kindOf x = some .free) ∧ ∃ c, env.cells.lookup x = some c ∧ h.IsCell c (some u))
structure Cx.Ok (X : Cx) : Prop where
 mod : Mod X.K X.mg X.base
 kind : X.env.scope.kind = .function
 glob : X.env.globals = mainGlobals
 blt : X.env.builtins = builtinsNs
 above : X.s₀.heap.objs.size ≤ X.env.locals
 inj : ∀ x y c, X.env.cells.lookup x = some c → X.env.cells.lookup y = some c → x = y
 has : ∀ x, (X.env.kindOf x = some .cell ∨ X.env.kindOf x = some .free) → ∃ c, X.env.cells.lookup x = some c
 cab : ∀ x c, X.fn x = true → X.env.cells.lookup x = some c → X.s₀.heap.objs.size ≤ c
 hd : X.calm = true → X.A.handled = none
 frames : X.A.frames = some X.stack
 stk : X.stack = X.outer ∨ (X.stack = X.env :: X.outer ∧ X.env.frame = some X.env.locals)
 exf : ∀ b ∈ X.ex, b ≠ X.env.locals ∧ ∀ x c, X.env.cells.lookup x = some c → c ≠ b
 bs : ∀ b o, X.base.get? b = some o → X.s₀.heap.get? b = some o ∧ X.H₀ b = none
 bsz : X.base.objs.size ≤ X.s₀.heap.objs.size
 noex : ∀ b o, X.base.get? b = some o → b ∉ X.ex
 exfs : ∀ b ∈ X.ex, b ∉ X.fs
 funs : X.s₀.heap.FunFrames X.base X.outer
 frf : ∀ b ∈ X.fs, X.H₀ b = none
structure Inv (X : Cx) (pins : List (Addr × Obj)) (σ : List (Option V)) (H : Hp) (s : Shared) : Prop where
 ok : X.Ok
 os : s.os = X.s₀.os
 bare : AllBare s.gens
 base : Un X.fs X.ex X.H₀ H X.s₀.heap s.heap
 loc : ∃ m, s.heap.Ns X.env.locals m ∧ ∀ (i : Nat) (x : Str) (v : V), X.N[i]? = some x → σ[i]? = some (some v) → Vis X.env.scope x → ∃ u, RelV v u ∧ Look X.env s.heap m x u
 cell : ∀ x c, X.env.cells.lookup x = some c → ∃ v, s.heap.IsCell c v
 free : H X.env.locals = none
 freeC : ∀ x c, X.env.cells.lookup x = some c → H c = none
 pin : ∀ p ∈ X.pn ++ pins, s.heap.get? p.1 = some p.2 ∧ H p.1 = none ∧ p.1 ≠ X.env.locals ∧ p.1 ∉ X.fs ∧ ∀ v, p.2.data ≠ .cell v
 hok : HOk X.prog X.w H s.heap
 len : σ.length = X.N.length
section
variable {X : Cx} {pins : List (Addr × Obj)} {σ : List (Option V)} {H H' : Hp} {s : Shared} {h' : Heap}
theorem Cx.Ok.nofr (ok : X.Ok) {b : Addr} {o : Obj} (e : X.base.get? b = some o) : b ∉ X.fs := fun hb => by
 have := (ok.funs.mem hb).1
 rw [e] at this; cases this
theorem Inv.bs (I : Inv X pins σ H s) : ∀ b o, X.base.get? b = some o → s.heap.get? b = some o ∧ H b = none := fun b o e =>
 ⟨I.base.keep b o (I.ok.bs b o e).1 (I.ok.bs b o e).2 (I.ok.nofr e) (I.ok.noex b o e), I.base.free b o (I.ok.bs b o e).1 (I.ok.bs b o e).2 (I.ok.noex b o e)⟩
theorem Inv.bk (I : Inv X pins σ H s) : ∀ b o, X.base.get? b = some o → s.heap.get? b = some o := fun b o e => (I.bs b o e).1
theorem Inv.mod (I : Inv X pins σ H s) : Mod X.K X.mg X.base := I.ok.mod
theorem Inv.kIn (I : Inv X pins σ H s) : X.K.In s.heap := I.ok.mod.kin.keeps I.bk
theorem Inv.lt (I : Inv X pins σ H s) : X.env.locals < s.heap.objs.size := let ⟨_, hn, _⟩ := I.loc; hn.lt
theorem Inv.sz (I : Inv X pins σ H s) : X.s₀.heap.objs.size ≤ s.heap.objs.size := Nat.le_trans I.ok.above (Nat.le_of_lt I.lt)
theorem Inv.nofs (I : Inv X pins σ H s) {a : Addr} (h : s.heap.objs.size ≤ a) : a ∉ X.fs := fun hb => by
 obtain ⟨_, o, ho, _⟩ := I.ok.funs.mem hb
 exact absurd (Nat.lt_of_lt_of_le (Heap.lt_size ho) (Nat.le_trans I.sz h)) (Nat.lt_irrefl _)
theorem Inv.cne (I : Inv X pins σ H s) : ∀ x c, X.env.cells.lookup x = some c → c ≠ X.env.locals := fun x c e z => by
 obtain ⟨v, o, ho, hd⟩ := I.cell x c e
 obtain ⟨m, ⟨o', es, ep, ho', hd', _⟩, _⟩ := I.loc
 rw [z, ho'] at ho; cases ho; rw [hd'] at hd; cases hd
theorem Inv.funs (I : Inv X pins σ H s) : s.heap.FunFrames X.base X.outer := by
 have all : ∀ (l : List Env), (∀ b ∈ frs l, b ∈ X.fs) → X.s₀.heap.FunFrames X.base l → s.heap.FunFrames X.base l := by
  intro l
  induction l with
  | nil => intro _ _; trivial
  | cons env r ih =>
   intro hs hl
   obtain ⟨hk, ⟨L, o, hf, hn, ho, hd⟩, hr⟩ := hl
   have hL : L ∈ X.fs := hs L (by unfold frs; rw [List.filterMap_cons, hf]; exact List.mem_cons_self)
   obtain ⟨sl, e⟩ := I.base.slot L o ho (I.ok.frf L hL) hL fun z => I.ok.exfs L z hL
   exact ⟨hk, ⟨L, _, hf, hn, e, hd⟩, ih (fun b hb => hs b (by unfold frs; rw [List.filterMap_cons, hf]; exact List.mem_cons_of_mem _ hb)) hr⟩
 exact all X.outer (fun _ hb => hb) I.ok.funs
theorem Inv.stack (I : Inv X pins σ H s) : s.heap.FunFrames X.base X.stack := by
 rcases I.ok.stk with e | ⟨e, hf⟩
 ·rw [e]; exact I.funs
 ·rw [e]
  obtain ⟨m, hn, _⟩ := I.loc
  refine .cons (by rw [I.ok.kind]; decide) hf hn ?_ I.funs
  exact Heap.get?_none_of_le (Nat.le_trans I.ok.bsz I.ok.above)
theorem Inv.stkSub (I : Inv X pins σ H s) : ∀ b ∈ frs X.stack, b ∈ X.env.locals :: X.fs := fun b hb => by
 rcases I.ok.stk with e | ⟨e, hf⟩
 ·rw [e] at hb; exact List.mem_cons_of_mem _ hb
 ·rw [e] at hb
  unfold frs at hb
  rw [List.filterMap_cons, hf] at hb
  exact hb
theorem Inv.stkFree (I : Inv X pins σ H s) : ∀ b ∈ frs X.stack, H b = none := fun b hb => by
 rcases List.mem_cons.mp (I.stkSub b hb) with e | hb
 ·rw [e]; exact I.free
 ·obtain ⟨_, o, ho, _⟩ := I.ok.funs.mem hb
  exact I.base.free b o ho (I.ok.frf b hb) fun z => I.ok.exfs b z hb
theorem Inv.step {g' : Array GenState} {t' : Nat} {d' : Drawn} {ch : List Addr} (I : Inv X pins σ H s)
  (hch : ∀ b ∈ ch, (b ∈ X.ex ∨ X.s₀.heap.objs.size ≤ b) ∧ b ≠ X.env.locals ∧ (∀ x c, X.env.cells.lookup x = some c → c ≠ b) ∧ ∀ p ∈ X.pn ++ pins, p.1 ≠ b)
  (keep : ∀ b o, b ≠ X.env.locals → b ∉ X.fs → b ∉ ch → s.heap.get? b = some o → H b = none → h'.get? b = some o)
  (slot : ∀ b o, b ≠ X.env.locals → b ∈ X.fs → b ∉ ch → s.heap.get? b = some o → H b = none → ∃ sl, h'.get? b = some { o with slots := sl }) (free : ∀ b o, b ∉ ch → s.heap.get? b = some o → H b = none → H' b = none)
  (there : ∀ b o, b ∉ ch → s.heap.get? b = some o → ∃ o', h'.get? b = some o')
  (tups : ∀ b xs, H b = some (.tup xs) → H' b = some (.tup xs)) (frzs : ∀ b o u, H b = some (.frz o u) → H' b = some (.frz o u)) (tbls : ∀ b ps, H b = some (.tbl ps) → ∃ more, H' b = some (.tbl (ps ++ more)))
  (ns : ∀ m, s.heap.Ns X.env.locals m → h'.Ns X.env.locals m) (hok : HOk X.prog X.w H' h') (hg : AllBare g') :
  Inv X pins σ H' { s with heap := h', gens := g', drawn := d', toks := t' } := by
 have neL : ∀ b o, X.s₀.heap.get? b = some o → b ≠ X.env.locals := fun b o e => Nat.ne_of_lt (Nat.lt_of_lt_of_le (Heap.lt_size e) I.ok.above)
 have neC : ∀ b o, X.s₀.heap.get? b = some o → b ∉ X.ex → b ∉ ch := fun b o e hx hb => by
  rcases (hch b hb).1 with z | z
  ·exact hx z
  ·exact absurd (Nat.lt_of_lt_of_le (Heap.lt_size e) z) (Nat.lt_irrefl _)
 have cellK : ∀ x c, X.env.cells.lookup x = some c → ∀ v, s.heap.IsCell c v → h'.IsCell c v := fun x c e v ⟨o, ho, hd⟩ => by
  have nch : c ∉ ch := fun z => (hch c z).2.2.1 x c e rfl
  by_cases hc : c ∈ X.fs
  ·obtain ⟨sl, q⟩ := slot c o (I.cne x c e) hc nch ho (I.freeC x c e)
   exact ⟨_, q, hd⟩
  ·exact ⟨o, keep c o (I.cne x c e) hc nch ho (I.freeC x c e), hd⟩
 refine ⟨I.ok, I.os, hg, ⟨fun b o e n hb hx => ?_, fun b o e n hb hx => ?_, fun b o e n hx => ?_, fun b o e hx => ?_, fun b xs e => tups b xs (I.base.tups b xs e), fun b o xs e => frzs b o xs (I.base.frzs b o xs e), fun b ps e => ?_⟩, ?_, fun x c e => ?_, ?_, fun x c e => ?_, fun p hp => ?_, hok, I.len⟩
 ·exact keep b o (neL b o e) hb (neC b o e hx) (I.base.keep b o e n hb hx) (I.base.free b o e n hx)
 ·obtain ⟨sl, e1⟩ := I.base.slot b o e n hb hx
  obtain ⟨sl', e2⟩ := slot b _ (neL b o e) hb (neC b o e hx) e1 (I.base.free b o e n hx)
  exact ⟨sl', e2⟩
 ·obtain ⟨o', e1⟩ := I.base.there b o e hx
  exact free b o' (neC b o e hx) e1 (I.base.free b o e n hx)
 ·obtain ⟨o', e1⟩ := I.base.there b o e hx
  exact there b o' (neC b o e hx) e1
 ·obtain ⟨m1, e1⟩ := I.base.tbls b ps e
  obtain ⟨m2, e2⟩ := tbls b _ e1
  exact ⟨m1 ++ m2, by rw [e2, Array.append_assoc]⟩
 ·obtain ⟨m, hn, hl⟩ := I.loc
  refine ⟨m, ns m hn, fun i x v e1 e2 e3 => ?_⟩
  obtain ⟨u, r, l⟩ := hl i x v e1 e2 e3
  refine ⟨u, r, ?_⟩
  rcases l with l | ⟨k, c, e, z⟩
  ·exact .inl l
  ·exact .inr ⟨k, c, e, cellK x c e _ z⟩
 ·obtain ⟨v, z⟩ := I.cell x c e
  exact ⟨v, cellK x c e v z⟩
 ·obtain ⟨m, ⟨o, _, _, ho, _⟩, _⟩ := I.loc
  exact free _ o (fun z => (hch _ z).2.1 rfl) ho I.free
 ·obtain ⟨v, o, ho, hd⟩ := I.cell x c e
  exact free c o (fun z => (hch c z).2.2.1 x c e rfl) ho (I.freeC x c e)
 ·obtain ⟨e, n, ne, nf, d⟩ := I.pin p hp
  have nch : p.1 ∉ ch := fun z => (hch p.1 z).2.2.2 p hp rfl
  exact ⟨keep p.1 p.2 ne nf nch e n, free p.1 p.2 nch e n, ne, nf, d⟩
theorem Inv.un {t' : Nat} (I : Inv X pins σ H s) (u : Un X.fs [] H H' s.heap h') (hok : HOk X.prog X.w H' h') : Inv X pins σ H' { s with heap := h', toks := t' } := by
 obtain ⟨m, ⟨o, es, ep, ho, r⟩, _⟩ := id I.loc
 obtain ⟨sl, hL⟩ := u.any ho I.free (by simp)
 exact I.step (g' := s.gens) (d' := s.drawn) (ch := []) (fun _ z => nomatch z) (fun b o _ hb _ e n => u.keep b o e n hb (by simp)) (fun b o _ hb _ e n => u.slot b o e n hb (by simp)) (fun b o _ e n => u.free b o e n (by simp)) (fun b o _ e => u.there b o e (by simp)) u.tups u.frzs u.tbls (fun m' hm => by
  obtain ⟨o', es', ep', ho', r'⟩ := hm
  rw [ho] at ho'; cases ho'
  exact ⟨_, es', ep', hL, r'⟩) hok I.bare
theorem Inv.call {g' : Array GenState} {t' : Nat} {d' : Drawn} {ch : List Addr} (I : Inv X pins σ H s) (u : Un (frs X.stack) ch H H' s.heap h') (hok : HOk X.prog X.w H' h') (hg : AllBare g')
  (hch : ∀ b ∈ ch, (b ∈ X.ex ∨ X.s₀.heap.objs.size ≤ b) ∧ b ≠ X.env.locals ∧ (∀ x c, X.env.cells.lookup x = some c → c ≠ b) ∧ ∀ p ∈ X.pn ++ pins, p.1 ≠ b) :
  Inv X pins σ H' { s with heap := h', gens := g', drawn := d', toks := t' } := by
 obtain ⟨m, ⟨o, es, ep, ho, r⟩, _⟩ := id I.loc
 obtain ⟨sl, hL⟩ := u.any ho I.free fun z => (hch _ z).2.1 rfl
 exact I.step (ch := ch) hch (fun b o hL hb hc e n => u.keep b o e n (fun z => (List.mem_cons.mp (I.stkSub b z)).elim hL hb) hc) (fun b o _ _ hc e n => u.any e n hc) (fun b o hc e n => u.free b o e n hc) (fun b o hc e => u.there b o e hc) u.tups u.frzs u.tbls (fun m' hm => by
  obtain ⟨o', es', ep', ho', r'⟩ := hm
  rw [ho] at ho'; cases ho'
  exact ⟨_, es', ep', hL, r'⟩) hok hg
theorem Inv.turned {t' : Nat} {it : Addr} (I : Inv X pins σ H s) (k : ∀ b o, b ≠ it → s.heap.get? b = some o → h'.get? b = some o) (hn : H it = none) (hL : it ≠ X.env.locals)
  (h1 : it ∈ X.ex ∨ X.s₀.heap.objs.size ≤ it) (h2 : ∀ x c, X.env.cells.lookup x = some c → c ≠ it) (h3 : ∀ p ∈ X.pn ++ pins, p.1 ≠ it) : Inv X pins σ H { s with heap := h', toks := t' } := by
 have nit : ∀ b u, H b = some u → b ≠ it := fun b u e z => by rw [z, hn] at e; cases e
 refine I.step (g' := s.gens) (d' := s.drawn) (ch := [it]) (fun b hb => ?_) (fun b o _ _ hc e _ => k b o (fun z => hc (by simp [z])) e) (fun b o _ _ hc e _ => ⟨o.slots, k b o (fun z => hc (by simp [z])) e⟩) (fun _ _ _ _ n => n)
  (fun b o hc e => ⟨o, k b o (fun z => hc (by simp [z])) e⟩) (fun _ _ e => e) (fun _ _ _ e => e) (fun b ps e => ⟨#[], by rw [e]; simp⟩) (fun m hm => ?_) (fun b u e => ?_) I.bare
 ·have e : b = it := by simpa using hb
  subst e
  exact ⟨h1, hL, h2, h3⟩
 ·obtain ⟨o, es, ep, ho, r⟩ := hm
  exact ⟨o, es, ep, k _ o (Ne.symm hL) ho, r⟩
 ·refine (I.hok b u e).stay (fun c v hc q => k c v ?_ q) (fun _ q => q) fun _ _ q => q
  rcases hc with z | z
  ·rw [z]; exact nit b u e
  ·exact nit c _ z
theorem Inv.tok (I : Inv X pins σ H s) (t : Nat) : Inv X pins σ H { s with toks := t } := I.un (h' := s.heap) (t' := t) Un.refl I.hok
theorem Inv.kept {t' : Nat} (I : Inv X pins σ H s) (k : ∀ b u, s.heap.get? b = some u → h'.get? b = some u) : Inv X pins σ H { s with heap := h', toks := t' } := I.un (Un.kept k) (I.hok.kept k)
theorem Inv.laid {a : Addr} {o : HO} {t' : Nat} (I : Inv X pins σ H s) (k : ∀ b u, s.heap.get? b = some u → h'.get? b = some u) (hp : s.heap.objs.size ≤ a) (new : ObjOk X.prog X.w (upd H a o) h' a o) :
  Inv X pins σ (upd H a o) { s with heap := h', toks := t' } := I.un (Un.laid k hp (I.hok.fresh hp)) (I.hok.laid k hp new)
theorem Inv.write {x e : Addr} {o : HO} {t' : Nat} (I : Inv X pins σ H s) (mu : Mut (H x)) (he : e = x ∨ H e = some (.own x)) (k : ∀ b u, b ≠ e → s.heap.get? b = some u → h'.get? b = some u) (heo : ∃ u, h'.get? e = some u)
  (new : ObjOk X.prog X.w (upd H x o) h' x o) : Inv X pins σ (upd H x o) { s with heap := h', toks := t' } := I.un (Un.write mu he k heo) (I.hok.write mu he k heo new)
theorem Inv.pins_of {pins' : List (Addr × Obj)} (I : Inv X pins σ H s) (h : ∀ p ∈ pins', s.heap.get? p.1 = some p.2 ∧ H p.1 = none ∧ p.1 ≠ X.env.locals ∧ p.1 ∉ X.fs ∧ ∀ v, p.2.data ≠ .cell v) : Inv X pins' σ H s :=
 ⟨I.ok, I.os, I.bare, I.base, I.loc, I.cell, I.free, I.freeC, fun p hp => (List.mem_append.mp hp).elim (fun z => I.pin p (List.mem_append_left _ z)) (h p), I.hok, I.len⟩
theorem gqK {N : List Str} (hN : N.Nodup) {i j : Nat} {x : Str} (a : N[i]? = some x) (b : N[j]? = some x) : i = j := by
 obtain ⟨h1, e1⟩ := List.getElem?_eq_some_iff.mp a
 obtain ⟨h2, e2⟩ := List.getElem?_eq_some_iff.mp b
 exact (List.getElem_inj hN).mp (e1.trans e2.symm)
theorem fq1 {M : Model} {A : Around} {E : Value → Shared → Prop} {i : Nat} {x : Str} {v : V} {u : Value} {Q : Unit → Shared → Prop} (I : Inv X pins σ H s) (hN : X.N.Nodup) (hi : X.N[i]? = some x) (hx : Loc X.env.scope x) (r : RelV v u)
  (h : ∀ s', Inv X pins (σ.set i (some v)) H s' → (∃ a, Heap.SameBut a s.heap s'.heap ∧ (a = X.env.locals ∨ X.env.cells.lookup x = some a)) → Q () s') (hf : X.fn x = true ∨ X.env.scope.names.lookup x = some .local := by first | exact .inl rfl | exact .inr rfl | assumption) : wpAny M A (storeName X.env x u) Q E s := by
 obtain ⟨m, hn, hl⟩ := id I.loc
 have hcls : (X.env.scope.kind == .class || (X.env.scope.kind == .module && X.env.locals != X.env.globals)) = false := by rw [I.ok.kind]; rfl
 have hiσ : i < σ.length := by rw [I.len]; exact (List.getElem?_eq_some_iff.mp hi).1
 have cne := I.cne
 have tracked : ∀ {a : Addr} {h' : Heap}, (∃ o, s.heap.get? a = some o ∧ H a = none) → Heap.SameBut a s.heap h' → HOk X.prog X.w H h' := fun {a h'} ha hs b ob e => by
  obtain ⟨_, _, hfree⟩ := ha
  refine (I.hok b ob e).stay (fun c w' hc q => (hs.2 c ?_).trans q) (fun _ q => q) fun _ _ q => q
  rintro rfl
  rcases hc with rfl | hc
  ·rw [hfree] at e; cases e
  ·rw [hfree] at hc; cases hc
 rcases hx with hk | hk
 ·refine wpAny_storeName_local hk hn (fun h' hn' hs => ?_) hcls
  obtain ⟨oL, _, _, hoL, _⟩ := id hn
  refine h _ ⟨I.ok, I.os, I.bare, ⟨fun b o e n hb hx => ?_, fun b o e n hb hx => ?_, I.base.free, fun b o e hx => ?_, I.base.tups, I.base.frzs, I.base.tbls⟩, ⟨_, hn', fun j y v' e1 e2 e3 => ?_⟩, fun y c e => ?_, I.free, I.freeC, fun p hp => ?_, tracked ⟨oL, hoL, I.free⟩ hs, by simpa using I.len⟩ ⟨_, hs, .inl rfl⟩
  ·exact (hs.2 b (Nat.ne_of_lt (Nat.lt_of_lt_of_le (Heap.lt_size e) I.ok.above))).trans (I.base.keep b o e n hb hx)
  ·obtain ⟨sl, e1⟩ := I.base.slot b o e n hb hx
   exact ⟨sl, (hs.2 b (Nat.ne_of_lt (Nat.lt_of_lt_of_le (Heap.lt_size e) I.ok.above))).trans e1⟩
  ·obtain ⟨o', e1⟩ := I.base.there b o e hx
   exact ⟨o', (hs.2 b (Nat.ne_of_lt (Nat.lt_of_lt_of_le (Heap.lt_size e) I.ok.above))).trans e1⟩
  ·by_cases hj : j = i
   ·subst hj
    rw [hi] at e1; cases e1
    rw [List.getElem?_set_self hiσ] at e2
    cases e2
    exact ⟨u, r, .inl ⟨hk, by simp⟩⟩
   ·rw [List.getElem?_set_ne (Ne.symm hj)] at e2
    obtain ⟨u', r', q⟩ := hl j y v' e1 e2 e3
    refine ⟨u', r', ?_⟩
    rcases q with ⟨k, e⟩ | ⟨k, c, e, z⟩
    ·refine .inl ⟨k, ?_⟩
     have : y ≠ x := fun e => hj (gqK hN e1 (e ▸ hi))
     simp [this, e]
    ·exact .inr ⟨k, c, e, z.sameBut hs (cne y c e)⟩
  ·obtain ⟨w', z⟩ := I.cell y c e
   exact ⟨w', z.sameBut hs (cne y c e)⟩
  ·obtain ⟨e, n, ne, nf, d⟩ := I.pin p hp
   exact ⟨(hs.2 p.1 ne).trans e, n, ne, nf, d⟩
 ·have hfn : X.fn x = true := by
   rcases hf with z | z
   ·exact z
   ·rw [z] at hk; cases hk
  obtain ⟨c, hc⟩ := I.ok.has x (.inl hk)
  obtain ⟨w', z⟩ := I.cell x c hc
  refine wpAny_storeName_cell I.ok.kind hk hc z (fun h' hc' hs => ?_)
  obtain ⟨oc, hoc, hocd⟩ := id z
  refine h { s with heap := h' } ⟨I.ok, I.os, I.bare, ⟨fun b o e n hb hx => ?_, fun b o e n hb hx => ?_, I.base.free, fun b o e hx => ?_, I.base.tups, I.base.frzs, I.base.tbls⟩, ⟨m, hn.sameBut hs (Ne.symm (cne x c hc)), fun j y v' e1 e2 e3 => ?_⟩, fun y c' e => ?_, I.free, I.freeC, fun p hp => ?_, tracked ⟨oc, hoc, I.freeC x c hc⟩ hs, by simpa using I.len⟩ ⟨c, hs, .inr hc⟩
  ·exact (hs.2 b (Nat.ne_of_lt (Nat.lt_of_lt_of_le (Heap.lt_size e) (I.ok.cab x c hfn hc)))).trans (I.base.keep b o e n hb hx)
  ·obtain ⟨sl, e1⟩ := I.base.slot b o e n hb hx
   exact ⟨sl, (hs.2 b (Nat.ne_of_lt (Nat.lt_of_lt_of_le (Heap.lt_size e) (I.ok.cab x c hfn hc)))).trans e1⟩
  ·obtain ⟨o', e1⟩ := I.base.there b o e hx
   exact ⟨o', (hs.2 b (Nat.ne_of_lt (Nat.lt_of_lt_of_le (Heap.lt_size e) (I.ok.cab x c hfn hc)))).trans e1⟩
  ·by_cases hj : j = i
   ·subst hj
    rw [hi] at e1; cases e1
    rw [List.getElem?_set_self hiσ] at e2
    cases e2
    exact ⟨u, r, .inr ⟨.inl hk, c, hc, hc'⟩⟩
   ·rw [List.getElem?_set_ne (Ne.symm hj)] at e2
    obtain ⟨u', r', q⟩ := hl j y v' e1 e2 e3
    refine ⟨u', r', ?_⟩
    rcases q with q | ⟨k, c', e, z'⟩
    ·exact .inl q
    ·refine .inr ⟨k, c', e, z'.sameBut hs ?_⟩
     rintro rfl
     exact hj (gqK hN e1 (I.ok.inj _ _ _ e hc ▸ hi))
  ·by_cases hcc : c' = c
   ·subst hcc; exact ⟨_, hc'⟩
   ·obtain ⟨w2, z2⟩ := I.cell y c' e
    exact ⟨w2, z2.sameBut hs hcc⟩
  ·obtain ⟨e, n, ne, nf, d⟩ := I.pin p hp
   refine ⟨(hs.2 p.1 ?_).trans e, n, ne, nf, d⟩
   intro q
   rw [q, hoc] at e
   have q' : oc = p.2 := Option.some.inj e
   exact d w' (by rw [← q']; exact hocd)
theorem gqR {M : Model} {A : Around} {E : Value → Shared → Prop} {i : Nat} {x : Str} {v : V} {u : Value} {Q : Unit → Shared → Prop} (I : Inv X pins σ H s) (hN : X.N.Nodup) (hi : X.N[i]? = some x) (hx : Loc X.env.scope x) (r : RelV v u)
  (h : ∀ s', Inv X pins (σ.set i (some v)) H s' → Q () s') (hf : X.fn x = true ∨ X.env.scope.names.lookup x = some .local := by first | exact .inl rfl | exact .inr rfl | assumption) : wpAny M A (storeName X.env x u) Q E s :=
 fq1 I hN hi hx r (fun s' I' _ => h s' I') hf
end
abbrev XK := Value → Option Addr → Hp → Prop
abbrev St := List (Option V)
abbrev VK := V → Hp → Prop
abbrev TE := St → Hp → VK → Prop
abbrev TT := St → Hp → (Bool → Hp → Prop) → Prop
abbrev TA := St → Hp → (List V → Hp → Prop) → Prop
structure Ends where
 nx : St → Hp → Prop
 rt : VK
 bk : St → Hp → Prop := fun _ _ => False
 ct : St → Hp → Prop := fun _ _ => False
abbrev TS := Ends → St → Hp → Prop
def EP (X : Cx) (pins : List (Addr × Obj)) (σ : St) (Q : VK) (u : Value) (s' : Shared) : Prop := ∃ v H', Inv X pins σ H' s' ∧ RelV v u ∧ Q v H'
def TP (X : Cx) (pins : List (Addr × Obj)) (σ : St) (Q : Bool → Hp → Prop) (b : Bool) (s' : Shared) : Prop := ∃ H', Inv X pins σ H' s' ∧ Q b H'
def AP (X : Cx) (pins : List (Addr × Obj)) (σ : St) (Q : List V → Hp → Prop) (us : List Value) (s' : Shared) : Prop := ∃ vs H', Inv X pins σ H' s' ∧ Vals vs us ∧ Q vs H'
def SP (X : Cx) (pins : List (Addr × Obj)) (D : Ends) (f : Flow) (s' : Shared) : Prop :=
 match f with
 | .next => ∃ σ' H', Inv X pins σ' H' s' ∧ D.nx σ' H'
 | .brk => ∃ σ' H', Inv X pins σ' H' s' ∧ D.bk σ' H'
 | .cont => ∃ σ' H', Inv X pins σ' H' s' ∧ D.ct σ' H'
 | .ret u => ∃ v σ' H', Inv X pins σ' H' s' ∧ RelV v u ∧ D.rt v H'
def PE (X : Cx) (e : Expr) (t : TE) : Prop :=
 ∀ (pins : List (Addr × Obj)) (s : Shared) (σ : St) (H : Hp) (Q : VK), Inv X pins σ H s → t σ H Q → wpAny (model X.prog X.w) X.A (eval e X.env) (EP X pins σ Q) X.xe s
def PT (X : Cx) (e : Expr) (t : TT) : Prop :=
 ∀ (pins : List (Addr × Obj)) (s : Shared) (σ : St) (H : Hp) (Q : Bool → Hp → Prop), Inv X pins σ H s → t σ H Q → wpAny (model X.prog X.w) X.A (isTrue e X.env (eval e X.env)) (TP X pins σ Q) X.xe s
def PW (X : Cx) (e : Expr) (t : TT) : Prop :=
 ∀ (whole : Sem Value) (pins : List (Addr × Obj)) (s : Shared) (σ : St) (H : Hp) (Q : Bool → Hp → Prop), Inv X pins σ H s → t σ H Q → wpAny (model X.prog X.w) X.A (isTrue e X.env whole) (TP X pins σ Q) X.xe s
theorem PW.pt {X : Cx} {e : Expr} {t : TT} (h : PW X e t) : PT X e t := h _
def PA (X : Cx) (es : List Expr) (t : TA) : Prop :=
 ∀ (pos : Pos) (pins : List (Addr × Obj)) (s : Shared) (σ : St) (H : Hp) (Q : List V → Hp → Prop), Inv X pins σ H s → t σ H Q → wpAny (model X.prog X.w) X.A (spliced (backTo pos (starEach es X.env))) (AP X pins σ Q) X.xe s
def PS (X : Cx) (st : Stmt) (t : TS) : Prop :=
 ∀ (pins : List (Addr × Obj)) (s : Shared) (σ : St) (H : Hp) (D : Ends), Inv X pins σ H s → t D σ H → wpAny (model X.prog X.w) X.A (exec st X.env) (SP X pins D) X.xe s
def PSs (X : Cx) (st : List Stmt) (t : TS) : Prop :=
 ∀ (pins : List (Addr × Obj)) (s : Shared) (σ : St) (H : Hp) (D : Ends), Inv X pins σ H s → t D σ H → wpAny (model X.prog X.w) X.A (execs st X.env) (SP X pins D) X.xe s
theorem thn {α : Type} {t : Sem α} {Q Q' : α → Shared → Prop} {M : Model} {A : Around} {E : Value → Shared → Prop} {s : Shared} (h : wpAny M A t Q E s) (hQ : ∀ a s, Q a s → Q' a s) : wpAny M A t Q' E s := wpAny_mono h hQ fun _ _ x => x
section
variable {X : Cx}
theorem bin {a b : Expr} {ta tb : TE} (ha : PE X a ta) (hb : PE X b tb) {pins : List (Addr × Obj)} {s : Shared} {σ : St} {H : Hp} {R : V → V → Hp → Prop} (I : Inv X pins σ H s) (h : ta σ H fun x H1 => tb σ H1 fun y H2 => R x y H2)
  {α : Type} {Q : α → Shared → Prop} {f : Value → Value → Sem α}
  (hf : ∀ v u s2 x y H2, Inv X pins σ H2 s2 → RelV x v → RelV y u → R x y H2 → wpAny (model X.prog X.w) X.A (f v u) Q X.xe s2) :
  wpAny (model X.prog X.w) X.A (eval a X.env) (fun v s₁ => wpAny (model X.prog X.w) X.A (eval b X.env) (fun u s₂ => wpAny (model X.prog X.w) X.A (f v u) Q X.xe s₂) X.xe s₁) X.xe s := by
 refine thn (ha pins s σ H _ I h) fun v s1 W' => ?_
 obtain ⟨x, H1, I1, r1, q1⟩ := W'
 refine thn (hb pins s1 σ H1 _ I1 q1) fun u s2 W' => ?_
 obtain ⟨y, H2, I2, r2, q2⟩ := W'
 exact hf v u s2 x y H2 I2 r1 r2 q2
def tVar (i : Nat) : TE := fun σ H Q => ∃ v, σ[i]? = some (some v) ∧ Q v H
def tC (v : V) : TE := fun _ H Q => Q v H
theorem mqn {i : Nat} {x : Str} {pos : Pos} (hN : X.N[i]? = some x) (hv : Vis X.env.scope x) (hd : (x == ("__debug__" : Str)) = false := by decide) (hcd : (x == ("__classdict__" : Str)) = false := by decide) : PE X (.Name x pos) (tVar i) := by
 intro pins s σ H Q I h
 obtain ⟨v, e, h⟩ := h
 obtain ⟨m, hn, hl⟩ := I.loc
 obtain ⟨u, r, l⟩ := hl i x v hN e hv
 have fin : EP X pins σ Q u s := ⟨v, H, I, r, h⟩
 rcases l with ⟨hk, hm⟩ | ⟨hk, c, hc, hcell⟩
 ·exact wpAny_Name (wpAny_loadName_local I.ok.kind hk hn hm fin) hd
 ·rcases hk with hk | hk
  ·exact wpAny_Name (wpAny_loadName_cell I.ok.kind hk hc hcell fin) hd
  ·exact wpAny_Name (wpAny_loadName_free I.ok.kind hk hc hcell fin hcd) hd
theorem aqc {i j pos} : PE X (.Constant (.int i) j pos) (tC (.int i)) := fun _ _ _ H _ I h => wpAny_Constant_int ⟨.int i, H, I.tok _, ⟨_, rfl⟩, h⟩
theorem fqj {b j pos} : PE X (.Constant (.bool b) j pos) (tC (.bl b)) := fun _ _ _ H _ I h => Constant_bool ⟨.bl b, H, I, rfl, h⟩
theorem eqP {j pos} : PE X (.Constant .none j pos) (tC .non) := fun _ _ _ H _ I h => Constant_none ⟨.non, H, I, rfl, h⟩
theorem aqd {x j pos} : PE X (.Constant (.str x) j pos) (tC (.str x)) := fun _ _ _ H _ I h => Calls.Constant_str ⟨.str x, H, I.tok _, ⟨_, rfl⟩, h⟩
def Gl (X : Cx) (x : Str) : Prop := X.env.kindOf x = some .globalImplicit
theorem gqr {E : Value → Shared → Prop} {pins : List (Addr × Obj)} {s : Shared} {σ : St} {H : Hp} {x : Str} {u : Value} {pos : Pos} {Q : Value → Shared → Prop} (I : Inv X pins σ H s) (hg : Gl X x) (hm : X.mg x = some u) (h : Q u s)
  (hd : (x == ("__debug__" : Str)) = false := by decide) : wpAny (model X.prog X.w) X.A (eval (.Name x pos) X.env) Q E s :=
 Calls.Name_function_global I.ok.kind hg (Calls.loadGlobal_global (by rw [I.ok.glob]; exact I.mod.glob.keeps I.bk) hm h) hd
theorem eqE {E : Value → Shared → Prop} {pins : List (Addr × Obj)} {s : Shared} {σ : St} {H : Hp} {x : Str} {u : Value} {pos : Pos} {Q : Value → Shared → Prop} (I : Inv X pins σ H s) (hg : Gl X x) (hm : X.mg x = none) (hv : bootBuiltins x = some u) (h : Q u s)
  (hn : x ≠ "__name__" := by decide) (hd : (x == ("__debug__" : Str)) = false := by decide) : wpAny (model X.prog X.w) X.A (eval (.Name x pos) X.env) Q E s := by
 obtain ⟨mb, h1, h2⟩ := I.mod.blt
 exact Calls.Name_function_global I.ok.kind hg (Calls.loadGlobal_builtin (by rw [I.ok.glob]; exact I.mod.glob.keeps I.bk) hm (by rw [I.ok.blt]; exact h1.keeps I.bk) ((h2 x hn).trans hv) h) hd
theorem bqn {x : Str} {v : V} {u : Value} {pos : Pos} (hg : Gl X x) (hm : X.mg x = some u) (r : RelV v u) (hd : (x == ("__debug__" : Str)) = false := by decide) : PE X (.Name x pos) (tC v) :=
 fun _ _ _ H _ I h => gqr I hg hm ⟨v, H, I, r, h⟩ hd
theorem dqb {x : Str} {v : V} {u : Value} {pos : Pos} (hg : Gl X x) (hm : X.mg x = none) (hv : bootBuiltins x = some u) (r : RelV v u) (hn : x ≠ "__name__" := by decide) (hd : (x == ("__debug__" : Str)) = false := by decide) : PE X (.Name x pos) (tC v) :=
 fun _ _ _ H _ I h => eqE I hg hm hv ⟨v, H, I, r, h⟩ hn hd
variable {a b : Expr} {ta tb : TE} {pos : Pos}
def PC (X : Cx) (op : CmpOp) (a b : Expr) (t : TE) : Prop :=
 ∀ (pins : List (Addr × Obj)) (s : Shared) (σ : St) (H : Hp) (Q : VK), Inv X pins σ H s → t σ H Q →
  wpAny (model X.prog X.w) X.A (eval a X.env) (fun v s₁ => wpAny (model X.prog X.w) X.A (eval b X.env) (fun u s₂ => wpAny (model X.prog X.w) X.A (compareOp op v u) (EP X pins σ Q) X.xe s₂) X.xe s₁) X.xe s
def tB (t : TE) : TT := fun σ H Q => t σ H fun x H1 => ∃ c, x = .bl c ∧ Q c H1
theorem mqP {op : CmpOp} {t : TE} (h : PC X op a b t) (h1 : behindInMarks op b = false := by first | exact nobehind _ (by decide) (by decide) | rfl) : PT X (.Compare a [op] [b] pos) (tB t) := by
 intro pins s σ H Q I hw
 refine wpAny_isTrue_Compare1 (thn (h pins s σ H _ I hw) fun v s1 h1 => thn h1 fun u s2 h2 => thn h2 fun c s3 W' => ?_) h1
 obtain ⟨x, H1, I1, r1, q1⟩ := W'
 obtain ⟨d, rfl, q⟩ := q1
 cases r1
 exact wpAny_truthy_bool ⟨H1, I1, q⟩
theorem eqq {e : Expr} {t : TE} (h : PE X e t) (he : ∀ whole, isTrue e X.env whole = (do let v ← whole; standAt e.pos; holding [v] (truthy v)) := by intro _; rfl) : PT X e (tB t) := by
 intro pins s σ H Q I hw
 refine isTrue_plain (thn (h pins s σ H _ I hw) fun v s1 W' => ?_) (he _)
 obtain ⟨x, H1, I1, r1, q1⟩ := W'
 obtain ⟨d, rfl, q⟩ := q1
 cases r1
 exact wpAny_truthy_bool ⟨H1, I1, q⟩
variable {tA tB' : TT} {rest : List Expr}
def tAnd (t u : TT) : TT := fun σ H Q => t σ H fun c H1 => if c = true then u σ H1 Q else Q false H1
def tOr (t u : TT) : TT := fun σ H Q => t σ H fun c H1 => if c = true then Q true H1 else u σ H1 Q
def tNot (t : TT) : TT := fun σ H Q => t σ H fun c H1 => Q (!c) H1
theorem hqZ (ha : PT X a tA) : PW X (.BoolOp .And [a] pos) tA := by
 intro wh pins s σ H Q I h
 refine isTrue_and (thn (ha pins s σ H Q I h) fun c s1 e => ?_)
 cases c with
 | true => exact isTrue_and_nil e
 | false => exact e
theorem gqA (ha : PT X a tA) : PW X (.BoolOp .Or [a] pos) tA := by
 intro wh pins s σ H Q I h
 refine isTrue_or (thn (ha pins s σ H Q I h) fun c s1 e => ?_)
 cases c with
 | false => exact isTrue_or_nil e
 | true => exact e
theorem jqw (ha : PT X a tA) (hb : PW X (.BoolOp .And (b :: rest) pos) tB') : PW X (.BoolOp .And (a :: b :: rest) pos) (tAnd tA tB') := by
 intro wh pins s σ H Q I h
 refine isTrue_and (thn (ha pins s σ H _ I h) fun c s1 W' => ?_)
 obtain ⟨H1, I1, q1⟩ := W'
 cases c with
 | true => exact hb wh pins s1 σ H1 Q I1 q1
 | false => exact ⟨H1, I1, q1⟩
theorem gqW (ha : PT X a tA) (hb : PW X (.BoolOp .Or (b :: rest) pos) tB') : PW X (.BoolOp .Or (a :: b :: rest) pos) (tOr tA tB') := by
 intro wh pins s σ H Q I h
 refine isTrue_or (thn (ha pins s σ H _ I h) fun c s1 W' => ?_)
 obtain ⟨H1, I1, q1⟩ := W'
 cases c with
 | true => exact ⟨H1, I1, q1⟩
 | false => exact hb wh pins s1 σ H1 Q I1 q1
theorem eq2 (ha : PT X a tA) : PT X (.UnaryOp .Not a pos) (tNot tA) := by
 intro pins s σ H Q I h
 exact isTrue_not (ha pins s σ H (fun c H1 => Q (!c) H1) I h)
def tAndV (ta tb : TE) : TE := fun σ H Q => ta σ H fun x H1 => ∃ c, x = .bl c ∧ if c = true then tb σ H1 Q else Q (.bl false) H1
def tOrV (ta tb : TE) : TE := fun σ H Q => ta σ H fun x H1 => ∃ c, x = .bl c ∧ if c = true then Q (.bl true) H1 else tb σ H1 Q
def tNotV (ta : TE) : TE := fun σ H Q => ta σ H fun x H1 => ∃ c, x = .bl c ∧ Q (.bl (!c)) H1
theorem bq7 {op} {t : TE} (h : PE X a t) : PE X (.BoolOp op [a] pos) t := fun pins s σ H Q I hw => BoolOp_one (h pins s σ H Q I hw)
theorem bqC (ha : PE X a ta) (hb : PE X (.BoolOp .And (b :: rest) pos) tb) : PE X (.BoolOp .And (a :: b :: rest) pos) (tAndV ta tb) := by
 intro pins s σ H Q I h
 refine BoolOp_and (thn (ha pins s σ H _ I h) fun v s1 W' => ?_)
 obtain ⟨x, H1, I1, r1, q1⟩ := W'
 obtain ⟨c, rfl, q1⟩ := q1
 cases r1
 refine wpAny_truthy_bool ?_
 cases c with
 | true => exact hb pins s1 σ H1 Q I1 q1
 | false => exact ⟨.bl false, H1, I1, rfl, q1⟩
theorem kqG (ha : PE X a ta) (hb : PE X (.BoolOp .Or (b :: rest) pos) tb) : PE X (.BoolOp .Or (a :: b :: rest) pos) (tOrV ta tb) := by
 intro pins s σ H Q I h
 refine BoolOp_or (thn (ha pins s σ H _ I h) fun v s1 W' => ?_)
 obtain ⟨x, H1, I1, r1, q1⟩ := W'
 obtain ⟨c, rfl, q1⟩ := q1
 cases r1
 refine wpAny_truthy_bool ?_
 cases c with
 | false => exact hb pins s1 σ H1 Q I1 q1
 | true => exact ⟨.bl true, H1, I1, rfl, q1⟩
theorem lqm (ha : PE X a ta) : PE X (.UnaryOp .Not a pos) (tNotV ta) := by
 intro pins s σ H Q I h
 refine UnaryOp_ (thn (ha pins s σ H _ I h) fun v s1 W' => ?_)
 obtain ⟨x, H1, I1, r1, q1⟩ := W'
 obtain ⟨c, rfl, q1⟩ := q1
 cases r1
 exact not_of (wpAny_truthy_bool ⟨.bl (!c), H1, I1, rfl, q1⟩)
def tIf (t : TT) (ta tb : TE) : TE := fun σ H Q => t σ H fun c H1 => if c = true then ta σ H1 Q else tb σ H1 Q
theorem iqF {c : Expr} (hc : PT X c tA) (ha : PE X a ta) (hb : PE X b tb) : PE X (.IfExp c a b pos) (tIf tA ta tb) := by
 intro pins s σ H Q I h
 refine wpAny_IfExp (thn (hc pins s σ H _ I h) fun d s1 W' => ?_)
 obtain ⟨H1, I1, q1⟩ := W'
 cases d with
 | true => exact ha pins s1 σ H1 Q I1 q1
 | false => exact hb pins s1 σ H1 Q I1 q1
end
def SqL (K : PySem.W.Frag) (H : Hp) (a : Addr) (xs : List V) : Prop :=
 Rd H a (.lst xs) ∨
  ∃ (o : Obj) (its : Array Value) (n : Nat), K.lookup a = some o ∧ o.cls = .type "list" ∧ o.dict = none ∧ o.data = .seq its n ∧ its.size ≤ sizeLine ∧ Vals xs its.toList
def SqT (K : PySem.W.Frag) (H : Hp) (a : Addr) (xs : List V) : Prop :=
 Rd H a (.tup xs) ∨
  ∃ (o : Obj) (its : Array Value) (n : Nat), K.lookup a = some o ∧ o.cls = .type "tuple" ∧ o.data = .seq its n ∧ its.size ≤ sizeLine ∧ Vals xs its.toList
def absV : Value → Option V
 | .none => some .non
 | .bool b => some (.bl b)
 | .int i _ => some (.int i)
 | .str x _ => some (.str x)
 | .bytes b _ => some (.byt b)
 | .float b _ => some (.flt b)
 | .ref a => some (.ref a)
 | .type n => some (.ty n)
 | _ => none
theorem RelV.abs {x : V} {u : Value} (r : RelV x u) : absV u = some x := by
 cases x with
 | non => cases r; rfl
 | bl _ => cases r; rfl
 | int _ => obtain ⟨t, rfl⟩ := r; rfl
 | str _ => obtain ⟨t, rfl⟩ := r; rfl
 | byt _ => obtain ⟨t, rfl⟩ := r; rfl
 | flt _ => obtain ⟨t, rfl⟩ := r; rfl
 | ref _ => cases r; rfl
 | ty _ => cases r; rfl
theorem RelV.inj {x y : V} {u : Value} (r : RelV x u) (q : RelV y u) : x = y := Option.some.inj (r.abs.symm.trans q.abs)
theorem Vals.inj : ∀ {xs ys : List V} {us : List Value}, Vals xs us → Vals ys us → xs = ys
 | _, _, _, .nil, .nil => rfl
 | _, _, _, .cons r t, .cons r' t' => by rw [r.inj r', Vals.inj t t']
section
variable {X : Cx} {pins : List (Addr × Obj)} {σ : St} {H : Hp} {s : Shared} {a : Addr} {xs ys : List V}
theorem SqL.of {K : PySem.W.Frag} (h : H a = some (.lst xs)) : SqL K H a xs := .inl (.inl h)
theorem SqT.of {K : PySem.W.Frag} (h : H a = some (.tup xs)) : SqT K H a xs := .inl (.inl h)
theorem Inv.list (I : Inv X pins σ H s) (h : SqL X.K H a xs) : ∃ its : List Value, Vals xs its ∧ PlainL s.heap a its.toArray ∧ xs.length ≤ sizeLine := by
 rcases h with h | ⟨o, its, n, hk, hc, hd, hs, hz, r⟩
 ·obtain ⟨z, its, n, r, e⟩ := h.ok I.hok
  exact ⟨its, r, ⟨_, n, e, rfl, rfl, rfl⟩, z⟩
 ·refine ⟨its.toList, r, ⟨o, n, I.kIn a o hk, hc, hd, by simpa using hs⟩, ?_⟩
  have e := r.length
  simp only [Array.length_toList] at e
  omega
theorem Inv.tuple (I : Inv X pins σ H s) (h : SqT X.K H a xs) : ∃ its : List Value, Vals xs its ∧ IsTup s.heap a its.toArray ∧ xs.length ≤ sizeLine := by
 rcases h with h | ⟨o, its, n, hk, hc, hs, hz, r⟩
 ·obtain ⟨z, its, r, p⟩ := h.ok I.hok
  exact ⟨its, r, p, z⟩
 ·refine ⟨its.toList, r, ⟨o, I.kIn a o hk, hc, n, by simpa using hs⟩, ?_⟩
  have e := r.length
  simp only [Array.length_toList] at e
  omega
theorem Inv.tuple_inj (I : Inv X pins σ H s) (h : SqT X.K H a xs) (h' : SqT X.K H a ys) : xs = ys := by
 obtain ⟨its, r, ⟨o, e, _, n, d⟩, _⟩ := I.tuple h
 obtain ⟨its', r', ⟨o', e', _, n', d'⟩, _⟩ := I.tuple h'
 rw [e] at e'; cases e'
 rw [d] at d'
 injection d' with d1 _
 have : its = its' := by simpa using congrArg Array.toList d1
 subst this
 exact r.inj r'
end
abbrev Cx.wish (X : Cx) (E : Value → Shared → Prop) : Cx := { X with xe := E }
abbrev Cx.nox (X : Cx) : Cx := X.wish fun _ _ => False
theorem Cx.Ok.wish {X : Cx} (ok : X.Ok) (E : Value → Shared → Prop) : (X.wish E).Ok :=
 ⟨ok.mod, ok.kind, ok.glob, ok.blt, ok.above, ok.inj, ok.has, ok.cab, ok.hd, ok.frames, ok.stk, ok.exf, ok.bs, ok.bsz, ok.noex, ok.exfs, ok.funs, ok.frf⟩
theorem Cx.Ok.unwish {X : Cx} {E : Value → Shared → Prop} (ok : (X.wish E).Ok) : X.Ok :=
 ⟨ok.mod, ok.kind, ok.glob, ok.blt, ok.above, ok.inj, ok.has, ok.cab, ok.hd, ok.frames, ok.stk, ok.exf, ok.bs, ok.bsz, ok.noex, ok.exfs, ok.funs, ok.frf⟩
section
variable {X : Cx} {pins : List (Addr × Obj)} {σ : St} {H : Hp} {s : Shared} {E : Value → Shared → Prop}
theorem Inv.wish (I : Inv X pins σ H s) (E : Value → Shared → Prop) : Inv (X.wish E) pins σ H s := ⟨I.ok.wish E, I.os, I.bare, I.base, I.loc, I.cell, I.free, I.freeC, I.pin, I.hok, I.len⟩
theorem Inv.unwish (I : Inv (X.wish E) pins σ H s) : Inv X pins σ H s := ⟨I.ok.unwish, I.os, I.bare, I.base, I.loc, I.cell, I.free, I.freeC, I.pin, I.hok, I.len⟩
theorem SP.unwish {D : Ends} {f : Flow} {s' : Shared} (h : SP (X.wish E) pins D f s') : SP X pins D f s' := by
 cases f with
 | next => obtain ⟨σ', H', I, q⟩ := h; exact ⟨σ', H', I.unwish, q⟩
 | brk => obtain ⟨σ', H', I, q⟩ := h; exact ⟨σ', H', I.unwish, q⟩
 | cont => obtain ⟨σ', H', I, q⟩ := h; exact ⟨σ', H', I.unwish, q⟩
 | ret u => obtain ⟨v, σ', H', I, r, q⟩ := h; exact ⟨v, σ', H', I.unwish, r, q⟩
theorem PSs.nox {st : List Stmt} {t : TS} (h : PSs X.nox st t) : PSs X st t := fun pins s σ H D I hw =>
 wpAny_mono (h pins s σ H D (I.wish _) hw) (fun _ _ q => q.unwish) fun _ _ z => False.elim z
end
section
variable {X : Cx} {st : Stmt} {rest : List Stmt} {t u : TS} {e : Expr} {te : TE} {pos : Pos}
def tNext : TS := fun D σ H => D.nx σ H
def tSeq (t u : TS) : TS := fun D σ H => t { D with nx := u D } σ H
theorem aqt : PSs X [] tNext := fun _ _ σ H _ I h => wpAny_execs_nil ⟨σ, H, I, h⟩
theorem aqh (h1 : PS X st t) (h2 : PSs X rest u) : PSs X (st :: rest) (tSeq t u) := by
 intro pins s σ H D I h
 refine wpAny_execs_cons (thn (h1 pins s σ H { D with nx := u D } I h) fun f s1 q => ?_)
 cases f with
 | next =>
  obtain ⟨σ', H', I', q⟩ := q
  exact h2 pins s1 σ' H' D I' q
 | ret v => exact q
 | brk => exact q
 | cont => exact q
theorem aqe (h1 : PS X st t) : PSs X [st] t := by
 intro pins s σ H D I h
 refine wpAny_execs_cons (thn (h1 pins s σ H D I h) fun f s1 q => ?_)
 cases f with
 | next => exact wpAny_execs_nil q
 | ret v => exact q
 | brk => exact q
 | cont => exact q
def tBreak : TS := fun D σ H => D.bk σ H
theorem Inv.quiet {pins : List (Addr × Obj)} {σ : St} {H : Hp} {s : Shared} (I : Inv X pins σ H s) : interactive X.env = false := by simp [interactive, I.ok.kind]
def tDrop (te : TE) : TS := fun D σ H => te σ H fun _ H1 => D.nx σ H1
theorem jq8 (he : PE X e te) (hs : swapsWith e none pos.line X.env = pure false := by rfl) : PS X (.Expr e pos) (tDrop te) := by
 intro pins s σ H D I h
 exact wpAny_Expr_any (thn (he pins s σ H _ I h) fun v s1 ⟨x, H1, I1, r1, q1⟩ => ⟨σ, H1, I1, q1⟩) I.quiet hs
def tRet (te : TE) : TS := fun D σ H => te σ H D.rt
theorem aqm (he : PE X e te) : PS X (.Return (some e) pos) (tRet te) := by
 intro pins s σ H D I h
 exact wpAny_Return_some (thn (he pins s σ H _ I h) fun v s1 ⟨x, H1, I1, r1, q1⟩ => ⟨x, σ, H1, I1, r1, q1⟩)
def tIfS (c : TT) (t u : TS) : TS := fun D σ H => c σ H fun b H1 => if b = true then t D σ H1 else u D σ H1
theorem bqu {c : Expr} {a b : List Stmt} {tc : TT} (hc : PT X c tc) (ha : PSs X a t) (hb : PSs X b u) : PS X (.If c a b pos) (tIfS tc t u) := by
 intro pins s σ H D I h
 refine wpAny_If (thn (hc pins s σ H _ I h) fun d s1 W' => ?_)
 obtain ⟨H1, I1, q1⟩ := W'
 cases d with
 | true => exact ha pins s1 σ H1 D I1 q1
 | false => exact hb pins s1 σ H1 D I1 q1
def tNever : TS := fun _ _ _ => False
end
abbrev TG := V → St → Hp → (St → Hp → Prop) → Prop
abbrev TGs := List V → St → Hp → (St → Hp → Prop) → Prop
def PG (X : Cx) (target : Expr) (t : TG) : Prop :=
 ∀ (pins : List (Addr × Obj)) (s : Shared) (σ : St) (H : Hp) (v : V) (u : Value) (Q : St → Hp → Prop), Inv X pins σ H s → RelV v u → t v σ H Q →
  wpAny (model X.prog X.w) X.A (assign target X.env u) (fun _ s' => ∃ σ' H', Inv X pins σ' H' s' ∧ Q σ' H') X.xe s
def PGs (X : Cx) (ts : List Expr) (t : TGs) : Prop :=
 ∀ (pins : List (Addr × Obj)) (s : Shared) (σ : St) (H : Hp) (vs : List V) (us : List Value) (Q : St → Hp → Prop), Inv X pins σ H s → Vals vs us → t vs σ H Q →
  wpAny (model X.prog X.w) X.A (assignInOrder ((assignEach ts X.env).map (·.2)) us) (fun _ s' => ∃ σ' H', Inv X pins σ' H' s' ∧ Q σ' H') X.xe s
abbrev TSet := V → V → V → Hp → (Hp → Prop) → Prop
def PSet (X : Cx) (t : TSet) : Prop :=
 ∀ (pins : List (Addr × Obj)) (s : Shared) (σ : St) (H : Hp) (o i v : V) (ov iv u : Value) (Q : Hp → Prop), Inv X pins σ H s → RelV o ov → RelV i iv → RelV v u → t o i v H Q →
  wpAny (model X.prog X.w) X.A (setItem ov iv u) (fun _ s' => ∃ H', Inv X pins σ H' s' ∧ Q H') X.xe s
section
variable {X : Cx} {pos : Pos}
def gName (i : Nat) : TG := fun v σ H Q => Q (σ.set i (some v)) H
theorem cqg {i : Nat} {x : Str} (hN : X.N.Nodup) (hi : X.N[i]? = some x) (hx : Loc X.env.scope x) (hf : X.fn x = true ∨ X.env.scope.names.lookup x = some .local := by first | exact .inl rfl | exact .inr rfl | assumption) : PG X (.Name x pos) (gName i) := by
 intro pins s σ H v u Q I r h
 exact wpAny_assign_Name (gqR I hN hi hx r (fun s' I' => ⟨_, H, I', h⟩) hf)
def gNil : TGs := fun vs σ H Q => vs = [] ∧ Q σ H
def gCons (t : TG) (u : TGs) : TGs := fun vs σ H Q => ∃ v r, vs = v :: r ∧ t v σ H fun σ' H' => u r σ' H' Q
theorem hq7 : PGs X [] gNil := by
 intro pins s σ H vs us Q I r h
 obtain ⟨e, h⟩ := h
 subst e
 cases r
 exact assignInOrder_nil ⟨σ, H, I, h⟩
theorem eqe {e : Expr} {es : List Expr} {t : TG} {u : TGs} (h1 : PG X e t) (h2 : PGs X es u)
  (hs : (assignEach (e :: es) X.env).map (·.2) = assign e X.env :: (assignEach es X.env).map (·.2) := by rfl) : PGs X (e :: es) (gCons t u) := by
 intro pins s σ H vs us Q I r h
 obtain ⟨v, vr, e1, h⟩ := h
 subst e1
 cases r with
 | cons r rr =>
  rw [hs]
  refine assignInOrder_cons (thn (h1 pins s σ H _ _ _ I r h) fun _ s1 W' => ?_)
  obtain ⟨σ1, H1, I1, q1⟩ := W'
  exact h2 pins s1 σ1 H1 _ _ Q I1 rr q1
def gTup (K : PySem.W.Frag) (n : Nat) (t : TGs) : TG := fun v σ H Q => ∃ a xs, v = .ref a ∧ SqT K H a xs ∧ xs.length = n ∧ t xs σ H Q
theorem jqv {es : List Expr} {k : Nat} {t : TGs} {n : Nat} (hc : X.calm = true) (h : PGs X es t)
  (hn : (assignEach es X.env).length = n := by rfl) (hst : (assignEach es X.env).findIdx? (·.1) = none := by rfl) : PG X (.Tuple es k pos) (gTup X.K n t) := by
 intro pins s σ H v u Q I r hw
 obtain ⟨a, xs, e1, hq, hl, hw⟩ := hw
 subst e1
 cases r
 obtain ⟨its, rv, ht, hz⟩ := I.tuple hq
 refine assign_Tuple_tuple (I.ok.hd hc) ht (by simp [hn, ← hl, rv.length]) hst fun h' hx => ?_
 have I1 : Inv X pins σ H { s with heap := h' } := I.kept (t' := s.toks) fun b o e => hx b o (Nat.ne_of_lt (Heap.lt_size e)) e
 exact h pins _ σ H xs _ Q I1 (by simpa using rv) hw
def gSub (to ti : TE) (t : TSet) : TG := fun v σ H Q => to σ H fun o H1 => ti σ H1 fun i H2 => t o i v H2 fun H3 => Q σ H3
theorem lq3 {o i : Expr} {to ti : TE} {t : TSet} (ho : PE X o to) (hi : PE X i ti) (hs : PSet X t)
  (ha : ∀ v, assign (.Subscript o i pos) X.env v = (do
   let ov ← holding [v] (eval o X.env)
   let iv ← holding [v, ov] (eval i X.env)
   standAt pos
   holding [v, ov, iv] (setItem ov iv v)
   release [v, ov, iv] []) := by intro _; rfl) : PG X (.Subscript o i pos) (gSub to ti t) := by
 intro pins s σ H v u Q I r h
 rw [ha]
 refine wpAny_bind (wpAny_holding (thn (ho pins s σ H _ I h) fun ov s1 W' => ?_))
 obtain ⟨x, H1, I1, r1, q1⟩ := W'
 refine wpAny_bind (wpAny_holding (thn (hi pins s1 σ H1 _ I1 q1) fun iv s2 W' => ?_))
 obtain ⟨y, H2, I2, r2, q2⟩ := W'
 refine wpAny_bind (wpAny_standAt (wpAny_bind (wpAny_holding (thn (hs pins s2 σ H2 x y v ov iv u _ I2 r1 r2 r q2) fun _ s3 W' => ?_))))
 obtain ⟨H3, I3, q3⟩ := W'
 exact wpAny_release ⟨σ, H3, I3, q3⟩
def tAsg (te : TE) (g : TG) : TS := fun D σ H => te σ H fun x H1 => g x σ H1 D.nx
theorem jqr {tg e : Expr} {te : TE} {g : TG} (he : PE X e te) (hg : PG X tg g) (hs : swapsWithSole [tg] e pos.line X.env = pure false := by rfl) (hw : swappedStores [tg] e X.env = pure none := by rfl)
  (h1 : (assignEach [tg] X.env).map (·.2) = [assign tg X.env] := by rfl) : PS X (.Assign [tg] e pos) (tAsg te g) := by
 intro pins s σ H D I h
 refine wpAny_Assign_stores (thn (he pins s σ H _ I h) fun v s1 W' => ?_) hs hw
 obtain ⟨x, H1, I1, r1, q1⟩ := W'
 rw [h1]
 exact thn (hg pins s1 σ H1 x v _ I1 r1 q1) fun _ s2 q => q
theorem aqx {i : Nat} {x : Str} {e : Expr} {te : TE} {pos' : Pos} (hN : X.N.Nodup) (hi : X.N[i]? = some x) (hx : Loc X.env.scope x) (he : PE X e te) (hs : swapsWith e (some (.Name x pos')) pos.line X.env = pure false := by rfl) (hf : X.fn x = true ∨ X.env.scope.names.lookup x = some .local := by first | exact .inl rfl | exact .inr rfl | assumption) :
  PS X (.Assign [.Name x pos'] e pos) (tAsg te (gName i)) := by
 intro pins s σ H D I h
 refine wpAny_Assign_Name (thn (he pins s σ H _ I h) fun v s1 W' => ?_) hs
 obtain ⟨y, H1, I1, r1, q1⟩ := W'
 exact gqR I1 hN hi hx r1 (fun s2 I2 => ⟨_, H1, I2, q1⟩) hf
def tPar (i j : Nat) (ta : TA) : TS := fun D σ H => ta σ H fun vs H1 => ∃ v w, vs = [v, w] ∧ D.nx ((σ.set i (some v)).set j (some w)) H1
end
section
variable {X : Cx} {pos : Pos}
end
structure It where
 go : Nat → Hp → Prop
 yld : Nat → Hp → V → Hp → Prop
 stop : Nat → Hp → Prop
def FpOk (X : Cx) (pins : List (Addr × Obj)) (H : Hp) (b : Addr) : Prop :=
 H b = none ∧ b ≠ X.env.locals ∧ b ∉ X.fs ∧ (b ∈ X.ex ∨ X.s₀.heap.objs.size ≤ b) ∧ (∀ x c, X.env.cells.lookup x = some c → c ≠ b) ∧ ∀ p ∈ X.pn ++ pins, p.1 ≠ b
theorem Inv.fpOk {X : Cx} {pins : List (Addr × Obj)} {σ : St} {H H' : Hp} {s : Shared} {b : Addr} (I : Inv X pins σ H s) (hb : s.heap.objs.size ≤ b) (hn : H' b = none) : FpOk X pins H' b := by
 refine ⟨hn, Nat.ne_of_gt (Nat.lt_of_lt_of_le I.lt hb), I.nofs hb, .inr (Nat.le_trans I.sz hb), fun x c e z => ?_, fun p hp z => ?_⟩
 ·obtain ⟨v, q⟩ := I.cell x c e
  exact absurd (Nat.lt_of_lt_of_le q.lt (by rw [z]; exact hb)) (Nat.lt_irrefl _)
 ·exact absurd (Nat.lt_of_lt_of_le (Heap.lt_size (I.pin p hp).1) (by rw [z]; exact hb)) (Nat.lt_irrefl _)
structure Turn (P : Program) (w : World) (K : PySem.W.Frag) (tg : Expr) (J : It) (fp : List Addr) (it : Addr) (tn : Nat → Heap → Prop) : Prop where
 mem : it ∈ fp
 obj : ∀ i h, tn i h → ∀ b ∈ fp, ∃ o, h.get? b = some o ∧ ∀ v, o.data ≠ .cell v
 keep : ∀ i h h', tn i h → (∀ b ∈ fp, ∀ o, h.get? b = some o → h'.get? b = some o) → tn i h'
 item : ∀ (X : Cx), X.prog = P → X.w = w → X.K = K → X.calm = true → ∀ (i : Nat) (pins : List (Addr × Obj)) (s : Shared) (σ : St) (H : Hp) (E : Value → Shared → Prop), Inv X pins σ H s → (∀ b ∈ fp, FpOk X pins H b) → tn i s.heap → J.go i H →
  wpAny (model P w) X.A (pyNext (.ref it)) (fun r s1 => ∃ u, r = some u ∧
   wpAny (model P w) X.A (letOwnedTupleGo tg (.ref it) u) (fun _ s2 => ∃ x H', Inv X pins σ H' s2 ∧ RelV x u ∧ J.yld i H x H' ∧ tn (i + 1) s2.heap ∧ ∀ b ∈ fp, H' b = none) E s1) E s
 done : ∀ (X : Cx), X.prog = P → X.w = w → X.K = K → X.calm = true → ∀ (i : Nat) (pins : List (Addr × Obj)) (s : Shared) (σ : St) (H : Hp) (E : Value → Shared → Prop), Inv X pins σ H s → (∀ b ∈ fp, FpOk X pins H b) → tn i s.heap → J.stop i H →
  wpAny (model P w) X.A (pyNext (.ref it)) (fun r s1 => r = none ∧ Inv X pins σ H s1) E s
 self : ∀ (A : Around) (i : Nat) (s : Shared) (Q : Value → Shared → Prop) (E : Value → Shared → Prop), tn i s.heap → Q (.ref it) s → wpAny (model P w) A (pyIter (.ref it)) Q E s
abbrev TI := St → Hp → (It → Hp → Prop) → Prop
def PIE (X : Cx) (pins : List (Addr × Obj)) (σ : St) (tg : Expr) (R : It → Hp → Prop) (itv : Value) (s2 : Shared) : Prop :=
 ∃ (it : Addr) (fp : List Addr) (tn : Nat → Heap → Prop) (J : It) (H' : Hp), itv = .ref it ∧ Inv X pins σ H' s2 ∧ Turn X.prog X.w X.K tg J fp it tn ∧ tn 0 s2.heap ∧ (∀ b ∈ fp, FpOk X pins H' b) ∧ R J H'
def PI (X : Cx) (tg iter : Expr) (wi : TI) : Prop :=
 ∀ (pins : List (Addr × Obj)) (s : Shared) (σ : St) (H : Hp) (R : It → Hp → Prop), Inv X pins σ H s → wi σ H R →
  wpAny (model X.prog X.w) X.A (eval iter X.env) (fun v s1 => wpAny (model X.prog X.w) X.A (pyIter v) (PIE X pins σ tg R) X.xe s1) X.xe s
theorem jqg {M : Model} {A : Around} {E : Value → Shared → Prop} {s : Shared} {tg : Expr} {it : Addr} {u : Value} {o : Obj} {n : String} {vs : Array Value} {Q : Unit → Shared → Prop} (ho : s.heap.get? it = some o) (hc : o.cls = .type n) (hd : o.data = .fields vs)
  (hn : ["enumerate", "zip", "dict_itemiterator", "dict_reverseitemiterator", "odict_iterator", "itertools.zip_longest", "itertools.pairwise"].contains n = false) (hQ : Q () s) : wpAny M A (letOwnedTupleGo tg (.ref it) u) Q E s := by
 unfold letOwnedTupleGo
 cases tg <;> first
  | exact wpAny_pure hQ
  | (cases u <;> first
    | exact wpAny_pure hQ
    | (refine wpAny_bind (wpAny_load ho ?_)
       rw [hc, hd]
       show wpAny M A (if (["enumerate", "zip", "dict_itemiterator", "dict_reverseitemiterator", "odict_iterator", "itertools.zip_longest", "itertools.pairwise"].contains n && vs[0]? == some (rawInt _)) = true then _ else _) Q E s
       rw [if_neg (by intro h; rw [hn, Bool.false_and] at h; cases h)]
       exact wpAny_pure hQ))
def Itl (K : PySem.W.Frag) (a : Addr) : It :=
 ⟨fun i H => ∃ xs x, SqL K H a xs ∧ xs[i]? = some x, fun i H x H' => H' = H ∧ ∀ xs, SqL K H a xs → xs[i]? = some x, fun i H => ∃ xs, SqL K H a xs ∧ xs.length ≤ i⟩
def Itt (K : PySem.W.Frag) (a : Addr) : It :=
 ⟨fun i H => ∃ xs x, SqT K H a xs ∧ xs[i]? = some x, fun i H x H' => H' = H ∧ ∀ xs, SqT K H a xs → xs[i]? = some x, fun i H => ∃ xs, SqT K H a xs ∧ xs.length ≤ i⟩
def Itr (lo : Int) (n : Nat) : It := ⟨fun i _ => i < n, fun i H x H' => H' = H ∧ x = .int (lo + i), fun i _ => n ≤ i⟩
theorem gqX {P : Program} {w : World} {K : PySem.W.Frag} {tg : Expr} (a it : Addr) : Turn P w K tg (Itt K a) [it] it (fun i h => h.IsTupleIter it a i) where
 mem := by simp
 obj := fun i h st b hb => by
  have e : b = it := by simpa using hb
  subst e
  obtain ⟨o, e, c, d⟩ := st
  exact ⟨o, e, fun v z => by rw [d] at z; cases z⟩
 keep := fun i h h' st k => st.at fun o e => k it (by simp) o e
 item := by
  intro X hP hw hK hc i pins s σ H E I hf st hg
  subst hP hw hK
  obtain ⟨xs, x, hq, hx⟩ := hg
  obtain ⟨its, rv, p, hz⟩ := I.tuple hq
  obtain ⟨u, hu, ru⟩ := rv.get hx
  obtain ⟨f0, f1, f2, f3, f4, f5⟩ := hf it (by simp)
  refine wpAny_pyNext_tuple_item st (show s.heap.IsTuple a its.toArray from p) (x := u) (by simpa using hu) fun h' st' sb => ?_
  have I1 : Inv X pins σ H { s with heap := h' } := I.turned (t' := s.toks) (fun b o hb e => (sb.2 b hb).trans e) f0 f1 f3 f4 f5
  obtain ⟨o, e, c, d⟩ := id st'
  exact ⟨u, rfl, jqg (s := { s with heap := h' }) e c d (by decide) ⟨x, H, I1, ru, ⟨rfl, fun ys hy => by rw [I.tuple_inj hy hq]; exact hx⟩, st', fun b hb => (hf b hb).1⟩⟩
 done := by
  intro X hP hw hK hc i pins s σ H E I hf st hg
  subst hP hw hK
  obtain ⟨xs, hq, hx⟩ := hg
  obtain ⟨its, rv, p, hz⟩ := I.tuple hq
  obtain ⟨f0, f1, f2, f3, f4, f5⟩ := hf it (by simp)
  have hl := rv.length
  exact wpAny_pyNext_tuple_end (I.ok.hd hc) st (show s.heap.IsTuple a its.toArray from p) (by simp; omega) fun h' eb => ⟨rfl, I.turned (t' := s.toks) (fun b o hb e => eb b o hb e) f0 f1 f3 f4 f5⟩
 self := fun _ _ _ _ _ st h => wpAny_pyIter_tupleiter st h
theorem gq8 {P : Program} {w : World} {K : PySem.W.Frag} {tg : Expr} (it : Addr) (lo : Int) (n : Nat) : Turn P w K tg (Itr lo n) [it] it (fun i h => IsRangeIter h it (lo + (i : Nat) * 1) ((n : Int) - (i : Nat)) 1) where
 mem := by simp
 obj := fun i h st b hb => by
  have e : b = it := by simpa using hb
  subst e
  exact ⟨_, st, fun v z => by
   have z' : Data.fields _ = Data.cell v := z
   cases z'⟩
 keep := fun i h h' st k => k it (by simp) _ st
 item := by
  intro X hP hw hK hc i pins s σ H E I hf st hg
  subst hP hw hK
  obtain ⟨f0, f1, f2, f3, f4, f5⟩ := hf it (by simp)
  have W := Walks.range (prog := X.prog) (w := X.w) (I.ok.hd hc) it lo 1 n
  refine W.item i s _ _ hg st fun v h' tk hv st' kk => ?_
  obtain ⟨t, rfl⟩ := hv
  have I1 : Inv X pins σ H { s with heap := h', toks := tk } := I.turned (fun b o hb e => kk b o (by simpa using hb) e) f0 f1 f3 f4 f5
  refine ⟨_, rfl, jqg (s := { s with heap := h', toks := tk }) (n := "range_iterator") st' rfl rfl (by decide) ⟨.int (lo + i), H, I1, ⟨t, ?_⟩, ⟨rfl, rfl⟩, st', fun b hb => (hf b hb).1⟩⟩
  rw [Int.mul_one]
 done := by
  intro X hP hw hK hc i pins s σ H E I hf st hg
  subst hP hw hK
  obtain ⟨f0, f1, f2, f3, f4, f5⟩ := hf it (by simp)
  exact wpAny_pyNext_range_end (I.ok.hd hc) st (by have : n ≤ i := hg; omega) fun h' eb => ⟨rfl, I.turned (t' := s.toks) (fun b o hb e => eb b o hb e) f0 f1 f3 f4 f5⟩
 self := fun _ _ _ _ _ st h => wpAny_pyIter_rangeiter st h
section
variable {X : Cx} {tg : Expr}
def iList (K : PySem.W.Frag) (tl : TE) : TI := fun σ H R => tl σ H fun x H1 => ∃ a, x = .ref a ∧ (∃ xs, SqL K H1 a xs) ∧ R (Itl K a) H1
def iTup (K : PySem.W.Frag) (tl : TE) : TI := fun σ H R => tl σ H fun x H1 => ∃ a, x = .ref a ∧ (∃ xs, SqT K H1 a xs) ∧ R (Itt K a) H1
theorem lq2 {l : Expr} {tl : TE} (hl : PE X l tl) : PI X tg l (iTup X.K tl) := by
 intro pins s σ H R I h
 refine thn (hl pins s σ H _ I h) fun v s1 W' => ?_
 obtain ⟨x, H1, I1, r1, q1⟩ := W'
 obtain ⟨a, e, ⟨xs, hq⟩, q⟩ := q1
 subst e
 cases r1
 obtain ⟨its, rv, p, hz⟩ := I1.tuple hq
 refine wpAny_pyIter_tuple (show s1.heap.IsTuple a its.toArray from p) ?_
 refine ⟨s1.heap.objs.size, [s1.heap.objs.size], _, _, H1, rfl, I1.kept (t' := s1.toks) fun b o e => Heap.get?_push_of_some _ e, gqX a _, ⟨_, Heap.get?_push_size _ rfl, rfl, rfl⟩, fun b hb => ?_, q⟩
 have e : b = s1.heap.objs.size := by simpa using hb
 subst e
 exact I1.fpOk (Nat.le_refl _) (I1.hok.fresh (Nat.le_refl _))
theorem iqp {pins : List (Addr × Obj)} {σ : St} {H : Hp} {s : Shared} {R : It → Hp → Prop} {E : Value → Shared → Prop} {lo hi : Int} {t u v : Tok} {tk : Nat} (I : Inv X pins σ H s) (h1 : -(2 ^ 62) ≤ lo) (h2 : lo < 2 ^ 62) (h3 : -(2 ^ 62) ≤ hi) (h4 : hi < 2 ^ 62)
  (q : R (Itr lo (hi - lo).toNat) H) : wpAny (model X.prog X.w) X.A (pyIter (.ref s.heap.objs.size)) (PIE X pins σ tg R) E { s with heap := s.heap.push { cls := .type "range", data := .fields #[.int lo t, .int hi u, .int 1 v] }, toks := tk } := by
 refine wpAny_pyIter_range (IsRange.new ..) (small_one h1 h2 h3 h4) ?_
 have I1 : Inv X pins σ H { s with heap := s.heap.push { cls := .type "range", data := .fields #[.int lo t, .int hi u, .int 1 v] }, toks := tk } := I.kept fun b o e => Heap.get?_push_of_some _ e
 refine ⟨(s.heap.push { cls := .type "range", data := .fields #[.int lo t, .int hi u, .int 1 v] }).objs.size, [(s.heap.push { cls := .type "range", data := .fields #[.int lo t, .int hi u, .int 1 v] }).objs.size], _, _, H, rfl,
  I1.kept (t' := tk) fun b o e => Heap.get?_push_of_some _ e, gq8 _ lo (hi - lo).toNat, ?_, fun b hb => ?_, q⟩
 ·have e1 : lo + ((0 : Nat) : Int) * 1 = lo := by simp
  have e2 : (((hi - lo).toNat : Nat) : Int) - ((0 : Nat) : Int) = Builtin.Range.rangeSize lo hi 1 := by rw [rangeSize_one]; split <;> omega
  show IsRangeIter _ _ (lo + ((0 : Nat) : Int) * 1) ((((hi - lo).toNat : Nat) : Int) - ((0 : Nat) : Int)) 1
  rw [e1, e2]
  exact Heap.get?_push_size _ rfl
 ·have e : b = (s.heap.push { cls := .type "range", data := .fields #[.int lo t, .int hi u, .int 1 v] }).objs.size := by simpa using hb
  subst e
  exact I1.fpOk (Nat.le_refl _) (I1.hok.fresh (Nat.le_refl _))
def iRng1 (ta : TA) : TI := fun σ H R => ta σ H fun vs H1 => ∃ j : Int, vs = [.int j] ∧ -(2 ^ 62) ≤ j ∧ j < 2 ^ 62 ∧ R (Itr 0 j.toNat) H1
theorem cqB {a : Expr} {ta : TA} {p pos : Pos} (hg : Gl X "range") (hm : X.mg "range" = none) (ha : PA X [a] ta) (hs : starEach [a] X.env = [(false, eval a X.env)] := by rfl) : PI X tg (.Call (.Name "range" p) [a] [] pos) (iRng1 ta) := by
 intro pins s σ H R I h
 refine Call_ (eqE I hg hm boot_range (PyProof.Rows.callWith_type1 (thn (ha pos pins s σ H _ I h) fun us s1 W' => ?_) hs rfl))
 obtain ⟨vs, H1, I1, r1, q1⟩ := W'
 obtain ⟨j, e, q1, q2, q⟩ := q1
 subst e
 cases r1 with
 | cons r rr =>
  cases rr
  obtain ⟨t, rfl⟩ := r
  exact call_range_1 (iqp I1 (by omega) (by omega) q1 q2 (by simpa using q))
def tFor (wi : TI) (g : TG) (tb : TS) : TS := fun D σ H => wi σ H fun J H1 => ∃ W : Nat → Nat → St → Hp → Prop, (∃ m, W 0 m σ H1) ∧ ∀ i m σ H, W i m σ H →
 (J.stop i H ∧ D.nx σ H) ∨ (J.go i H ∧ ∃ N : St → Hp → Prop, (∀ σ' H', N σ' H' → ∃ m', m' < m ∧ W (i + 1) m' σ' H') ∧ ∀ x H', J.yld i H x H' → g x σ H' fun σ2 H2 => tb { D with nx := N, ct := N, bk := D.nx } σ2 H2)
def pinsAt (fp : List Addr) (h : Heap) : List (Addr × Obj) := fp.filterMap fun b => (h.get? b).map fun o => (b, o)
theorem bqA {fp : List Addr} {h : Heap} {b : Addr} {o : Obj} (hb : b ∈ fp) (e : h.get? b = some o) : (b, o) ∈ pinsAt fp h := List.mem_filterMap.mpr ⟨b, hb, by rw [e]; rfl⟩
theorem hqB {fp : List Addr} {h : Heap} {p : Addr × Obj} (hp : p ∈ pinsAt fp h) : p.1 ∈ fp ∧ h.get? p.1 = some p.2 := by
 obtain ⟨b, hb, e⟩ := List.mem_filterMap.mp hp
 cases q : h.get? b with
 | none => rw [q] at e; cases e
 | some o =>
  rw [q] at e
  have e' : (b, o) = p := Option.some.inj e
  subst e'
  exact ⟨hb, q⟩
theorem Inv.pinned {pins : List (Addr × Obj)} {σ : St} {H : Hp} {s : Shared} {fp : List Addr} (I : Inv X pins σ H s) (hf : ∀ b ∈ fp, FpOk X pins H b) (ho : ∀ b ∈ fp, ∃ o, s.heap.get? b = some o ∧ ∀ v, o.data ≠ .cell v) : Inv X (pins ++ pinsAt fp s.heap) σ H s :=
 I.pins_of fun p hp => (List.mem_append.mp hp).elim (fun z => I.pin p (List.mem_append_right _ z)) fun z => by
  obtain ⟨hb, e⟩ := hqB z
  obtain ⟨f0, f1, f2, _⟩ := hf p.1 hb
  obtain ⟨o, e', d⟩ := ho p.1 hb
  rw [e] at e'; cases e'
  exact ⟨e, f0, f1, f2, d⟩
theorem Inv.unpinned {pins pl : List (Addr × Obj)} {σ : St} {H : Hp} {s : Shared} (I : Inv X (pins ++ pl) σ H s) : Inv X pins σ H s := I.pins_of fun p hp => I.pin p (List.mem_append_right _ (List.mem_append_left _ hp))
theorem gqM {iter : Expr} {body : List Stmt} {wi : TI} {g : TG} {tb : TS} {pos : Pos} (hp : PassesOwn (model X.prog X.w) X.A X.env X.xe) (hc : X.calm = true) (hi : PI X tg iter wi) (hg : PG X tg g) (hb : PSs X body tb)
  (hs : ∀ x, foldedSetIterable iter X.env x = pure x := by intro _; rfl) : PS X (.For tg iter body [] pos) (tFor wi g tb) := by
 intro pins s σ H D I h
 refine wpAny_For (thn (hi pins s σ H _ I h) fun v s1 h1 => thn h1 fun itv s2 h2 => ?_) hs
 obtain ⟨it, fp, tn, J, H2, e, I2, T, st2, f2, W, ⟨m0, w0⟩, turn⟩ := h2
 subst e
 have stat : ∀ {H' : Hp}, (∀ b ∈ fp, H' b = none) → ∀ b ∈ fp, FpOk X pins H' b := fun hn b hb => ⟨hn b hb, (f2 b hb).2⟩
 refine codeAny_forLoop_any (fun n s' => ∃ i σ' H', Inv X pins σ' H' s' ∧ tn i s'.heap ∧ (∀ b ∈ fp, H' b = none) ∧ W i n σ' H') ?_ m0 ⟨0, σ, H2, I2, st2, fun b hb => (f2 b hb).1, w0⟩
 rintro n s3 ⟨i, σ3, H3, I3, st3, fr3, w3⟩
 rcases turn i n σ3 H3 w3 with ⟨stop, qn⟩ | ⟨go, N, hN, step⟩
 ·refine wpAny_passesOwn hp (thn (T.done X rfl rfl rfl hc i pins s3 σ3 H3 X.xe I3 (stat fr3) st3 stop) fun r s4 W' => ?_)
  obtain ⟨hr, I4⟩ := W'
  subst hr
  exact wpAny_execs_nil ⟨σ3, H3, I4, qn⟩
 ·refine wpAny_passesOwn hp (thn (T.item X rfl rfl rfl hc i pins s3 σ3 H3 X.xe I3 (stat fr3) st3 go) fun r s4 W' => ?_)
  obtain ⟨u, hr, h4⟩ := W'
  subst hr
  refine wpAny_passesOwn hp (thn h4 fun _ s5 W' => ?_)
  obtain ⟨x, H5, I5, r5, y5, st5, fr5⟩ := W'
  have I5' := I5.pinned (stat fr5) (T.obj _ _ st5)
  refine wpAny_passesOwn hp (thn (hg _ s5 σ3 H5 x u _ I5' r5 (step x H5 y5)) fun _ s6 W' => ?_)
  obtain ⟨σ6, H6, I6, q6⟩ := W'
  refine wpAny_passesOwn hp (thn (hb _ s6 σ6 H6 _ I6 q6) fun f s7 q7 => ?_)
  have again : ∀ {σ7 : St} {H7 : Hp}, Inv X (pins ++ pinsAt fp s5.heap) σ7 H7 s7 → N σ7 H7 → ∃ m, m < n ∧ ∃ i σ' H', Inv X pins σ' H' s7 ∧ tn i s7.heap ∧ (∀ b ∈ fp, H' b = none) ∧ W i m σ' H' := fun {σ7 H7} I7 n7 => by
   obtain ⟨m', hm, w7⟩ := hN σ7 H7 n7
   refine ⟨m', hm, i + 1, σ7, H7, I7.unpinned, T.keep _ _ _ st5 fun b hb o e => (I7.pin (b, o) (List.mem_append_right _ (List.mem_append_right _ (bqA hb e)))).1, fun b hb => ?_, w7⟩
   obtain ⟨o, e, d⟩ := T.obj _ _ st5 b hb
   exact (I7.pin (b, o) (List.mem_append_right _ (List.mem_append_right _ (bqA hb e)))).2.1
  cases f with
  | next => obtain ⟨σ7, H7, I7, n7⟩ := q7; exact again I7 n7
  | cont => obtain ⟨σ7, H7, I7, n7⟩ := q7; exact again I7 n7
  | brk => obtain ⟨σ7, H7, I7, q7⟩ := q7; exact ⟨σ7, H7, I7.unpinned, q7⟩
  | ret v => obtain ⟨x7, σ7, H7, I7, r7, q7⟩ := q7; exact ⟨x7, σ7, H7, I7.unpinned, r7, q7⟩
end
theorem hqN {lo : Int} {n : Nat} {g : TG} {tb : TS} {D : Ends} {σ : St} {H : Hp} (Pv : Nat → St → Hp → Prop) (h0 : Pv 0 σ H)
  (hs : ∀ i σ H, i < n → Pv i σ H → g (.int (lo + i)) σ H fun σ2 H2 => tb { D with nx := Pv (i + 1), ct := Pv (i + 1), bk := D.nx } σ2 H2) (hd : ∀ σ H, Pv n σ H → D.nx σ H) :
  ∃ W : Nat → Nat → St → Hp → Prop, (∃ m, W 0 m σ H) ∧ ∀ i m σ H, W i m σ H →
   ((Itr lo n).stop i H ∧ D.nx σ H) ∨ ((Itr lo n).go i H ∧ ∃ N : St → Hp → Prop, (∀ σ' H', N σ' H' → ∃ m', m' < m ∧ W (i + 1) m' σ' H') ∧ ∀ x H', (Itr lo n).yld i H x H' → g x σ H' fun σ2 H2 => tb { D with nx := N, ct := N, bk := D.nx } σ2 H2) := by
 refine ⟨fun i m σ H => m = n - i ∧ i ≤ n ∧ Pv i σ H, ⟨n, by simp, Nat.zero_le _, h0⟩, ?_⟩
 rintro i m σ H ⟨rfl, hi, p⟩
 by_cases hlt : i < n
 ·refine .inr ⟨hlt, Pv (i + 1), fun σ' H' p' => ⟨n - (i + 1), by omega, rfl, hlt, p'⟩, fun x H' y => ?_⟩
  obtain ⟨e, y⟩ := y
  subst e y
  exact hs i σ _ hlt p
 ·have e : i = n := by omega
  subst e
  exact .inl ⟨Nat.le_refl _, hd σ H p⟩
abbrev R2 := V → V → Hp → VK → Prop
def OpR (X : Cx) (f : Value → Value → Sem Value) (r : R2) : Prop :=
 ∀ (pins : List (Addr × Obj)) (s : Shared) (σ : St) (H : Hp) (x y : V) (v u : Value) (Q : VK), Inv X pins σ H s → RelV x v → RelV y u → r x y H Q →
  wpAny (model X.prog X.w) X.A (f v u) (EP X pins σ Q) X.xe s
def UnR (X : Cx) (f : Value → Sem Value) (r : V → Hp → VK → Prop) : Prop :=
 ∀ (pins : List (Addr × Obj)) (s : Shared) (σ : St) (H : Hp) (x : V) (v : Value) (Q : VK), Inv X pins σ H s → RelV x v → r x H Q →
  wpAny (model X.prog X.w) X.A (f v) (EP X pins σ Q) X.xe s
def CallR (X : Cx) (f : Value) (r : List V → Hp → VK → Prop) : Prop :=
 ∀ (pins : List (Addr × Obj)) (s : Shared) (σ : St) (H : Hp) (xs : List V) (us : List Value) (Q : VK), Inv X pins σ H s → Vals xs us → r xs H Q →
  wpAny (model X.prog X.w) X.A (call f us) (EP X pins σ Q) X.xe s
def tOp (r : R2) (ta tb : TE) : TE := fun σ H Q => ta σ H fun x H1 => tb σ H1 fun y H2 => r x y H2 Q
def tUn (r : V → Hp → VK → Prop) (ta : TE) : TE := fun σ H Q => ta σ H fun x H1 => r x H1 Q
def rI (C : Int → Int → Prop) (g : Int → Int → V) : R2 := fun x y H Q => ∃ i j, x = .int i ∧ y = .int j ∧ C i j ∧ Q (g i j) H
def rI0 (g : Int → Int → V) : R2 := fun x y H Q => ∃ i j, x = .int i ∧ y = .int j ∧ Q (g i j) H
def rU (g : Int → V) : V → Hp → VK → Prop := fun x H Q => ∃ i, x = .int i ∧ Q (g i) H
section
variable {X : Cx} {a b c : Expr} {ta tb tc : TE} {pos : Pos}
theorem binT (ha : PE X a ta) (hb : PE X b tb) {pins : List (Addr × Obj)} {s : Shared} {σ : St} {H : Hp} {R : V → V → Hp → Prop} (I : Inv X pins σ H s)
  (h : ta σ H fun x H1 => tb σ H1 fun y H2 => R x y H2) {Q : Value → Shared → Prop} {f : Value → Value → Sem Value}
  (hf : ∀ v u s2 x y H2, Inv X pins σ H2 s2 → RelV x v → RelV y u → R x y H2 → wpAny (model X.prog X.w) X.A (f v u) Q X.xe s2) :
  wpAny (model X.prog X.w) X.A (eval a X.env) (fun v s₁ => wpAny (model X.prog X.w) X.A (eval b X.env) (fun u s₂ => wpAny (model X.prog X.w) X.A (f v u) Q X.xe s₂) X.xe s₁) X.xe s := by
 refine thn (ha pins s σ H _ I h) fun v s1 W' => ?_
 obtain ⟨x, H1, I1, r1, q1⟩ := W'
 refine thn (hb pins s1 σ H1 _ I1 q1) fun u s2 W' => ?_
 obtain ⟨y, H2, I2, r2, q2⟩ := W'
 exact hf v u s2 x y H2 I2 r1 r2 q2
theorem aql {op : Operator} {r : R2} (ho : OpR X (binaryOp op) r) (ha : PE X a ta) (hb : PE X b tb) : PE X (.BinOp a op b pos) (tOp r ta tb) := by
 intro pins s σ H Q I h
 exact wpAny_BinOp (binT ha hb I h fun v u s2 x y H2 I2 rx ry q => ho pins s2 σ H2 x y v u Q I2 rx ry q)
theorem lqB {op : UnaryOp} {r : V → Hp → VK → Prop} (ho : UnR X (unaryOp op) r) (ha : PE X a ta) : PE X (.UnaryOp op a pos) (tUn r ta) := by
 intro pins s σ H Q I h
 exact UnaryOp_ (thn (ha pins s σ H _ I h) fun v s1 ⟨x, H1, I1, r1, q1⟩ => ho pins s1 σ H1 x v Q I1 r1 q1)
theorem opI {f : Value → Value → Sem Value} {C : Int → Int → Prop} {g : Int → Int → Int}
  (rule : ∀ (i j : Int) (t u : Tok) (s : Shared) (Q : Value → Shared → Prop) (E : Value → Shared → Prop), C i j → Q (.int (g i j) s.toks) { s with toks := s.toks + 1 } → wpAny (model X.prog X.w) X.A (f (.int i t) (.int j u)) Q E s) :
  OpR X f (rI C fun i j => .int (g i j)) := by
 intro pins s σ H x y v u Q I rx ry h
 obtain ⟨i, j, rfl, rfl, hc, q⟩ := h
 obtain ⟨t, rfl⟩ := rx
 obtain ⟨t', rfl⟩ := ry
 exact rule i j t t' s _ _ hc ⟨.int (g i j), H, I.tok _, ⟨_, rfl⟩, q⟩
theorem opI0 {f : Value → Value → Sem Value} {g : Int → Int → Int}
  (rule : ∀ (i j : Int) (t u : Tok) (s : Shared) (Q : Value → Shared → Prop) (E : Value → Shared → Prop), Q (.int (g i j) s.toks) { s with toks := s.toks + 1 } → wpAny (model X.prog X.w) X.A (f (.int i t) (.int j u)) Q E s) :
  OpR X f (rI0 fun i j => .int (g i j)) := by
 intro pins s σ H x y v u Q I rx ry h
 obtain ⟨i, j, rfl, rfl, q⟩ := h
 obtain ⟨t, rfl⟩ := rx
 obtain ⟨t', rfl⟩ := ry
 exact rule i j t t' s _ _ ⟨.int (g i j), H, I.tok _, ⟨_, rfl⟩, q⟩
theorem opB0 {f : Value → Value → Sem Value} {g : Int → Int → Bool}
  (rule : ∀ (i j : Int) (t u : Tok) (s : Shared) (Q : Value → Shared → Prop) (E : Value → Shared → Prop), Q (.bool (g i j)) s → wpAny (model X.prog X.w) X.A (f (.int i t) (.int j u)) Q E s) :
  OpR X f (rI0 fun i j => .bl (g i j)) := by
 intro pins s σ H x y v u Q I rx ry h
 obtain ⟨i, j, rfl, rfl, q⟩ := h
 obtain ⟨t, rfl⟩ := rx
 obtain ⟨t', rfl⟩ := ry
 exact rule i j t t' s _ _ ⟨.bl (g i j), H, I, rfl, q⟩
def CDiv (i j : Int) : Prop := 0 < j ∧ j < 1073741824
def CMul (i j : Int) : Prop := (-(2 ^ 64) < i ∧ i < 2 ^ 64) ∨ (-(2 ^ 64) < j ∧ j < 2 ^ 64)
theorem CMul.ok {i j : Int} (h : CMul i j) : IntMulOk i j := by
 rcases h with ⟨h1, h2⟩ | ⟨h1, h2⟩
 ·exact .of_left (intBits_le_64 h1 h2)
 ·exact .of_right (intBits_le_64 h1 h2)
theorem lqI : OpR X (binaryOp .Add) (rI0 fun i j => .int (i + j)) := opI0 fun _ _ _ _ _ _ _ q => add_int q
theorem jqu : OpR X (binaryOp .Sub) (rI0 fun i j => .int (i - j)) := opI0 fun _ _ _ _ _ _ _ q => sub_int q
theorem lqy : OpR X (binaryOp .Mult) (rI CMul fun i j => .int (i * j)) := opI fun _ _ _ _ _ _ _ hc q => mul_int q hc.ok
theorem aqO : OpR X (binaryOp .FloorDiv) (rI CDiv fun i j => .int (i / j)) := opI fun i j _ _ _ _ _ hc q => by
 have h1 : (0 : Int) < j := hc.1
 have h2 : j < 1073741824 := hc.2
 exact floordiv_int (by omega) (by rw [Int.fdiv_eq_ediv_of_nonneg i (by omega)]; exact q) (.inl (PyProof.noPylong_small (by omega)))
theorem aqL : OpR X (binaryOp .Mod) (rI (fun _ j => 0 < j) fun i j => .int (i % j)) := opI fun i j _ _ _ _ _ hc q => by
 have h1 : (0 : Int) < j := hc
 exact mod_int' (by omega) (by rw [Int.fmod_eq_emod_of_nonneg i (by omega)]; exact q)
theorem unI {f : Value → Sem Value} {g : Int → Int}
  (rule : ∀ (i : Int) (t : Tok) (s : Shared) (Q : Value → Shared → Prop) (E : Value → Shared → Prop), Q (.int (g i) s.toks) { s with toks := s.toks + 1 } → wpAny (model X.prog X.w) X.A (f (.int i t)) Q E s) :
  UnR X f (rU fun i => .int (g i)) := by
 intro pins s σ H x v Q I rx h
 obtain ⟨i, rfl, q⟩ := h
 obtain ⟨t, rfl⟩ := rx
 exact rule i t s _ _ ⟨.int (g i), H, I.tok _, ⟨_, rfl⟩, q⟩
theorem jqs : UnR X (unaryOp .USub) (rU fun i => .int (-i)) := unI fun _ _ _ _ _ q => neg_int q
end
def scal : V → V → Bool
 | .non, .non => true | .non, .int _ => true | .int _, .non => true | .non, .bl _ => true | .bl _, .non => true | .non, .str _ => true | .str _, .non => true
 | .int _, .int _ => true | .bl _, .bl _ => true | .str _, .str _ => true | .byt _, .byt _ => true
 | .int _, .str _ => true | .str _, .int _ => true | .bl _, .str _ => true | .str _, .bl _ => true
 | _, _ => false
def rEq : R2 := fun x y H Q => scal x y = true ∧ Q (.bl (decide (x = y))) H
def rNe : R2 := fun x y H Q => scal x y = true ∧ Q (.bl (!decide (x = y))) H
theorem iqa {i j : Int} : decide (V.int i = V.int j) = (i == j) := by
 rw [Bool.eq_iff_iff]
 simp
theorem jqC {i j : Bool} : decide (V.bl i = V.bl j) = (i == j) := by
 rw [Bool.eq_iff_iff]
 simp
theorem hq3 {i j : Str} : decide (V.str i = V.str j) = (i == j) := by
 rw [Bool.eq_iff_iff]
 simp
theorem hqC {i j : Array UInt8} : decide (V.byt i = V.byt j) = (i.toList == j.toList) := by
 rw [Bool.eq_iff_iff]
 cases i
 cases j
 simp
section
variable {X : Cx} {a b c : Expr} {ta tb tc : TE} {pos : Pos}
theorem aqu {pins : List (Addr × Obj)} {σ : St} {H : Hp} {s : Shared} {Q : VK} {k k' : Bool} (I : Inv X pins σ H s) (q : Q (.bl k) H) (e : k = k') : EP X pins σ Q (.bool k') s := by
 subst e
 exact ⟨.bl k, H, I, rfl, q⟩
theorem bqF : OpR X (compareOp .Eq) rEq := by
 intro pins s σ H x y v u Q I rx ry h
 obtain ⟨hs, q⟩ := h
 cases x with
 | non =>
  cases rx
  cases y with
  | non => cases ry; exact PySem.EqNone.eq_none_none (aqu I q (by simp))
  | bl j => cases ry; exact PySem.EqNone.eq_none_bool (aqu I q (by simp))
  | int j => obtain ⟨t', rfl⟩ := ry; exact PySem.EqNone.eq_none_int (aqu I q (by simp))
  | str j => obtain ⟨t', rfl⟩ := ry; exact PySem.EqNone.eq_none_str (aqu I q (by simp))
  | _ => exact absurd (show false = true from hs) Bool.false_ne_true
 | bl i =>
  cases rx
  cases y with
  | non => cases ry; exact PySem.EqNone.eq_bool_none (aqu I q (by simp))
  | bl j => cases ry; exact eq_bool (aqu I q jqC)
  | str j => obtain ⟨t', rfl⟩ := ry; exact PySem.EqMixed.eq_bool_str (aqu I q (by simp))
  | _ => exact absurd (show false = true from hs) Bool.false_ne_true
 | int i =>
  obtain ⟨t, rfl⟩ := rx
  cases y with
  | non => cases ry; exact PySem.EqNone.eq_int_none (aqu I q (by simp))
  | int j => obtain ⟨t', rfl⟩ := ry; exact eq_int (aqu I q iqa)
  | str j => obtain ⟨t', rfl⟩ := ry; exact PySem.EqMixed.eq_int_str (aqu I q (by simp))
  | _ => exact absurd (show false = true from hs) Bool.false_ne_true
 | str i =>
  obtain ⟨t, rfl⟩ := rx
  cases y with
  | non => cases ry; exact PySem.EqNone.eq_str_none (aqu I q (by simp))
  | bl j => cases ry; exact PySem.EqMixed.eq_str_bool (aqu I q (by simp))
  | int j => obtain ⟨t', rfl⟩ := ry; exact PySem.EqMixed.eq_str_int (aqu I q (by simp))
  | str j => obtain ⟨t', rfl⟩ := ry; exact eq_str (aqu I q hq3)
  | _ => exact absurd (show false = true from hs) Bool.false_ne_true
 | byt i =>
  obtain ⟨t, rfl⟩ := rx
  cases y with
  | byt j => obtain ⟨t', rfl⟩ := ry; exact PySem.W.eq_bytes (aqu I q hqC)
  | _ => exact absurd (show false = true from hs) Bool.false_ne_true
 | _ => cases y <;> exact absurd (show false = true from hs) Bool.false_ne_true
theorem jqK : OpR X (compareOp .NotEq) rNe := by
 intro pins s σ H x y v u Q I rx ry h
 obtain ⟨hs, q⟩ := h
 cases x with
 | non =>
  cases rx
  cases y with
  | non => cases ry; exact PySem.EqNone.ne_none_none (aqu I q (by simp))
  | bl j => cases ry; exact PySem.EqNone.ne_none_bool (aqu I q (by simp))
  | int j => obtain ⟨t', rfl⟩ := ry; exact PySem.EqNone.ne_none_int (aqu I q (by simp))
  | str j => obtain ⟨t', rfl⟩ := ry; exact PySem.EqNone.ne_none_str (aqu I q (by simp))
  | _ => exact absurd (show false = true from hs) Bool.false_ne_true
 | bl i =>
  cases rx
  cases y with
  | non => cases ry; exact PySem.EqNone.ne_bool_none (aqu I q (by simp))
  | bl j => cases ry; exact ne_bool (aqu I q (congrArg not jqC))
  | str j => obtain ⟨t', rfl⟩ := ry; exact PySem.EqMixed.ne_bool_str (aqu I q (by simp))
  | _ => exact absurd (show false = true from hs) Bool.false_ne_true
 | int i =>
  obtain ⟨t, rfl⟩ := rx
  cases y with
  | non => cases ry; exact PySem.EqNone.ne_int_none (aqu I q (by simp))
  | int j => obtain ⟨t', rfl⟩ := ry; exact ne_int (aqu I q (congrArg not iqa))
  | str j => obtain ⟨t', rfl⟩ := ry; exact PySem.EqMixed.ne_int_str (aqu I q (by simp))
  | _ => exact absurd (show false = true from hs) Bool.false_ne_true
 | str i =>
  obtain ⟨t, rfl⟩ := rx
  cases y with
  | non => cases ry; exact PySem.EqNone.ne_str_none (aqu I q (by simp))
  | bl j => cases ry; exact PySem.EqMixed.ne_str_bool (aqu I q (by simp))
  | int j => obtain ⟨t', rfl⟩ := ry; exact PySem.EqMixed.ne_str_int (aqu I q (by simp))
  | str j => obtain ⟨t', rfl⟩ := ry; exact ne_str (aqu I q (congrArg not hq3))
  | _ => exact absurd (show false = true from hs) Bool.false_ne_true
 | byt i =>
  obtain ⟨t, rfl⟩ := rx
  cases y with
  | byt j => obtain ⟨t', rfl⟩ := ry; exact PySem.W.ne_bytes (aqu I q (congrArg not hqC))
  | _ => exact absurd (show false = true from hs) Bool.false_ne_true
 | _ => cases y <;> exact absurd (show false = true from hs) Bool.false_ne_true
theorem iqy : OpR X (compareOp .Lt) (rI0 fun i j => .bl (decide (i < j))) := opB0 fun _ _ _ _ _ _ _ q => lt_int q
theorem kq9 : OpR X (compareOp .LtE) (rI0 fun i j => .bl (decide (i ≤ j))) := opB0 fun _ _ _ _ _ _ _ q => le_int q
theorem kq0 : OpR X (compareOp .Gt) (rI0 fun i j => .bl (decide (j < i))) := opB0 fun _ _ _ _ _ _ _ q => gt_int q
theorem hqD : OpR X (compareOp .In) (fun x y H Q => ∃ i j, x = .str i ∧ y = .str j ∧ Q (.bl (!(Builtin.Str.occurrences j i 0 j.length 1).isEmpty)) H) := by
 intro pins s σ H x y v u Q I rx ry h
 obtain ⟨i, j, rfl, rfl, q⟩ := h
 obtain ⟨t, rfl⟩ := rx
 obtain ⟨t', rfl⟩ := ry
 exact in_str (aqu I q rfl)
theorem nomark (b : Expr) {op : CmpOp} (h : op ≠ .In := by decide) (h2 : op ≠ .NotIn := by decide) : behindInMarks op b = false := by
 have e1 : (op == CmpOp.In) = false := by cases op <;> first | rfl | exact absurd rfl h
 have e2 : (op == CmpOp.NotIn) = false := by cases op <;> first | rfl | exact absurd rfl h2
 cases b <;> simp [behindInMarks, e1, e2]
theorem aq8 {op : CmpOp} {r : R2} (ho : OpR X (compareOp op) r) (ha : PE X a ta) (hb : PE X b tb) (hm : behindInMarks op b = false) : PE X (.Compare a [op] [b] pos) (tOp r ta tb) := by
 intro pins s σ H Q I h
 exact wpAny_Compare1 (binT ha hb I h fun v u s2 x y H2 I2 rx ry q => ho pins s2 σ H2 x y v u Q I2 rx ry q) hm
def tTest (t : TE) : TT := fun σ H Q => t σ H fun x H' => ∃ k, x = .bl k ∧ Q k H'
theorem aqr {op : CmpOp} {r : R2} (ho : OpR X (compareOp op) r) (ha : PE X a ta) (hb : PE X b tb) (hm : behindInMarks op b = false) : PT X (.Compare a [op] [b] pos) (tTest (tOp r ta tb)) := by
 intro pins s σ H Q I h
 refine wpAny_isTrue_Compare1 (thn (ha pins s σ H _ I h) fun v s1 ⟨x, H1, I1, r1, q1⟩ => thn (hb pins s1 σ H1 _ I1 q1) fun u s2 ⟨y, H2, I2, r2, q2⟩ =>
  thn (ho pins s2 σ H2 x y v u _ I2 r1 r2 q2) fun c s3 ⟨z, H3, I3, r3, k, e, q3⟩ => ?_) hm
 subst e
 cases r3
 exact wpAny_truthy_bool ⟨H3, I3, q3⟩
def tChain (r r' : R2) (ta tb tc : TE) : TE := fun σ H Q => ta σ H fun x H1 => tb σ H1 fun y H2 => r x y H2 fun z H3 => ∃ k, z = .bl k ∧
 (if k = true then tc σ H3 fun w' H4 => r' y w' H4 Q else Q (.bl false) H3)
theorem iqA {op op' : CmpOp} {r r' : R2} (ho : OpR X (compareOp op) r) (ho' : OpR X (compareOp op') r') (ha : PE X a ta) (hb : PE X b tb) (hc : PE X c tc)
  (hm : lastMarks [op, op'] [b, c] = false := by with_unfolding_all rfl) : PE X (.Compare a [op, op'] [b, c] pos) (tChain r r' ta tb tc) := by
 intro pins s σ H Q I h
 refine Compare_chain (thn (ha pins s σ H _ I h) fun v s1 ⟨x, H1, I1, r1, q1⟩ => chain_link (thn (hb pins s1 σ H1 _ I1 q1) fun u s2 ⟨y, H2, I2, r2, q2⟩ =>
  thn (ho pins s2 σ H2 x y v u _ I2 r1 r2 q2) fun d s3 ⟨z, H3, I3, r3, k, e, q3⟩ => ?_)) hm
 subst e
 cases r3
 refine wpAny_truthy_bool ?_
 cases k with
 | false => exact ite_ff ⟨.bl false, H3, I3, rfl, q3⟩
 | true => exact ite_tt (chain_last (thn (hc pins s3 σ H3 _ I3 q3) fun w' s4 ⟨z', H4, I4, r4, q4⟩ => ho' pins s4 σ H4 y z' u w' Q I4 r2 r4 q4))
theorem line63 : (sizeLine : Nat) < 2 ^ 63 := by rw [sizeLine_eq]; decide
theorem hqf : OpR X (binaryOp .Add) (fun x y H Q => ∃ i j, x = .str i ∧ y = .str j ∧ i.length + j.length ≤ sizeLine ∧ Q (.str (i ++ j)) H) := by
 intro pins s σ H x y v u Q I rx ry h
 obtain ⟨i, j, rfl, rfl, hz, q⟩ := h
 obtain ⟨t, rfl⟩ := rx
 obtain ⟨t', rfl⟩ := ry
 exact add_str (fun t' tk => ⟨.str (i ++ j), H, I.tok _, ⟨_, rfl⟩, q⟩) hz
theorem vals1 {x : V} {us : List Value} (r : Vals [x] us) : ∃ u, us = [u] ∧ RelV x u := by
 cases r with
 | cons r1 r2 => cases r2; exact ⟨_, rfl, r1⟩
theorem vals2 {x y : V} {us : List Value} (r : Vals [x, y] us) : ∃ u w', us = [u, w'] ∧ RelV x u ∧ RelV y w' := by
 cases r with
 | cons r1 r2 =>
  cases r2 with
  | cons r3 r4 => cases r4; exact ⟨_, _, rfl, r1, r3⟩
theorem fqK : CallR X (.type "int") (fun xs H Q => (∃ i, xs = [.int i] ∧ Q (.int i) H) ∨ ∃ k, xs = [.bl k] ∧ Q (.int (if k then 1 else 0)) H) := by
 intro pins s σ H xs us Q I r h
 rcases h with ⟨i, rfl, q⟩ | ⟨k, rfl, q⟩
 ·obtain ⟨u, rfl, t, rfl⟩ := vals1 r
  exact call_int_int ⟨.int i, H, I, ⟨_, rfl⟩, q⟩
 ·obtain ⟨u, rfl, r1⟩ := vals1 r
  cases r1
  exact call_int_bool ⟨.int (if k then 1 else 0), H, I.tok _, ⟨_, rfl⟩, q⟩
end
structure ObjM (h : Heap) (x dx C : Addr) (mA : Str → Option Value) : Prop where
 obj : h.get? x = some (PySem.W.instObj C dx)
 ns : h.Ns1 dx mA
 ne : dx ≠ x
theorem hqU {h : Heap} {dx : Addr} {mA : Str → Option Value} (n : h.Ns1 dx mA) : ∃ od, h.get? dx = some od ∧ ∀ name, PySem.W.lookIn name od = some (mA name) := by
 obtain ⟨o, es, ep, ho, hd, hk, _, hm⟩ := n
 refine ⟨o, ho, fun name => ?_⟩
 have e := hm name
 unfold nsFind findBy at e
 rw [← Array.find?_toList] at e
 unfold PySem.W.lookIn
 rw [hd]
 dsimp only
 split
 ·rename_i y q
  rw [q] at e
  exact congrArg some e
 ·rename_i q
  rw [q] at e
  have a : es.toList.any (·.refKey) = false := by
   rw [List.any_eq_false]
   intro y hy
   obtain ⟨z, t, hkey⟩ := hk y (Array.mem_toList_iff.mp hy)
   simp [DictEntry.refKey, hkey]
  have a' : ¬ es.toList.any (·.refKey) = true := by rw [a]; exact Bool.false_ne_true
  rw [if_neg a']
  exact congrArg some e
theorem ObjM.look {h : Heap} {x dx C : Addr} {mA : Str → Option Value} (I : ObjM h x dx C mA) : ∃ od, PySem.W.InstAt h x (PySem.W.instObj C dx) C (some od) ∧ ∀ name, PySem.W.lookIn name od = some (mA name) :=
 let ⟨od, ho, hl⟩ := hqU I.ns
 ⟨od, ⟨I.obj, rfl, rfl, ho⟩, hl⟩
section
variable {prog : Program} {w : World} {A : Around} {E : Value → Shared → Prop} {s : Shared} {K : PySem.W.Frag} {x dx C f : Addr} {mA : Str → Option Value} {name : Str} {v : Value}
end
def putF (f : Str) (v : V) : List (Str × V) → List (Str × V)
 | [] => [(f, v)]
 | (g, x) :: r => if g = f then (g, v) :: r else (g, x) :: putF f v r
section
variable {P : Program} {w : World} {H H' : Hp} {h h' : Heap} {a C dx : Addr} {fs fs' : List (Str × V)}
theorem jqF (hok : HOk P w H h) (e : H a = some (.ins C dx fs)) : ∃ mA, ObjM h a dx C mA ∧ (∀ f, RelO (fs.lookup f) (mA f)) ∧ PySem.Within mA (fs.map (·.1)) ∧ fs.length ≤ 1000 ∧ H dx = some (.own a) := by
 obtain ⟨d, z, ne, ob, mA, n, r, q⟩ := (show ObjOk P w H h a (.ins C dx fs) from hok a _ e)
 exact ⟨mA, ⟨ob, n, ne⟩, r, q, z, d⟩
end
structure Cls (K : PySem.W.Frag) (C : Addr) : Prop where
 pg : PySem.W.plainGet K C Str.empty = true
 hd : PySem.W.hasDictIn K C = true
 po : PySem.W.plainOver K C = true
 sa : PySem.W.findIn K (.ref C) "__setattr__" = some (some (.builtin "object.__setattr__"))
theorem Cls.get {K : PySem.W.Frag} {C : Addr} (c : Cls K C) (f : Str) : PySem.W.plainGet K C f = true := c.pg
def NoAttr (K : PySem.W.Frag) (C : Addr) (f : Str) : Prop := PySem.W.findIn K (.ref C) f = some none
structure Con (K : PySem.W.Frag) (C : Addr) (f : Str) (v : V) (u : Value) : Prop where
 at_ : PySem.W.findIn K (.ref C) f = some (some u)
 rel : RelV v u
 get : PySem.W.specialIn K u "__get__" = some none
 cp : PySem.W.copiedNames.contains f = false
structure Meth (K : PySem.W.Frag) (C : Addr) (m : Str) (f : Addr) : Prop where
 at_ : PySem.W.findIn K (.ref C) m = some (some (.ref f))
 fn : PySem.W.isFn K (.ref f) = true
 kp : PySem.W.keepIn K (.ref f) = true
section
variable {X : Cx} {pins : List (Addr × Obj)} {σ : St} {H : Hp} {s : Shared} {a C dx : Addr} {fs : List (Str × V)} {f : Str} {v : V} {A : Around} {E : Value → Shared → Prop}
end
def tFld (K : PySem.W.Frag) (ta : TE) (f : Str) : TE := fun σ H Q => ta σ H fun x H1 => ∃ a C dx fs v, x = .ref a ∧ H1 a = some (.ins C dx fs) ∧ Cls K C ∧ NoAttr K C f ∧ fs.lookup f = some v ∧ Q v H1
def sFld (K : PySem.W.Frag) (ta tv : TE) (f : Str) : TS := fun D σ H => tv σ H fun y H1 => ta σ H1 fun x H2 => ∃ a C dx fs, x = .ref a ∧ H2 a = some (.ins C dx fs) ∧ Cls K C ∧ NoAttr K C f ∧ fs.length < 1000 ∧
 D.nx σ (upd H2 a (.ins C dx (putF f y fs)))
section
variable {X : Cx} {o e value : Expr} {f : Str} {pos pos' tpos : Pos} {ta tv : TE}
end
section
variable {X : Cx} {pins : List (Addr × Obj)} {σ : St} {H : Hp} {s : Shared} {A : Around} {E : Value → Shared → Prop} {Q : Value → Shared → Prop} {c : Value} {b : Bool}
inductive TyOf (K : PySem.W.Frag) (H : Hp) : V → Value → Prop where
 | non : TyOf K H .non (.type "NoneType")
 | bl (x : Bool) : TyOf K H (.bl x) (.type "bool")
 | int (i : Int) : TyOf K H (.int i) (.type "int")
 | str (x : Str) : TyOf K H (.str x) (.type "str")
 | flt (x : UInt64) : TyOf K H (.flt x) (.type "float")
 | lst {a : Addr} {xs : List V} (e : H a = some (.lst xs)) : TyOf K H (.ref a) (.type "list")
 | frz {a : Addr} {o : Obj} {xs : List V} (e : H a = some (.frz o (.lst xs))) : TyOf K H (.ref a) (.type "list")
 | tup {a : Addr} {xs : List V} (e : H a = some (.tup xs)) : TyOf K H (.ref a) (.type "tuple")
 | dK {a : Addr} {kvs : List (Key × V)} (e : H a = some (.dK kvs)) : TyOf K H (.ref a) (.type "dict")
 | dT {a : Addr} {kvs : List (List Key × V)} (e : H a = some (.dT kvs)) : TyOf K H (.ref a) (.type "dict")
 | ins {a C dx : Addr} {fs : List (Str × V)} (e : H a = some (.ins C dx fs)) (cl : Cls K C) (ha : PySem.W.findIn K (.ref C) "__class__" = some (some (.builtin "object.__class__")))
   (hn : PySem.W.specialIn K (.builtin "object.__class__") "__get__" = some (some (.builtin "getset_descriptor.__get__"))) (htk : PySem.W.takesIn K (.builtin "object.__class__") = some true)
   (hm : PySem.W.mroIn K C (.type "object") = some true) : TyOf K H (.ref a) (.ref C)
theorem iqg {x : V} {u t : Value} (I : Inv X pins σ H s) (rx : RelV x u) (ty : TyOf X.K H x t) (e : PySem.W.kitOne X.K t c = some b) (h : ∀ tk, Q (.bool b) { s with toks := tk }) :
  wpAny (model X.prog X.w) A (call (.builtin "isinstance") [u, c]) Q E s := by
 cases ty with
 | non => cases (show u = Value.none from rx); exact PySem.W.kia_one PySem.W.kitx_none I.kIn True.intro e (fun z => nomatch z) h
 | bl y => cases (show u = Value.bool y from rx); exact PySem.W.kia_one PySem.W.kitx_bool I.kIn True.intro e (fun z => nomatch z) h
 | int i => obtain ⟨t, q⟩ := (show ∃ t, u = Value.int i t from rx); cases q; exact PySem.W.kia_one PySem.W.kitx_int I.kIn True.intro e (fun z => nomatch z) h
 | str y => obtain ⟨t, q⟩ := (show ∃ t, u = Value.str y t from rx); cases q; exact PySem.W.kia_one PySem.W.kitx_str I.kIn True.intro e (fun z => nomatch z) h
 | flt y => obtain ⟨t, q⟩ := (show ∃ t, u = Value.float y t from rx); cases q; exact PySem.W.kia_one PySem.W.kitx_float I.kIn True.intro e (fun z => nomatch z) h
 | @lst a xs ea =>
  cases (show u = Value.ref a from rx)
  obtain ⟨_, _, n, _, h1⟩ := (show ObjOk X.prog X.w H s.heap a (.lst xs) from I.hok a _ ea)
  exact PySem.W.kia_one PySem.W.kitx_list I.kIn ⟨_, h1, rfl⟩ e (fun z => nomatch z) h
 | @frz a ob xs ea =>
  cases (show u = Value.ref a from rx)
  obtain ⟨_, _, _, n, _, h1⟩ := (show ObjOk X.prog X.w H s.heap a (.frz ob (.lst xs)) from I.hok a _ ea)
  exact PySem.W.kia_one PySem.W.kitx_list I.kIn ⟨_, h1, rfl⟩ e (fun z => nomatch z) h
 | @tup a xs ea =>
  cases (show u = Value.ref a from rx)
  obtain ⟨_, _, _, p⟩ := (show ObjOk X.prog X.w H s.heap a (.tup xs) from I.hok a _ ea)
  obtain ⟨o, h1, h2, _⟩ := p
  exact PySem.W.kia_one PySem.W.kitx_tuple I.kIn ⟨o, h1, h2⟩ e (fun z => nomatch z) h
 | @dK a kvs ea =>
  cases (show u = Value.ref a from rx)
  obtain ⟨_, _, vs, _, p⟩ := (show ObjOk X.prog X.w H s.heap a (.dK kvs) from I.hok a _ ea)
  obtain ⟨o, es, ep, h1, h2, _⟩ := p
  exact PySem.W.kia_one PySem.W.kitx_dict I.kIn ⟨o, h1, h2.1⟩ e (fun z => nomatch z) h
 | @dT a kvs ea =>
  cases (show u = Value.ref a from rx)
  obtain ⟨_, _, xs, _, o, es, ep, h1, h2, _⟩ := (show ObjOk X.prog X.w H s.heap a (.dT kvs) from I.hok a _ ea)
  exact PySem.W.kia_one PySem.W.kitx_dict I.kIn ⟨o, h1, h2.1⟩ e (fun z => nomatch z) h
 | @ins a C dx fs ea cl ha hn htk hm =>
  cases (show u = Value.ref a from rx)
  obtain ⟨mA, O, _⟩ := jqF I.hok ea
  obtain ⟨od, J, _⟩ := O.look
  exact PySem.W.kia_one (PySem.W.kitx_own (cl.get _) cl.hd ha hn htk hm) I.kIn J e (fun z => nomatch z) h
end
structure Room (k : Nat) (A : Around) : Prop where
 hd : A.handled = none
 dp : A.depth + 3 * k + 5 < recursionLimit
 un : A.units + 16 * k + 200 < cLine
theorem Room.mono {j k : Nat} {A : Around} (r : Room k A) (h : j ≤ k) : Room j A := ⟨r.hd, by have := r.dp; omega, by have := r.un; omega⟩
theorem Room.deeper {k : Nat} {A : Around} (r : Room (k + 1) A) (env : Env) : Room k (A.deeper env) :=
 ⟨r.hd, by have := r.dp; show A.depth + 1 + 3 * k + 5 < _; omega, by have := r.un; show A.units + 3 + 16 * k + 200 < _; omega⟩
theorem Room.depth {k : Nat} {A : Around} (r : Room k A) : A.depth < recursionLimit := by have := r.dp; omega
theorem Room.units {k : Nat} {A : Around} (r : Room k A) : A.units + 64 < cLine := by have := r.un; omega
def tNil : TA := fun _ H Q => Q [] H
def tCons (ta : TE) (tr : TA) : TA := fun σ H Q => ta σ H fun x H1 => tr σ H1 fun xs H2 => Q (x :: xs) H2
section
variable {X : Cx} {e : Expr} {es : List Expr} {te : TE} {t : TA} {pos : Pos}
theorem aqb : PA X [] tNil := fun _ _ _ _ H Q I h => Calls.spliced_nil ⟨[], H, I, .nil, h⟩
theorem aqa (ha : PE X e te) (hr : PA X es t) (hs : starEach (e :: es) X.env = (false, eval e X.env) :: starEach es X.env := by rfl) : PA X (e :: es) (tCons te t) := by
 intro pos pins s σ H Q I h
 rw [hs]
 show wpAny _ _ (spliced ((false, eval e X.env) :: backTo pos (starEach es X.env))) _ _ s
 refine Calls.spliced_cons (thn (ha pins s σ H _ I h) fun u s1 W' => ?_)
 obtain ⟨x, H1, I1, r1, q1⟩ := W'
 exact thn (hr pos pins s1 σ H1 _ I1 q1) fun us s2 ⟨xs, H2, I2, r2, q2⟩ => ⟨x :: xs, H2, I2, .cons r1 r2, q2⟩
def tTup (t : TA) : TE := fun σ H Q => t σ H fun xs H1 => xs.length ≤ sizeLine ∧ ∀ p, H1 p = none → Q (.ref p) (upd H1 p (.tup xs))
def tLst (t : TA) : TE := fun σ H Q => t σ H fun xs H1 => xs.length ≤ sizeLine ∧ ∀ p, H1 p = none → Q (.ref p) (upd H1 p (.lst xs))
end
abbrev Sp := List V → Hp → VK → XK → Prop
abbrev CXT := List Env → Hp → Shared → XK → Value → Shared → Prop
structure Env0 (P : Program) (w : World) (K : PySem.W.Frag) (mg : Str → Option Value) (base : Heap) (A : Around) (outer : List Env) (s : Shared) (H : Hp) : Prop where
 frames : A.frames = some outer
 mod : Mod K mg base
 bs : ∀ b o, base.get? b = some o → s.heap.get? b = some o ∧ H b = none
 bsz : base.objs.size ≤ s.heap.objs.size
 funs : s.heap.FunFrames base outer
 frf : ∀ b ∈ frs outer, H b = none
 hok : HOk P w H s.heap
 bare : AllBare s.gens
def CE (outer : List Env) (P : Program) (w : World) (H : Hp) (s : Shared) (Q : VK) (u : Value) (s' : Shared) : Prop :=
 ∃ v H', s'.os = s.os ∧ AllBare s'.gens ∧ Un (frs outer) [] H H' s.heap s'.heap ∧ HOk P w H' s'.heap ∧ RelV v u ∧ Q v H'
def CR (CX : CXT) (outer : List Env) (P : Program) (w : World) (H : Hp) (s : Shared) (Q : VK) (E : XK) (r : Result) (s' : Shared) : Prop :=
 match r with
 | .ok (.ret u) => CE outer P w H s Q u s'
 | .ok _ => False
 | .error e => CX outer H s E e s'
structure FnOk (P : Program) (w : World) (K : PySem.W.Frag) (mg : Str → Option Value) (base : Heap) (CX : CXT) (k : Nat) (f : Addr) (fd : FuncData) (ps : List Str) (sp : Sp) : Prop where
 len : ∀ vs H Q E, sp vs H Q E → vs.length = ps.length
 run : ∀ (A : Around) (outer : List Env) (s : Shared) (H : Hp) (args : Args) (us : List Value) (vs : List V) (Q : VK) (E : XK), Room k A → Env0 P w K mg base A outer s H → BindsTo s fd args (ps.zip us) → Vals vs us → sp vs H Q E →
  codeAny (model P w) A (.call (.ref f) args) (CR CX outer P w H s Q E) s
section
variable {X : Cx} {pins : List (Addr × Obj)} {σ : St} {H : Hp} {s s' : Shared}
theorem Inv.env0 (I : Inv X pins σ H s) : Env0 X.prog X.w X.K X.mg X.base X.A X.stack s H :=
 ⟨I.ok.frames, I.ok.mod, I.bs, Nat.le_trans I.ok.bsz I.sz, I.stack, I.stkFree, I.hok, I.bare⟩
theorem Inv.after {Q : VK} {u : Value} (I : Inv X pins σ H s) (h : CE X.stack X.prog X.w H s Q u s') : EP X pins σ Q u s' := by
 obtain ⟨v, H', os, bare, un, hok, r, q⟩ := h
 obtain ⟨hh, g, d, t, os'⟩ := s'
 obtain rfl : os' = s.os := os
 exact ⟨v, H', I.call (h' := hh) (g' := g) (d' := d) (t' := t) (ch := []) un hok bare (fun b z => absurd z (by simp)), r, q⟩
end
def tCall (sp : Sp) (dvs : List V) (E : XK) (t : TA) : TE := fun σ H Q => t σ H fun vs H1 => sp (vs ++ dvs) H1 Q E
def tMeth (C : Addr) (m : Str) (sp : Sp) (dvs : List V) (E : XK) (ta : TE) (t : TA) : TE := fun σ H Q => ta σ H fun x H1 => ∃ a dx fs, x = .ref a ∧ H1 a = some (.ins C dx fs) ∧ fs.lookup m = none ∧
 t σ H1 fun vs H2 => sp (x :: (vs ++ dvs)) H2 Q E
def tMake (C : Addr) (sp : Sp) (dvs : List V) (E : XK) (t : TA) : TE := fun σ H Q => t σ H fun vs H1 => ∀ x dx, H1 x = none → H1 dx = none → dx ≠ x →
 sp (.ref x :: (vs ++ dvs)) (upd (upd H1 dx (.own x)) x (.ins C dx [])) (fun v H2 => v = .non ∧ Q (.ref x) H2) E
def Binds (K : PySem.W.Frag) (fd : FuncData) (ps : List Str) (ds : List Value) : Prop :=
 ∀ (s : Shared) (us : List Value), K.In s.heap → (us ++ ds).length = ps.length → BindsTo s fd ⟨us, []⟩ (ps.zip (us ++ ds))
theorem Binds.all {K : PySem.W.Frag} {fd : FuncData} {ps : List Str} (h : ∀ us : List Value, us.length = ps.length → bindArgs fd ⟨us, []⟩ = pure (ps.zip us)) : Binds K fd ps [] := fun s us _ hl => by
 rw [List.append_nil] at hl ⊢
 exact .of_eq (h us hl)
def Passes (CX : CXT) (X : Cx) (E : XK) : Prop := ∀ (pins : List (Addr × Obj)) (σ : St) (H : Hp) (s : Shared) (e : Value) (s' : Shared), Inv X pins σ H s → CX X.stack H s E e s' → X.xe e s'
section
variable {X : Cx} {CX : CXT} {k : Nat} {f C : Addr} {fd : FuncData} {ps : List Str} {sp : Sp} {dvs : List V} {ds : List Value} {E : XK} {x m : Str} {p pos apos : Pos} {e o : Expr} {es : List Expr} {ta : TE} {t : TA}
theorem jqt {pins : List (Addr × Obj)} {σ : St} {H : Hp} {s : Shared} {Q : VK} {us : List Value} {vs : List V} (F : FnOk X.prog X.w X.K X.mg X.base CX k f fd ps sp) (hr : Room k X.A) (hb : Binds X.K fd ps ds) (hd : Vals dvs ds) (hx : Passes CX X E)
  (I : Inv X pins σ H s) (r : Vals vs us) (h : sp (vs ++ dvs) H Q E) : wpAny (model X.prog X.w) X.A (call (.ref f) us) (EP X pins σ Q) X.xe s := by
 have r2 : Vals (vs ++ dvs) (us ++ ds) := r.append hd
 have hl : (us ++ ds).length = ps.length := by rw [← r2.length]; exact F.len _ _ _ _ h
 refine wpAny_call (codeAny_mono (F.run X.A X.stack s H ⟨us, []⟩ (us ++ ds) (vs ++ dvs) Q E hr I.env0 (hb s us I.kIn hl) r2 h) fun r s' hq => ?_)
 cases r with
 | error e => exact hx pins σ H s e s' I hq
 | ok fl =>
  cases fl with
  | ret u => exact I.after hq
  | next => exact False.elim hq
  | brk => exact False.elim hq
  | cont => exact False.elim hq
theorem aqk (F : FnOk X.prog X.w X.K X.mg X.base CX k f fd ps sp) (hr : Room k X.A) (hg : Gl X x) (hm : X.mg x = some (.ref f)) (hk : PySem.W.keepIn X.K (.ref f) = true) (hb : Binds X.K fd ps ds) (hd : Vals dvs ds) (hx : Passes CX X E)
  (ha : PA X (e :: es) t) (hdb : (x == ("__debug__" : Str)) = false := by decide) (he : starEach (e :: es) X.env = (false, eval e X.env) :: starEach es X.env := by rfl) (hpl : (backTo pos (starEach es X.env)).any (·.1) = false := by rfl) :
  PE X (.Call (.Name x p) (e :: es) [] pos) (tCall sp dvs E t) := by
 intro pins s σ H Q I h
 refine wpAny_Call_Name_kw (gqr I hg hm ?_ hdb)
 refine PySem.W.callWith_K (h₀ := X.base) I.ok.mod.kin hk (thn (ha pos pins s σ H _ I h) fun us s1 ⟨vs, H1, I1, r, q⟩ => ⟨I1.kIn, ?_⟩) he hpl
 exact jqt F hr hb hd hx I1 r q
theorem iqH (F : FnOk X.prog X.w X.K X.mg X.base CX k f fd ps sp) (hr : Room k X.A) (hg : Gl X x) (hm : X.mg x = some (.ref f)) (hk : PySem.W.keepIn X.K (.ref f) = true) (hb : Binds X.K fd ps ds) (hd : Vals dvs ds) (hx : Passes CX X E)
  (hdb : (x == ("__debug__" : Str)) = false := by decide) : PE X (.Call (.Name x p) [] [] pos) (tCall sp dvs E tNil) := by
 intro pins s σ H Q I h
 refine wpAny_Call_Name_kw (gqr I hg hm ?_ hdb)
 exact PySem.W.callWith_K0 I.kIn hk (jqt (us := []) F hr hb hd hx I .nil h)
structure Mk (K : PySem.W.Frag) (C f : Addr) : Prop where
 makes : PySem.W.makesIn K C = true
 init : PySem.W.findIn K (.ref C) "__init__" = some (some (.ref f))
 fn : PySem.W.isFn K (.ref f) = true
 kp : PySem.W.keepIn K (.ref C) = true
end
section
variable {X : Cx} {CX : CXT} {k : Nat} {f C : Addr} {fd : FuncData} {ps ks : List Str} {sp : Sp} {E : XK} {x m : Str} {p pos apos kpos : Pos} {e o : Expr} {es : List Expr} {kws : List Keyword} {te ta : TE} {t tk : TA} {nm : Option Str}
structure KBinds (K : PySem.W.Frag) (fd : FuncData) (ps ks : List Str) (g : List Value → List Value → List Value) (gV : List V → List V → List V) : Prop where
 to : ∀ (s : Shared) (us ws : List Value), K.In s.heap → (g us ws).length = ps.length → BindsTo s fd ⟨us, ks.zip ws⟩ (ps.zip (g us ws))
 rel : ∀ {vs : List V} {us : List Value} {zs : List V} {ws : List Value}, Vals vs us → Vals zs ws → Vals (gV vs zs) (g us ws)
variable {g : List Value → List Value → List Value} {gV : List V → List V → List V}
end
structure FnScope (N P : List Str) (sc : Scope) : Prop where
 kind : sc.kind = .function
 co : sc.isCoroutine = false
 gen : sc.isGenerator = false
 nd : N.Nodup
 pre : N.take P.length = P
 par : ∀ x ∈ P, sc.names.lookup x = some .local ∨ sc.names.lookup x = some .cell
 nofree : ∀ y ∈ sc.names, y.2 ≠ .free
theorem fq7 {kindOf : Str → Option NameKind} {x : Str} : ∀ {binds : List (Str × Value)} {m : Str → Option Value}, (∀ v, (x, v) ∉ binds) → bindL kindOf binds m x = m x
 | [], _, _ => rfl
 | (n, v) :: r, m, h => by
  unfold bindL
  rw [fq7 fun w hw => h w (List.mem_cons_of_mem _ hw)]
  split
  ·have : x ≠ n := by rintro rfl; exact h v List.mem_cons_self
   simp [this]
  ·rfl
theorem fqM {kindOf : Str → Option NameKind} {x : Str} : ∀ {binds : List (Str × Value)} {m : Str → Option Value}, (∀ v, (x, v) ∉ binds) → bindC kindOf binds m x = m x
 | [], _, _ => rfl
 | (n, v) :: r, m, h => by
  unfold bindC
  rw [fqM fun w hw => h w (List.mem_cons_of_mem _ hw)]
  split
  ·rfl
  ·have : x ≠ n := by rintro rfl; exact h v List.mem_cons_self
   simp [this]
theorem fqI {kindOf : Str → Option NameKind} {x : Str} {v : Value} : ∀ {P : List Str} {vs : List Value} {i : Nat} {m : Str → Option Value}, P.Nodup → P[i]? = some x → vs[i]? = some v → kindOf x = some .local →
  bindL kindOf (P.zip vs) m x = some v
 | [], _, _, _, _, h, _, _ => by simp at h
 | _ :: _, [], _, _, _, _, h, _ => by simp at h
 | p :: P, w :: vs, 0, m, nd, h1, h2, hk => by
  simp at h1 h2; subst h1; subst h2
  show bindL kindOf ((p, w) :: P.zip vs) m p = _
  unfold bindL
  rw [fq7 fun v hv => (List.nodup_cons.mp nd).1 (List.of_mem_zip hv).1, if_pos hk]
  simp
 | p :: P, w :: vs, i + 1, m, nd, h1, h2, hk => by
  show bindL kindOf ((p, w) :: P.zip vs) m x = _
  unfold bindL
  exact fqI (i := i) (List.nodup_cons.mp nd).2 (by simpa using h1) (by simpa using h2) hk
theorem fqS {kindOf : Str → Option NameKind} {x : Str} {v : Value} : ∀ {P : List Str} {vs : List Value} {i : Nat} {m : Str → Option Value}, P.Nodup → P[i]? = some x → vs[i]? = some v → kindOf x ≠ some .local →
  bindC kindOf (P.zip vs) m x = some v
 | [], _, _, _, _, h, _, _ => by simp at h
 | _ :: _, [], _, _, _, _, h, _ => by simp at h
 | p :: P, w :: vs, 0, m, nd, h1, h2, hk => by
  simp at h1 h2; subst h1; subst h2
  show bindC kindOf ((p, w) :: P.zip vs) m p = _
  unfold bindC
  rw [fqM fun v hv => (List.nodup_cons.mp nd).1 (List.of_mem_zip hv).1, if_neg hk]
  simp
 | p :: P, w :: vs, i + 1, m, nd, h1, h2, hk => by
  show bindC kindOf ((p, w) :: P.zip vs) m x = _
  unfold bindC
  exact fqS (i := i) (List.nodup_cons.mp nd).2 (by simpa using h1) (by simpa using h2) hk
def start (N : List Str) (vs : List V) : St := vs.map some ++ List.replicate (N.length - vs.length) none
def cxOf (CX : CXT) (P : Program) (w : World) (K : PySem.W.Frag) (mg : Str → Option Value) (base : Heap) (N : List Str) (qual : Str) (scope : Scope) (f : Addr) (cd : Value) (A : Around) (outer : List Env) (s : Shared) (H : Hp) (E : XK) : Cx where
 prog := P
 w := w
 K := K
 mg := mg
 base := base
 A := A.deeper (envOfC qual scope s.heap.objs.size f cd)
 N := N
 s₀ := s
 H₀ := H
 env := envOfC qual scope s.heap.objs.size f cd
 outer := outer
 stack := envOfC qual scope s.heap.objs.size f cd :: outer
 ex := []
 calm := true
 fn := fun _ => true
 pn := []
 xe := fun e s' => wpAny (model P w) (A.deeper (envOfC qual scope s.heap.objs.size f cd)) (leaving (envOfC qual scope s.heap.objs.size f cd) e) (fun _ s'' => CX outer H s E e s'') (fun e' s'' => CX outer H s E e' s'') s'
theorem gqy {sc : Scope} {n : Nat} {x : Str} (h : sc.names.lookup x = some .cell) : ∃ c, (cellsFrom n sc.names []).lookup x = some c := by
 have q := PySem.W.cellsFrom_some sc.names n [] (.inl h)
 exact Option.isSome_iff_exists.mp q
theorem hqz {CX : CXT} {P : Program} {w : World} {K : PySem.W.Frag} {mg : Str → Option Value} {base : Heap} {N ps : List Str} {qual : Str} {scope : Scope} {f : Addr} {cd : Value} {A : Around} {outer : List Env} {s s1 : Shared} {H : Hp} {E : XK} {us : List Value} {vs : List V}
  (S : FnScope N ps scope) (hd : A.handled = none) (e0 : Env0 P w K mg base A outer s H) (hl : vs.length = ps.length) (r : Vals vs us)
  (x : InCallC s s.heap.objs.size (bindL (envOfC qual scope s.heap.objs.size f cd).kindOf (ps.zip us) fun _ => none) (cellsFrom (s.heap.objs.size + 1) scope.names []) (bindC (envOfC qual scope s.heap.objs.size f cd).kindOf (ps.zip us) fun _ => none) s1) :
  Inv (cxOf CX P w K mg base N qual scope f cd A outer s H E) [] (start N vs) H s1 := by
 have hpl : ps.length ≤ N.length := by have := congrArg List.length S.pre; rw [List.length_take] at this; omega
 obtain ⟨h1, tk, rfl, hk⟩ := x.done
 have noA : ∀ b : Addr, b ∉ (cxOf CX P w K mg base N qual scope f cd A outer s H E).ex := fun b z => absurd (show b ∈ ([] : List Addr) from z) (by simp)
 refine ⟨⟨e0.mod, S.kind, rfl, rfl, Nat.le_refl _, fun y z c h1 h2 => ?_, fun y hy => ?_, fun y c _ h => ?_, fun _ => hd, Around.frames_deeper e0.frames, .inr ⟨rfl, rfl⟩, fun b z => absurd z (noA b), e0.bs, e0.bsz, fun b _ _ => noA b, fun b z => absurd z (noA b), e0.funs, e0.frf⟩,
  rfl, e0.bare, Un.kept hk, ⟨_, x.toInCall.ns, fun i y v h1 h2 h3 => ?_⟩, fun y c h => ⟨_, x.cell y c h⟩, e0.hok.fresh (Nat.le_refl _), fun y c h => ?_, fun p hp => absurd (show p ∈ ([] : List (Addr × Obj)) from hp) (by simp), e0.hok.kept hk, ?_⟩
 ·exact name_of_addr x.apart (PySem.mem_of_lookup h1) (PySem.mem_of_lookup h2)
 ·have hy : scope.names.lookup y = some .cell ∨ scope.names.lookup y = some .free := hy
  rcases hy with hy | hy
  ·exact gqy hy
  ·exact absurd rfl (S.nofree _ (PySem.mem_of_lookup hy))
 ·exact Nat.le_of_lt (x.above y c (PySem.mem_of_lookup h))
 ·have hi : i < vs.length := by
   unfold start at h2
   by_cases hi : i < vs.length
   ·exact hi
   ·rw [List.getElem?_append_right (by simpa using hi)] at h2
    rw [List.getElem?_replicate] at h2
    split at h2 <;> cases h2
  have ha : vs[i]? = some v := by
   unfold start at h2
   rw [List.getElem?_append_left (by simpa using hi), List.getElem?_map] at h2
   cases e : vs[i]? with
   | none => rw [e] at h2; cases h2
   | some a => rw [e] at h2; cases h2; rfl
  obtain ⟨u, hu, rv⟩ := r.get ha
  have hp : ps[i]? = some y := by
   rw [← S.pre, List.getElem?_take_of_lt (by omega)]; exact h1
  have ndP : ps.Nodup := by rw [← S.pre]; exact S.nd.sublist (List.take_sublist _ _)
  refine ⟨u, rv, ?_⟩
  rcases S.par y (List.mem_of_getElem? hp) with k | k
  ·exact .inl ⟨k, fqI ndP hp hu k⟩
  ·obtain ⟨c, e⟩ := gqy (n := s.heap.objs.size + 1) k
   refine .inr ⟨.inl k, c, e, ?_⟩
   have q := x.cell y c e
   rw [fqS ndP hp hu (by show scope.names.lookup y ≠ _; rw [k]; decide)] at q
   exact q
 ·exact e0.hok.fresh (Nat.le_of_lt (x.above y c (PySem.mem_of_lookup h)))
 ·unfold start
  show _ = N.length
  rw [List.length_append, List.length_map, List.length_replicate]
  omega
theorem mqz {CX : CXT} {P : Program} {w : World} {K : PySem.W.Frag} {mg : Str → Option Value} {base : Heap} {k : Nat} {f : Addr} {name qual : Str} {params : Arguments} {body : List Stmt} {scope : Scope} {dV kV doc pm cdv ct oc : Value} {an od : Option Addr}
  {osl : Array (Option Value)} {N ps : List Str} {sp : Sp} (lk : K.lookup f = some ⟨oc, od, .func (PySem.W.fnOf name qual params body scope dV kV doc pm an cdv ct), osl⟩) (hcd : PySem.W.codeIn K cdv qual = true) (S : FnScope N ps scope)
  (len : ∀ vs H Q E, sp vs H Q E → vs.length = ps.length)
  (hbody : ∀ (A : Around) (outer : List Env) (s : Shared) (H : Hp) (vs : List V) (Q : VK) (E : XK), Room k (A.deeper (envOfC qual scope s.heap.objs.size f cdv)) → sp vs H Q E →
   ∃ t, PSs (cxOf CX P w K mg base N qual scope f cdv A outer s H E) body t ∧ t { nx := fun _ H' => Q .non H', rt := Q } (start N vs) H) :
  FnOk P w K mg base CX (k + 1) f (PySem.W.fnOf name qual params body scope dV kV doc pm an cdv ct) ps sp := by
 refine ⟨len, fun A outer s H args us vs Q E hr e0 hb r hsp => ?_⟩
 have hl := len _ _ _ _ hsp
 have KX : K.In s.heap := e0.mod.kin.keeps fun b o e => (e0.bs b o e).1
 have lim : s.heap.NoLimit := e0.mod.nolimit.keeps fun b o e => (e0.bs b o e).1
 have hkind : ∀ y ∈ ps.zip us, scope.names.lookup y.1 = some .local ∨ (scope.names.lookup y.1 = some .cell ∧ ((cellsFrom (s.heap.objs.size + 1) scope.names []).lookup y.1).isSome = true) := fun ⟨n, v⟩ hy => by
  rcases S.par n (List.of_mem_zip hy).1 with q | q
  ·exact .inl q
  ·exact .inr ⟨q, PySem.W.cellsFrom_some _ _ _ (.inl q)⟩
 refine codeAny_call_function hr.depth (KX _ _ lk) rfl S.co S.gen rfl (PySem.W.codeRec_of KX hcd) (hb _ _ _ _ ?_)
 refine wpAny_newFunctionEnv_cells S.kind hkind fun env he s1 x => ?_
 subst he
 refine ⟨lim.keeps x.toInCall.keep, codeAny_func ?_⟩
 obtain ⟨t, ht, hq⟩ := hbody A outer s H vs Q E (hr.deeper _) hsp
 have I : Inv (cxOf CX P w K mg base N qual scope f cdv A outer s H E) [] (start N vs) H s1 := hqz S hr.hd e0 hl r x
 refine wpAny_mono (ht [] s1 (start N vs) H _ I hq) (fun fl s' hs => ?_) fun e s' hs => hs
 have fin : ∀ {σ' : St} {H' : Hp} {v : V} {u : Value}, Inv (cxOf CX P w K mg base N qual scope f cdv A outer s H E) [] σ' H' s' → RelV v u → Q v H' → CE outer P w H s Q u s' :=
  fun {σ' H' v u} J rv q => ⟨v, H', J.os, J.bare, J.base, J.hok, rv, q⟩
 cases fl with
 | ret u =>
  obtain ⟨v, σ', H', J, rv, q⟩ := hs
  exact fin J rv q
 | next =>
  obtain ⟨σ', H', J, q⟩ := hs
  exact fin (v := V.non) (u := Value.none) J rfl q
 | brk =>
  obtain ⟨_, _, _, q⟩ := hs
  exact False.elim q
 | cont =>
  obtain ⟨_, _, _, q⟩ := hs
  exact False.elim q
section
variable {X : Cx} {x : Str} {p pos : Pos} {e : Expr} {es : List Expr} {t : TA} {id T : String} {r : List V → Hp → VK → Prop}
def tCB (r : List V → Hp → VK → Prop) (t : TA) : TE := fun σ H Q => t σ H fun vs H1 => r vs H1 Q
theorem aqs (hc : CallR X (.builtin id) r) (hg : Gl X x) (hm : X.mg x = none) (hv : bootBuiltins x = some (.builtin id)) (ha : PA X (e :: es) t) (hn : x ≠ "__name__" := by decide) (hdb : (x == ("__debug__" : Str)) = false := by decide)
  (he : starEach (e :: es) X.env = (false, eval e X.env) :: starEach es X.env := by rfl) (hpl : (backTo pos (starEach es X.env)).any (·.1) = false := by rfl) : PE X (.Call (.Name x p) (e :: es) [] pos) (tCB r t) := by
 intro pins s σ H Q I h
 refine wpAny_Call_Name_kw (eqE I hg hm hv ?_ hn hdb)
 exact PyProof.Rows.callWith_builtin1 (thn (ha pos pins s σ H _ I h) fun us s1 ⟨vs, H1, I1, r1, q1⟩ => hc pins s1 σ H1 vs us Q I1 r1 q1) he hpl
theorem cqC (hc : CallR X (.type T) r) (hg : Gl X x) (hm : X.mg x = none) (hv : bootBuiltins x = some (.type T)) (ha : PA X (e :: es) t) (hn : x ≠ "__name__" := by decide) (hdb : (x == ("__debug__" : Str)) = false := by decide)
  (he : starEach (e :: es) X.env = (false, eval e X.env) :: starEach es X.env := by rfl) (hpl : (backTo pos (starEach es X.env)).any (·.1) = false := by rfl) : PE X (.Call (.Name x p) (e :: es) [] pos) (tCB r t) := by
 intro pins s σ H Q I h
 refine wpAny_Call_Name_kw (eqE I hg hm hv ?_ hn hdb)
 exact PyProof.Rows.callWith_type1 (thn (ha pos pins s σ H _ I h) fun us s1 ⟨vs, H1, I1, r1, q1⟩ => hc pins s1 σ H1 vs us Q I1 r1 q1) he hpl
end
end L2
namespace HT
open PySem PyProof.Rows
section
open PySem.SeqAt
open PySem.AutoSeq1 (wpAny_loadPart')
open PySem.MeetsSeq PySem.MeetsSeq2 PySem.MeetsSeq3
end
section
variable {prog : Program} {w : World} {A : Around} {E : Value → Shared → Prop} {s : Shared}
theorem cat_tup {t b : Addr} {vs ws : List Value} {Q : Value → Shared → Prop} (ht : IsTup s.heap t vs.toArray) (hb : IsTup s.heap b ws.toArray) (hv : vs ≠ [])
  (h1 : ws = [] → Q (.ref t) s) (h2 : ws ≠ [] → Q (.ref s.heap.objs.size) { s with heap := s.heap.push { cls := .type "tuple", data := .seq (vs ++ ws).toArray } })
  (hsz : vs.length + ws.length ≤ sizeLine) : wpAny (model prog w) A (binaryOp .Add (.ref t) (.ref b)) Q E s := by
 obtain ⟨⟨cls, dd, data, sl⟩, ho, hc, n, hd⟩ := id ht
 obtain ⟨⟨cls2, dd2, data2, sl2⟩, ho2, hc2, n2, hd2⟩ := id hb
 simp only at hc hd hc2 hd2
 subst hc hd hc2 hd2
 have e : vs.toArray ++ ws.toArray = (vs ++ ws).toArray := by simp
 by_cases hw : ws = []
 ·exact concat_meets ⟨_, ho, rfl⟩ ⟨_, ho2, rfl⟩ noFill_tuple_add seq_tuple_add PySem.F.slot_tuple_add PySem.F.entry_tuple_add (PySem.F.args_tuple_add_2 _ _)
   (tuple_addW1 t b vs.toArray ws.toArray n n2 dd dd2 sl sl2 (by simpa using hv) (by simp [hw])) ⟨ho, ho2, h1 hw⟩
 ·refine concat_meets ⟨_, ho, rfl⟩ ⟨_, ho2, rfl⟩ noFill_tuple_add seq_tuple_add PySem.F.slot_tuple_add PySem.F.entry_tuple_add (PySem.F.args_tuple_add_2 _ _)
   (tuple_addW2 t b vs.toArray ws.toArray n n2 dd dd2 sl sl2 (by simpa using hv) (by simpa using hw) (by rw [List.size_toArray, List.size_toArray]; exact hsz)) ⟨ho, ho2, ?_⟩
  rw [e]
  exact h2 hw
def sIx (n d : Nat) : Option Int → Nat
 | none => d
 | some v => if v < 0 then (v + (n : Int)).toNat else min v.toNat n
theorem sIx_none (n d : Nat) : sIx n d none = d := rfl
theorem sIx_nat (n d k : Nat) : sIx n d (some (k : Int)) = min k n := by
 show (if (k : Int) < 0 then ((k : Int) + (n : Int)).toNat else min (k : Int).toNat n) = min k n
 rw [if_neg (by omega), Int.toNat_natCast]
theorem lqO (n d : Nat) (hd : d ≤ n) (o : Option Int) : sIx n d o ≤ n := by
 cases o with
 | none => exact hd
 | some v =>
  show (if v < 0 then (v + (n : Int)).toNat else min v.toNat n) ≤ n
  by_cases hv : v < 0
  ·rw [if_pos hv]; omega
  ·rw [if_neg hv]; exact Nat.min_le_right _ _
theorem hqS (v : Int) (n d : Nat) : (if v < 0 then max (v + (n : Int)) 0 else min v (n : Int)) = ((sIx n d (some v) : Nat) : Int) := by
 show (if v < 0 then max (v + (n : Int)) 0 else min v (n : Int)) = (((if v < 0 then (v + (n : Int)).toNat else min v.toNat n) : Nat) : Int)
 by_cases hv : v < 0
 ·simp only [if_pos hv]; omega
 ·simp only [if_neg hv]; omega
theorem hqe (lo hi : Option Int) (n : Nat) : Builtin.Slice.sliceAdjust lo hi 1 (n : Int) = (((sIx n 0 lo : Nat) : Int), ((sIx n n hi : Nat) : Int)) := by
 have h1 : ¬ ((1 : Int) < 0) := by omega
 unfold Builtin.Slice.sliceAdjust
 simp only [h1, if_false]
 refine Prod.ext ?_ ?_
 ·cases lo with
  | none => rfl
  | some v => exact hqS v n 0
 ·cases hi with
  | none => rfl
  | some v => exact hqS v n n
theorem hqc (i j : Nat) : Builtin.Slice.slicePlaces (i : Int) (j : Int) 1 = j - i := by
 unfold Builtin.Slice.slicePlaces
 have h1 : (1 : Int) > 0 := by omega
 simp only [h1, if_true, Int.ediv_one]
 split <;> omega
theorem eqO {v : Value} {o : Option Int} {Q : Option Int → Shared → Prop} (p : IsPart v o) (h : Q o s) : wpAny (model prog w) A (Builtin.Slice.slicePartIndex v) Q E s := by
 cases p with
 | none => exact slicePart_none h
 | int i t => exact slicePart_int h
theorem cqm {sl : Addr} {vl vu : Value} {lo hi : Option Int} {n : Nat} {Q : Int × Int × Nat → Shared → Prop} (hs : s.heap.IsSliceOf sl vl vu .none) (pl : IsPart vl lo) (pu : IsPart vu hi)
  (h : Q (((sIx n 0 lo : Nat) : Int), 1, sIx n n hi - sIx n 0 lo) s) : wpAny (model prog w) A (Builtin.Slice.sliceApplied (.ref sl) (pure (n : Int))) Q E s := by
 obtain ⟨os, hos, hcs, hds⟩ := id hs
 unfold Builtin.Slice.sliceApplied Builtin.Slice.sliceFields
 refine wpAny_bind (wpAny_bind (wpAny_field hos hds (x := vl) rfl (wpAny_bind (wpAny_field hos hds (x := vu) rfl (wpAny_bind (wpAny_field hos hds (x := .none) rfl (wpAny_pure ?_)))))))
 refine wpAny_bind (slicePart_none ?_)
 show wpAny _ _ (if ((1 : Int) == 0) = true then _ else _) _ _ s
 rw [if_neg (by decide)]
 refine wpAny_bind (eqO pl (wpAny_bind (eqO pu (wpAny_bind (wpAny_pure ?_)))))
 show wpAny _ _ (match Builtin.Slice.sliceAdjust lo hi 1 (n : Int) with | (lo, hi) => pure (lo, (1 : Int), Builtin.Slice.slicePlaces lo hi 1)) _ _ s
 rw [hqe lo hi n]
 show wpAny _ _ (pure (((sIx n 0 lo : Nat) : Int), (1 : Int), Builtin.Slice.slicePlaces ((sIx n 0 lo : Nat) : Int) ((sIx n n hi : Nat) : Int) 1)) _ _ s
 rw [hqc]
 exact wpAny_pure h
theorem jqn (xs : Array Value) (i k : Nat) : ((List.range k).filterMap fun (m : Nat) => xs[((i : Int) + (m : Int) * 1).toNat]?).toArray = ((xs.toList.drop i).take k).toArray := by
 have e : (fun (m : Nat) => xs[((i : Int) + (m : Int) * 1).toNat]?) = fun m => xs[i + m]? := by
  funext m
  have : ((i : Int) + (m : Int) * 1).toNat = i + m := by omega
  rw [this]
 rw [e]
 have := pick_run xs i k
 rw [List.filterMap_map] at this
 have e2 : ((fun x => xs[x]?) ∘ fun x => i + x) = fun m => xs[i + m]? := rfl
 rw [e2] at this
 rw [this]
theorem getItem_tuple_cut {t sl : Addr} {items : Array Value} {vl vu : Value} {lo hi : Option Int} {Q : Value → Shared → Prop} (ht : IsTup s.heap t items) (hs : s.heap.IsSliceOf sl vl vu .none) (pl : IsPart vl lo) (pu : IsPart vu hi)
  (hw : ¬ (sIx items.size 0 lo = 0 ∧ sIx items.size items.size hi = items.size))
  (h : Q (.ref s.heap.objs.size) { s with heap := s.heap.push { cls := .type "tuple", data := .seq ((items.toList.drop (sIx items.size 0 lo)).take (sIx items.size items.size hi - sIx items.size 0 lo)).toArray } })
  (hsz : items.size ≤ sizeLine) : wpAny (model prog w) A (getItem (.ref t) (.ref sl)) Q E s := by
 have htake : sizeOk (.seq ((items.toList.drop (sIx items.size 0 lo)).take (sIx items.size items.size hi - sIx items.size 0 lo)).toArray) := by
  show ((items.toList.drop (sIx items.size 0 lo)).take (sIx items.size items.size hi - sIx items.size 0 lo)).toArray.size ≤ sizeLine
  rw [List.size_toArray, List.length_take, List.length_drop, Array.length_toList]
  omega
 have hj : sIx items.size items.size hi ≤ items.size := lqO _ _ (Nat.le_refl _) hi
 obtain ⟨os, hos, hcs, hds⟩ := id hs
 have hTs : s.TypeIs (.ref sl) "slice" := ⟨os, hos, hcs⟩
 unfold getItem
 try with_reducible refine wpAny_holding ?_
 first | refine wpAny_bind (wpAny_pure ?_) | skip
 refine wpAny_bind (wpAny_sequenceKey ht.typeIs (by decide) ?_)
 refine wpAny_bind (wpAny_callSpecial?_slot (name := Str.ofString "__getitem__") ht.typeIs PyProof.Rows.slot_tuple_getitem
  (wpAny_call_entry PyProof.Rows.slot_tuple_getitem ht.typeIs entry_tuple_getitem ?_ (args_tuple_getitem _ _)))
 show wpAny _ _ (Builtin.Tuple.tupleItemsOf (.ref t) >>= _) _ _ s
 refine wpAny_bind (tupleItemsOf_ ht ?_)
 refine wpAny_bind (wpAny_typeOf hTs ?_)
 rw [if_pos (by decide)]
 refine wpAny_bind (cqm hs pl pu ?_)
 have hno : ¬ ((((sIx items.size 0 lo : Nat) : Int) == 0 && (1 : Int) == 1 && (sIx items.size items.size hi - sIx items.size 0 lo) == items.size) = true) := by
  intro q
  rw [Bool.and_eq_true, Bool.and_eq_true] at q
  have q1 : ((sIx items.size 0 lo : Nat) : Int) = 0 := eq_of_beq q.1.1
  have q2 : sIx items.size items.size hi - sIx items.size 0 lo = items.size := eq_of_beq q.2
  exact hw ⟨by omega, by omega⟩
 show wpAny _ _ (if (((sIx items.size 0 lo : Nat) : Int) == 0 && (1 : Int) == 1 && (sIx items.size items.size hi - sIx items.size 0 lo) == items.size) = true then _ else _) _ _ s
 rw [if_neg hno, jqn]
 first
  | exact wpAny_bind (m := Builtin.Tuple.tupleExact _) (wpAny_newObj_type (wpAny_pure ⟨_, rfl, wpAny_pure h⟩) htake)
  | exact wpAny_bind (m := Builtin.Tuple.tupleExact _) (wpAny_newObj_type (wpAny_bind (wpAny_pure (wpAny_pure ⟨_, rfl, wpAny_pure h⟩))) htake)
  | exact wpAny_bind (wpAny_bind (m := Builtin.Tuple.tupleExact _) (wpAny_newObj_type (wpAny_pure (wpAny_pure ⟨_, rfl, wpAny_pure h⟩)) htake))
  | exact wpAny_bind (wpAny_bind (m := Builtin.Tuple.tupleExact _) (wpAny_newObj_type (wpAny_pure ⟨_, rfl, wpAny_pure h⟩) htake))
end
end HT
namespace L2
open PySem PySem.Spec PyProof.Rows
abbrev TO := St → Hp → (Option Int → Hp → Prop) → Prop
def PO (X : Cx) (e : Option Expr) (t : TO) : Prop :=
 ∀ (pins : List (Addr × Obj)) (s : Shared) (σ : St) (H : Hp) (Q : Option Int → Hp → Prop), Inv X pins σ H s → t σ H Q →
  wpAny (model X.prog X.w) X.A (evalPart e X.env) (fun u s' => ∃ o H', Inv X pins σ H' s' ∧ IsPart u o ∧ Q o H') X.xe s
def tNoPart : TO := fun _ H Q => Q none H
def tPart (t : TE) : TO := fun σ H Q => t σ H fun x H1 => ∃ i, x = .int i ∧ Q (some i) H1
section
variable {X : Cx} {e : Expr} {te : TE} {lo hi : Option Expr} {tl th : TO} {pos p2 : Pos}
theorem fqh : PO X none tNoPart := by
 intro pins s σ H Q I h
 rw [evalPart_none]
 exact wpAny_pure ⟨none, H, I, .none, h⟩
theorem dqI (h : PE X e te) : PO X (some e) (tPart te) := by
 intro pins s σ H Q I hw
 rw [evalPart_some]
 refine thn (h pins s σ H _ I hw) fun u s1 W' => ?_
 obtain ⟨x, H1, I1, r1, q1⟩ := W'
 obtain ⟨i, rfl, q⟩ := q1
 obtain ⟨t, rfl⟩ := r1
 exact ⟨some i, H1, I1, .int i t, q⟩
def SlR (X : Cx) (r : V → Option Int → Option Int → Hp → VK → Prop) : Prop :=
 ∀ (pins : List (Addr × Obj)) (s : Shared) (σ : St) (H : Hp) (x : V) (v vl vu : Value) (lo hi : Option Int) (sl : Addr) (Q : VK), Inv X pins σ H s → RelV x v → s.heap.IsSliceOf sl vl vu .none → IsPart vl lo → IsPart vu hi → r x lo hi H Q →
  ∃ T id, typeLookup (.type T) "__getitem__" = pure (some (.builtin id)) ∧ s.TypeIs v T ∧ wpAny (model X.prog X.w) X.A (getItem v (.ref sl)) (EP X pins σ Q) X.xe s
def tSl (r : V → Option Int → Option Int → Hp → VK → Prop) (te : TE) (tl th : TO) : TE := fun σ H Q => te σ H fun x H1 => tl σ H1 fun l H2 => th σ H2 fun u H3 => r x l u H3 Q
theorem dqt {r : V → Option Int → Option Int → Hp → VK → Prop} (hr : SlR X r) (he : PE X e te) (hl : PO X lo tl) (hu : PO X hi th) : PE X (.Subscript e (.Slice lo hi none p2) pos) (tSl r te tl th) := by
 intro pins s σ H Q I h
 refine Subscript_ (thn (he pins s σ H _ I h) fun v s1 W' => ?_)
 obtain ⟨x, H1, I1, r1, q1⟩ := W'
 refine wpAny_Slice (thn (hl pins s1 σ H1 _ I1 q1) fun vl s2 ⟨l, H2, I2, pl, q2⟩ => thn (hu pins s2 σ H2 _ I2 q2) fun vu s3 W' => ?_)
 obtain ⟨u, H3, I3, pu, q3⟩ := W'
 rw [evalPart_none]
 refine wpAny_pure ?_
 have I4 : Inv X pins σ H3 { s3 with heap := s3.heap.push { cls := .type "slice", data := .fields #[vl, vu, .none] } } := I3.kept (t' := s3.toks) fun b ob q => Heap.get?_push_of_some _ q
 obtain ⟨T, id, hT, ht, hg⟩ := hr pins { s3 with heap := s3.heap.push { cls := .type "slice", data := .fields #[vl, vu, .none] } } σ H3 x v vl vu l u s3.heap.objs.size Q I4 r1 (Heap.IsSliceOf.new ..) pl pu q3
 show wpAny (model X.prog X.w) X.A (subscriptTail e (.Slice lo hi none p2) v (.ref s3.heap.objs.size)) (EP X pins σ Q) X.xe { s3 with heap := s3.heap.push { cls := .type "slice", data := .fields #[vl, vu, .none] } }
 exact tail_any (ops := [.ref s3.heap.objs.size, v]) ht hT hg (by with_unfolding_all rfl)
def cutV (xs : List V) (lo hi : Option Int) : List V := (xs.drop (HT.sIx xs.length 0 lo)).take (HT.sIx xs.length xs.length hi - HT.sIx xs.length 0 lo)
theorem eqB (xs : List V) (lo hi : Option Int) : (cutV xs lo hi).length ≤ xs.length := by
 unfold cutV
 rw [List.length_take, List.length_drop]
 omega
def rSlT (K : PySem.W.Frag) : V → Option Int → Option Int → Hp → VK → Prop := fun x lo hi H Q => ∃ a xs, x = .ref a ∧ SqT K H a xs ∧
 ¬ (HT.sIx xs.length 0 lo = 0 ∧ HT.sIx xs.length xs.length hi = xs.length) ∧ ∀ p, H p = none → Q (.ref p) (upd H p (.tup (cutV xs lo hi)))
theorem lqn : SlR X (rSlT X.K) := by
 intro pins s σ H x v vl vu lo hi sl Q I rx hs pl pu h
 obtain ⟨a, xs, rfl, hx, hw, q⟩ := h
 cases rx
 obtain ⟨its, r, ht, hz⟩ := I.tuple hx
 have hlen : its.toArray.size = xs.length := by rw [List.size_toArray]; exact r.length.symm
 refine ⟨"tuple", _, PyProof.Rows.slot_tuple_getitem.lookup, ht.typeIs, ?_⟩
 refine HT.getItem_tuple_cut ht hs pl pu (by rw [hlen]; exact hw) ?_ (by rw [hlen]; exact hz)
 rw [hlen]
 refine ⟨.ref s.heap.objs.size, _, I.laid (t' := s.toks) (o := .tup (cutV xs lo hi)) (fun b ob q => Heap.get?_push_of_some _ q) (Nat.le_refl _) ?_, rfl, q _ (I.hok.fresh (Nat.le_refl _))⟩
 exact ⟨Nat.le_trans (eqB xs lo hi) hz, _, (r.drop (HT.sIx xs.length 0 lo)).take (HT.sIx xs.length xs.length hi - HT.sIx xs.length 0 lo), IsTup.new _ _⟩
def rCatT (K : PySem.W.Frag) : R2 := fun x y H Q => ∃ a b xs ys, x = .ref a ∧ y = .ref b ∧ SqT K H a xs ∧ SqT K H b ys ∧ xs ≠ [] ∧ xs.length + ys.length ≤ sizeLine ∧
 (ys = [] → Q (.ref a) H) ∧ (ys ≠ [] → ∀ p, H p = none → Q (.ref p) (upd H p (.tup (xs ++ ys))))
theorem Vals.nil_iff {xs : List V} {us : List Value} (r : Vals xs us) : us = [] ↔ xs = [] := by
 cases r with
 | nil => simp
 | cons _ _ => simp
theorem jq7 : OpR X (binaryOp .Add) (rCatT X.K) := by
 intro pins s σ H x y v u Q I rx ry h
 obtain ⟨a, b, xs, ys, rfl, rfl, ha, hb, hx, hz, q1, q2⟩ := h
 cases rx
 cases ry
 obtain ⟨its, r1, p1, _⟩ := I.tuple ha
 obtain ⟨its2, r2, p2, _⟩ := I.tuple hb
 refine HT.cat_tup p1 p2 (fun z => hx (r1.nil_iff.mp z)) (fun z => ⟨.ref a, H, I, rfl, q1 (r2.nil_iff.mp z)⟩) (fun z => ?_) (by rw [← r1.length, ← r2.length]; exact hz)
 refine ⟨.ref s.heap.objs.size, _, I.laid (t' := s.toks) (o := .tup (xs ++ ys)) (fun b ob q => Heap.get?_push_of_some _ q) (Nat.le_refl _) ?_, rfl, q2 (fun w => z (r2.nil_iff.mpr w)) _ (I.hok.fresh (Nat.le_refl _))⟩
 exact ⟨by rw [List.length_append]; exact hz, _, r1.append r2, IsTup.new _ _⟩
end
def ixN (n : Nat) (i : Int) : Option Nat := if 0 ≤ i then (if i < n then some i.toNat else none) else if -(n : Int) ≤ i then some (i + n).toNat else none
def atI {α : Type} (xs : List α) (i : Int) : Option α := (ixN xs.length i).bind fun j => xs[j]?
theorem hqy {n : Nat} {i : Int} {j : Nat} (h : ixN n i = some j) : seqIndex? i n = some j ∧ j < n ∧ -(n : Int) ≤ i ∧ i < n := by
 unfold ixN at h
 by_cases h0 : 0 ≤ i
 ·rw [if_pos h0] at h
  by_cases h1 : i < n
  ·rw [if_pos h1] at h
   have e : i.toNat = j := Option.some.inj h
   exact ⟨by rw [seqIndex_of h0 h1, e], by omega, by omega, h1⟩
  ·rw [if_neg h1] at h; cases h
 ·rw [if_neg h0] at h
  by_cases h1 : -(n : Int) ≤ i
  ·rw [if_pos h1] at h
   have e : (i + n).toNat = j := Option.some.inj h
   exact ⟨by rw [seqIndex_neg (by omega) h1, e], by omega, h1, by omega⟩
  ·rw [if_neg h1] at h; cases h
theorem gqe {α : Type} {xs : List α} {i : Int} {v : α} (h : atI xs i = some v) : ∃ j, seqIndex? i xs.length = some j ∧ xs[j]? = some v ∧ j < xs.length ∧ -(xs.length : Int) ≤ i ∧ i < xs.length := by
 unfold atI at h
 cases e : ixN xs.length i with
 | none => rw [e] at h; cases h
 | some j =>
  rw [e] at h
  obtain ⟨h1, h2, h3, h4⟩ := hqy e
  exact ⟨j, h1, h, h2, h3, h4⟩
theorem aqf {α : Type} {xs : List α} {j : Nat} {v : α} (h : xs[j]? = some v) : atI xs (j : Int) = some v := by
 have hj : j < xs.length := (List.getElem?_eq_some_iff.mp h).1
 have e : ixN xs.length (j : Int) = some j := by
  unfold ixN
  rw [if_pos (by omega), if_pos (by omega)]; simp
 unfold atI; rw [e]; exact h
def PlainIx (b : Expr) : Prop := ∀ o i, subscripted b false o i = operate [o, i] (getItem o i)
def IxR (X : Cx) (r : R2) : Prop :=
 ∀ (value slice : Expr) (pins : List (Addr × Obj)) (s : Shared) (σ : St) (H : Hp) (x y : V) (v u : Value) (Q : VK), Inv X pins σ H s → RelV x v → RelV y u → r x y H Q →
  subscripted slice false v u = operate [v, u] (getItem v u) → wpAny (model X.prog X.w) X.A (subscriptTail value slice v u) (EP X pins σ Q) X.xe s
def MtR (X : Cx) (id : String) (r : V → List V → Hp → VK → Prop) : Prop :=
 ∀ (pins : List (Addr × Obj)) (s : Shared) (σ : St) (H : Hp) (x : V) (xs : List V) (v : Value) (us : List Value) (Q : VK), Inv X pins σ H s → RelV x v → Vals xs us → r x xs H Q →
  wpAny (model X.prog X.w) X.A (call (.builtin id) (v :: us)) (EP X pins σ Q) X.xe s
section
variable {X : Cx} {a b : Expr} {ta tb : TE} {pos : Pos}
theorem IxR.or {r r' : R2} (h : IxR X r) (h' : IxR X r') : IxR X (fun x y H Q => r x y H Q ∨ r' x y H Q) := by
 intro value slice pins s σ H x y v u Q I rx ry q hs
 rcases q with q | q
 ·exact h value slice pins s σ H x y v u Q I rx ry q hs
 ·exact h' value slice pins s σ H x y v u Q I rx ry q hs
theorem aqz {r : R2} (hr : IxR X r) (ha : PE X a ta) (hb : PE X b tb) (hs : PlainIx b) : PE X (.Subscript a b pos) (tOp r ta tb) := by
 intro pins s σ H Q I h
 exact Subscript_ (binT ha hb I h fun v u s2 x y H2 I2 rx ry q => hr a b pins s2 σ H2 x y v u Q I2 rx ry q (hs _ _))
def rIxL (K : PySem.W.Frag) : R2 := fun x y H Q => ∃ p xs i v, x = .ref p ∧ y = .int i ∧ SqL K H p xs ∧ atI xs i = some v ∧ Q v H
def rIxT (K : PySem.W.Frag) : R2 := fun x y H Q => ∃ p xs i v, x = .ref p ∧ y = .int i ∧ SqT K H p xs ∧ atI xs i = some v ∧ Q v H
def rIxS : R2 := fun x y H Q => ∃ z i c, x = .str z ∧ y = .int i ∧ z.length ≤ sizeLine ∧ atI z.cps.toList i = some c ∧ Q (.str ⟨#[c]⟩) H
theorem jq1 : IxR X (rIxL X.K) := by
 intro value slice pins s σ H x y v u Q I rx ry h hs
 obtain ⟨p, xs, i, z, rfl, rfl, hq, he, q⟩ := h
 cases rx
 obtain ⟨t, rfl⟩ := ry
 obtain ⟨its, r, pl, hz⟩ := I.list hq
 obtain ⟨j, h1, h2, h3, h4, h5⟩ := gqe he
 obtain ⟨w, ew, rw'⟩ := r.get h2
 have hl := r.length
 have hn := line63
 have fin : EP X pins σ Q w s := ⟨z, H, I, rw', q⟩
 by_cases h0 : 0 ≤ i
 ·have hj : i.toNat = j := by
   rw [seqIndex_of h0 h5] at h1
   exact Option.some.inj h1
  exact item_listR pl.isList h0 (by omega) (by rw [hj]; simpa using ew) fin hs
 ·have hj : (i + (its.toArray.size : Int)).toNat = j := by
   rw [seqIndex_neg (by omega) h4] at h1
   rw [List.size_toArray, ← hl]
   exact Option.some.inj h1
  exact subscriptTail_builtinR (x := w) pl.isList.typeIs slot_list_getitem.lookup
   (wpAny_getItem_list_neg (Q := fun r s' => r = w ∧ EP X pins σ Q r s') pl.isList (by omega) (by rw [List.size_toArray] <;> omega) (by omega) (by rw [hj]; simpa using ew) ⟨rfl, fin⟩) hs
theorem lqK : IxR X (rIxT X.K) := by
 intro value slice pins s σ H x y v u Q I rx ry h hs
 obtain ⟨p, xs, i, z, rfl, rfl, hq, he, q⟩ := h
 cases rx
 obtain ⟨t, rfl⟩ := ry
 obtain ⟨its, r, pl, hz⟩ := I.tuple hq
 obtain ⟨j, h1, h2, h3, h4, h5⟩ := gqe he
 obtain ⟨w, ew, rw'⟩ := r.get h2
 have hl := r.length
 have hn := line63
 have fin : EP X pins σ Q w s := ⟨z, H, I, rw', q⟩
 exact subscriptTail_builtinR (x := w) pl.typeIs slot_tuple_getitem.lookup
  (getItem_tuple (j := j) (Q := fun r s' => r = w ∧ EP X pins σ Q r s') pl (by omega) (by omega) (by rw [List.size_toArray, ← hl]; exact h1) (by simpa using ew) ⟨rfl, fin⟩) hs
theorem mqt : IxR X rIxS := by
 intro value slice pins s σ H x y v u Q I rx ry h hs
 obtain ⟨z, i, c, rfl, rfl, hz, he, q⟩ := h
 obtain ⟨t, rfl⟩ := rx
 obtain ⟨t', rfl⟩ := ry
 obtain ⟨j, h1, h2, h3, h4, h5⟩ := gqe he
 have hl : z.cps.toList.length = z.length := by simp [Str.length]
 rw [hl] at h1 h4 h5
 have hn := line63
 exact tail_any (typeIs_str s z t) slot_str_getitem.lookup (getItem_str (c := c) (by
  have e1 : decide (i < -(2 ^ 63 : Int)) = false := decide_eq_false (by omega)
  have e2 : decide (i ≥ 2 ^ 63) = false := decide_eq_false (by omega)
  rw [e1, e2, Bool.or_false]) (by rw [h1]; simpa using h2) ⟨.str ⟨#[c]⟩, H, I.tok _, ⟨_, rfl⟩, q⟩) hs
def rIx (K : PySem.W.Frag) : R2 := fun x y H Q => rIxL K x y H Q ∨ rIxT K x y H Q ∨ rIxS x y H Q
theorem lqc : IxR X (rIx X.K) := jq1.or (lqK.or mqt)
theorem gq3 (its : List Value) (n j : Nat) (u : Value) : Obj.mapSeq (·.setIfInBounds j u) { cls := .type "list", data := .seq its.toArray n } = { cls := .type "list", data := .seq (its.set j u).toArray n } := by
 simp [Obj.mapSeq]
theorem Inv.lst {pins : List (Addr × Obj)} {σ : St} {H : Hp} {s : Shared} {p : Addr} {xs : List V} (I : Inv X pins σ H s) (h : H p = some (.lst xs)) :
  ∃ (its : List Value) (n : Nat), Vals xs its ∧ s.heap.get? p = some { cls := .type "list", data := .seq its.toArray n } ∧ xs.length ≤ sizeLine := by
 obtain ⟨z, its, n, r, e⟩ := I.hok p _ h
 exact ⟨its, n, r, e, z⟩
theorem Inv.lstUpd {pins : List (Addr × Obj)} {σ : St} {H : Hp} {s : Shared} {p : Addr} {xs ys : List V} {its its' : List Value} {n n' : Nat} {f : Obj → Obj} (I : Inv X pins σ H s) (h : H p = some (.lst xs))
  (ho : s.heap.get? p = some { cls := .type "list", data := .seq its.toArray n }) (hf : f { cls := .type "list", data := .seq its.toArray n } = { cls := .type "list", data := .seq its'.toArray n' }) (r : Vals ys its') (hz : ys.length ≤ sizeLine) (t : Nat) :
  Inv X pins σ (upd H p (.lst ys)) { s with heap := s.heap.update p f, toks := t } := by
 have e : (s.heap.update p f).get? p = some { cls := .type "list", data := .seq its'.toArray n' } := by
  rw [Heap.get?_update_self f ho (by rw [hf] <;> rfl), hf]
 refine I.write (x := p) (e := p) (by rw [h]; trivial) (.inl rfl) (fun b u hb q => (Heap.get?_update_other _ _ (Ne.symm hb)).trans q) ⟨_, e⟩ ?_
 exact ⟨hz, its', n', r, e⟩
def rSetL : V → V → V → Hp → (Hp → Prop) → Prop := fun o i v H Q => ∃ p xs k j, o = .ref p ∧ i = .int k ∧ H p = some (.lst xs) ∧ ixN xs.length k = some j ∧ Q (upd H p (.lst (xs.set j v)))
theorem iqK : PSet X rSetL := by
 intro pins s σ H o i v ov iv u Q I ro ri rv h
 obtain ⟨p, xs, k, j, rfl, rfl, hp, hj, q⟩ := h
 cases ro
 obtain ⟨t, rfl⟩ := ri
 obtain ⟨its, n, r, ho, hz⟩ := I.lst hp
 obtain ⟨h1, h2, h3, h4⟩ := hqy hj
 have hl := r.length
 have hn := line63
 have I' : Inv X pins σ (upd H p (.lst (xs.set j v))) { s with heap := s.heap.update p (Obj.mapSeq (·.setIfInBounds j u)) } :=
  I.lstUpd hp ho (gq3 its n j u) (r.set rv j) (by rw [List.length_set]; exact hz) s.toks
 by_cases h0 : 0 ≤ k
 ·have hk : k.toNat = j := by
   rw [seqIndex_of h0 h4] at h1
   exact Option.some.inj h1
  exact PySem.W.ki_setAt ho h0 (by omega) (by rw [List.size_toArray, ← hl]; exact h4) (by rw [hk]; exact ⟨_, I', q⟩)
 ·have hk : (k + (its.toArray.size : Int)).toNat = j := by
   rw [seqIndex_neg (by omega) h3] at h1
   rw [List.size_toArray, ← hl]
   exact Option.some.inj h1
  exact PySem.W.ki_setBack ho (by omega) (by rw [List.size_toArray, ← hl]; exact h3) (by omega) (by rw [hk]; exact ⟨_, I', q⟩)
theorem fqD (lo hi : Option Int) (n : Nat) : (sliceBounds lo hi none n).1 = ((HT.sIx n 0 lo : Nat) : Int) ∧ (sliceBounds lo hi none n).2.1 = ((HT.sIx n n hi : Nat) : Int) ∧ (sliceBounds lo hi none n).2.2 = 1 := by
 refine ⟨?_, ?_, rfl⟩
 ·cases lo with
  | none => simp [sliceBounds, HT.sIx]
  | some i =>
   simp only [sliceBounds, HT.sIx, Option.getD_none, show (1 : Int) > 0 by decide, if_true]
   by_cases h : i < 0
   ·simp only [h, if_true] <;> omega
   ·simp only [h, if_false] <;> omega
 ·cases hi with
  | none => simp [sliceBounds, HT.sIx]
  | some i =>
   simp only [sliceBounds, HT.sIx, Option.getD_none, show (1 : Int) > 0 by decide, if_true]
   by_cases h : i < 0
   ·simp only [h, if_true] <;> omega
   ·simp only [h, if_false] <;> omega
theorem fqp (its : List Value) (lo hi : Option Int) : slicePick its.toArray lo hi none = ((its.drop (HT.sIx its.length 0 lo)).take (HT.sIx its.length its.length hi - HT.sIx its.length 0 lo)).toArray := by
 obtain ⟨h1, h2, h3⟩ := fqD lo hi its.toArray.size
 unfold slicePick
 rw [h1, h2, h3]
 simp only [sliceRange_one, pick_run, List.size_toArray] <;> rfl
def rSlL (K : PySem.W.Frag) : V → Option Int → Option Int → Hp → VK → Prop := fun x lo hi H Q => ∃ a xs, x = .ref a ∧ SqL K H a xs ∧ ∀ p, H p = none → Q (.ref p) (upd H p (.lst (cutV xs lo hi)))
theorem kqf : SlR X (rSlL X.K) := by
 intro pins s σ H x v vl vu lo hi sl Q I rx hs pl pu h
 obtain ⟨a, xs, rfl, hx, q⟩ := h
 cases rx
 obtain ⟨its, r, ht, hz⟩ := I.list hx
 have hlen := r.length
 refine ⟨"list", _, slot_list_getitem.lookup, ht.isList.typeIs, ?_⟩
 refine wpAny_getItem_list_slice ht.isList hs pl pu .none (by simp) ?_ (by rw [List.size_toArray] <;> omega)
 rw [fqp, ← hlen]
 refine ⟨.ref s.heap.objs.size, _, I.laid (t' := s.toks) (o := .lst (cutV xs lo hi)) (fun b ob q => Heap.get?_push_of_some _ q) (Nat.le_refl _) ?_, rfl, q _ (I.hok.fresh (Nat.le_refl _))⟩
 exact ⟨Nat.le_trans (eqB xs lo hi) hz, _, 0, (r.drop (HT.sIx xs.length 0 lo)).take (HT.sIx xs.length xs.length hi - HT.sIx xs.length 0 lo), Heap.get?_push_size _ rfl⟩
def flatV : V → Bool
 | .non => true
 | .bl _ => true
 | .int _ => true
 | .str _ => true
 | _ => false
def eqV : V → V → Bool
 | .non, .non => true
 | .bl a, .bl b => a == b
 | .bl a, .int b => (if a then 1 else 0) == b
 | .int a, .bl b => a == (if b then 1 else 0)
 | .int a, .int b => a == b
 | .str a, .str b => a == b
 | _, _ => false
theorem lqa {A : Around} {s : Shared} {y x : V} {u v : Value} (ry : RelV y u) (rx : RelV x v) (fy : flatV y = true) (fx : flatV x = true) : SeqAt.EqAt A s u v (eqV y x) := by
 cases y with
 | non =>
  cases ry
  cases x with
  | non => cases rx; exact SeqAt.EqAt.same _
  | bl b => cases rx; exact SeqAt.EqAt.none_bool b
  | int b => obtain ⟨t, rfl⟩ := rx; exact SeqAt.EqAt.none_int b t
  | str b => obtain ⟨t, rfl⟩ := rx; exact SeqAt.EqAt.none_str b t
  | _ => exact absurd (show false = true from fx) Bool.false_ne_true
 | bl a =>
  cases ry
  cases x with
  | non => cases rx; exact SeqAt.EqAt.bool_none a
  | bl b => cases rx; exact SeqAt.EqAt.bool_bool a b
  | int b => obtain ⟨t, rfl⟩ := rx; exact SeqAt.EqAt.bool_int a b t
  | str b => obtain ⟨t, rfl⟩ := rx; exact SeqAt.EqAt.bool_str a b t
  | _ => exact absurd (show false = true from fx) Bool.false_ne_true
 | int a =>
  obtain ⟨t', rfl⟩ := ry
  cases x with
  | non => cases rx; exact SeqAt.EqAt.int_none a t'
  | bl b => cases rx; exact SeqAt.EqAt.int_bool a t' b
  | int b => obtain ⟨t, rfl⟩ := rx; exact SeqAt.EqAt.int_int a t' b t
  | str b => obtain ⟨t, rfl⟩ := rx; exact SeqAt.EqAt.int_str a t' b t
  | _ => exact absurd (show false = true from fx) Bool.false_ne_true
 | str a =>
  obtain ⟨t', rfl⟩ := ry
  cases x with
  | non => cases rx; exact SeqAt.EqAt.str_none a t'
  | bl b => cases rx; exact SeqAt.EqAt.str_bool a t' b
  | int b => obtain ⟨t, rfl⟩ := rx; exact SeqAt.EqAt.str_int a t' b t
  | str b => obtain ⟨t, rfl⟩ := rx; exact SeqAt.EqAt.str_str a t' b t
  | _ => exact absurd (show false = true from fx) Bool.false_ne_true
 | _ => exact absurd (show false = true from fy) Bool.false_ne_true
def eqU (x : V) (u : Value) : Bool := match u with
 | .none => eqV .non x
 | .bool b => eqV (.bl b) x
 | .int i _ => eqV (.int i) x
 | .str z _ => eqV (.str z) x
 | _ => false
theorem jqy {x y : V} {u : Value} (r : RelV y u) (f : flatV y = true) : eqU x u = eqV y x := by
 cases y with
 | non => cases r; rfl
 | bl b => cases r; rfl
 | int i => obtain ⟨t, rfl⟩ := r; rfl
 | str z => obtain ⟨t, rfl⟩ := r; rfl
 | _ => exact absurd (show false = true from f) Bool.false_ne_true
theorem gqc {x : V} : ∀ {xs : List V} {us : List Value}, Vals xs us → xs.all flatV = true → us.any (eqU x) = xs.any fun y => eqV y x
 | _, _, .nil, _ => rfl
 | y :: xs, u :: us, .cons r t, f => by
  rw [List.all_cons, Bool.and_eq_true] at f
  rw [List.any_cons, List.any_cons, jqy r f.1, gqc t f.2]
theorem eq5 {A : Around} {s : Shared} {x : V} {v : Value} (rx : RelV x v) (fx : flatV x = true) : ∀ {xs : List V} {us : List Value}, Vals xs us → xs.all flatV = true → ∀ u ∈ us, SeqAt.EqAt A s u v (eqU x u)
 | _, _, .nil, _ => fun u hu => by cases hu
 | y :: xs, u :: us, .cons r t, f => fun u' hu => by
  rw [List.all_cons, Bool.and_eq_true] at f
  rcases List.mem_cons.mp hu with rfl | hu
  ·rw [jqy r f.1]; exact lqa r rx f.1 fx
  ·exact eq5 rx fx t f.2 u' hu
def inV (x : V) (xs : List V) : Bool := xs.any fun y => eqV y x
def rIn (K : PySem.W.Frag) (neg : Bool) : R2 := fun x y H Q => ∃ p xs, y = .ref p ∧ (SqL K H p xs ∨ SqT K H p xs) ∧ flatV x = true ∧ xs.all flatV = true ∧ Q (.bl (if neg then !inV x xs else inV x xs)) H
theorem iqf : OpR X (compareOp .In) (rIn X.K false) := by
 intro pins s σ H x y v u Q I rx ry h
 obtain ⟨p, xs, rfl, hq, fx, fs, q⟩ := h
 cases ry
 rcases hq with hq | hq
 ·obtain ⟨its, r, pl, hz⟩ := I.list hq
  refine SeqAt.in_listAt (eqU x) pl.isList (fun w hw => eq5 rx fx r fs w (by simpa using hw)) ⟨.bl _, H, I, rfl, ?_⟩
  rw [show its.toArray.any (eqU x) = its.any (eqU x) by simp, gqc r fs]
  exact q
 ·obtain ⟨its, r, pl, hz⟩ := I.tuple hq
  refine SeqAt.in_tupleAt (eqU x) pl (fun w hw => eq5 rx fx r fs w (by simpa using hw)) ⟨.bl _, H, I, rfl, ?_⟩
  rw [show its.toArray.any (eqU x) = its.any (eqU x) by simp, gqc r fs]
  exact q
theorem fq3 : CallR X (.builtin "len") (fun xs H Q => ∃ p ys, xs = [.ref p] ∧ (SqL X.K H p ys ∨ SqT X.K H p ys) ∧ Q (.int ys.length) H) := by
 intro pins s σ H xs us Q I r h
 obtain ⟨p, ys, rfl, hq, q⟩ := h
 obtain ⟨u, rfl, rx⟩ := vals1 r
 cases rx
 have hn := line63
 rcases hq with hq | hq
 ·obtain ⟨its, r', pl, hz⟩ := I.list hq
  have hlen := r'.length
  exact Calls.call_len_list pl.isList (by simp only [List.size_toArray] <;> omega) ⟨.int ys.length, H, I.tok _, ⟨s.toks + 1, by rw [List.size_toArray, hlen]⟩, q⟩
 ·obtain ⟨its, r', pl, hz⟩ := I.tuple hq
  have hlen := r'.length
  exact len_tuple pl (by simp only [List.size_toArray] <;> omega) ⟨.int ys.length, H, I.tok _, ⟨s.toks + 1, by rw [List.size_toArray, hlen]⟩, q⟩
theorem fqW : CallR X (.builtin "len") (fun xs H Q => ∃ z, xs = [.str z] ∧ z.length ≤ sizeLine ∧ Q (.int z.length) H) := by
 intro pins s σ H xs us Q I r h
 obtain ⟨z, rfl, hz, q⟩ := h
 obtain ⟨u, rfl, t, rfl⟩ := vals1 r
 have hn := line63
 exact len_str (by omega) ⟨.int z.length, H, I.tok _, ⟨_, rfl⟩, q⟩
theorem fq2 : CallR X (.type "list") (fun xs H Q => ∃ p ys, xs = [.ref p] ∧ (SqL X.K H p ys ∨ SqT X.K H p ys) ∧ ∀ l, H l = none → Q (.ref l) (upd H l (.lst ys))) := by
 intro pins s σ H xs us Q I r h
 obtain ⟨p, ys, rfl, hq, q⟩ := h
 obtain ⟨u, rfl, rx⟩ := vals1 r
 cases rx
 have fin : ∀ (its : List Value), Vals ys its → ys.length ≤ sizeLine → ∀ (h' : Heap) (c' : Nat), (∀ b o', s.heap.get? b = some o' → h'.get? b = some o') →
   h'.get? s.heap.objs.size = some { cls := .type "list", dict := none, data := .seq its.toArray c', slots := #[] } → EP X pins σ Q (.ref s.heap.objs.size) { s with heap := h' } := fun its r' hz h' c' kp e =>
  ⟨.ref s.heap.objs.size, _, I.laid (t' := s.toks) kp (Nat.le_refl _) (show ObjOk X.prog X.w _ h' _ (.lst ys) from ⟨hz, its, c', r', e⟩), rfl, q _ (I.hok.fresh (Nat.le_refl _))⟩
 rcases hq with hq | hq
 ·obtain ⟨its, r', pl, hz⟩ := I.list hq
  have hlen := r'.length
  obtain ⟨o, ho, hc, n, hd⟩ := pl.isList
  exact call_list_seq p (.inl rfl) ho hc hd (fun h' c' kp e => fin its r' hz h' c' kp e) (by simp only [List.size_toArray] <;> omega)
 ·obtain ⟨its, r', pl, hz⟩ := I.tuple hq
  have hlen := r'.length
  obtain ⟨o, ho, hc, n, hd⟩ := pl
  exact call_list_seq p (.inr rfl) ho hc hd (fun h' c' kp e => fin its r' hz h' c' kp e) (by simp only [List.size_toArray] <;> omega)
theorem dqq : CallR X (.type "tuple") (fun xs H Q => ∃ p ys, xs = [.ref p] ∧ ((SqL X.K H p ys ∧ ∀ l, H l = none → Q (.ref l) (upd H l (.tup ys))) ∨ (SqT X.K H p ys ∧ Q (.ref p) H))) := by
 intro pins s σ H xs us Q I r h
 obtain ⟨p, ys, rfl, h⟩ := h
 obtain ⟨u, rfl, rx⟩ := vals1 r
 cases rx
 rcases h with ⟨hq, q⟩ | ⟨hq, q⟩
 ·obtain ⟨its, r', pl, hz⟩ := I.list hq
  have hlen := r'.length
  refine call_tuple_list pl.isList (fun h' kp => ?_) (by simp only [List.size_toArray] <;> omega)
  have I1 : Inv X pins σ H { s with heap := h' } := I.kept (t' := s.toks) kp
  have I2 : Inv X pins σ (upd H h'.objs.size (.tup ys)) { s with heap := h'.push { cls := .type "tuple", data := .seq its.toArray } } :=
   I1.laid (t' := s.toks) (fun b o e => Heap.get?_push_of_some _ e) (Nat.le_refl _) (show ObjOk X.prog X.w _ _ _ (.tup ys) from ⟨hz, its, r', IsTup.new _ _⟩)
  exact ⟨.ref h'.objs.size, _, I2, rfl, q _ (I1.hok.fresh (Nat.le_refl _))⟩
 ·obtain ⟨its, r', pl, hz⟩ := I.tuple hq
  exact call_tuple_same pl ⟨.ref p, H, I, rfl, q⟩
def tyV (K : PySem.W.Frag) (T : String) (x : V) (H : Hp) : Prop := match x with
 | .str _ => T = "str"
 | .int _ => T = "int"
 | .ref p => (T = "list" ∧ ∃ xs, SqL K H p xs) ∨ (T = "tuple" ∧ ∃ o, K.lookup p = some o ∧ o.cls = .type "tuple" ∧ o.dict = none) ∨
   (T = "dict" ∧ ((∃ kvs, H p = some (.dK kvs)) ∨ ∃ kvs, H p = some (.dT kvs))) ∨ (T = "set" ∧ ∃ S n, H p = some (.set S n))
 | _ => False
theorem lqs {pins : List (Addr × Obj)} {σ : St} {H : Hp} {s : Shared} {T : String} {x : V} {v : Value} (I : Inv X pins σ H s) (r : RelV x v) (ty : tyV X.K T x H) :
  s.TypeIs v T ∧ ∀ a, v = .ref a → ∃ ob, s.heap.get? a = some ob ∧ ob.dict = none := by
 cases x with
 | str z =>
  obtain ⟨t, rfl⟩ := r
  cases (show T = "str" from ty)
  exact ⟨typeIs_str s z t, fun _ e => nomatch e⟩
 | int i =>
  obtain ⟨t, rfl⟩ := r
  cases (show T = "int" from ty)
  exact ⟨typeIs_int s i t, fun _ e => nomatch e⟩
 | ref p =>
  cases r
  rcases ty with ⟨rfl, xs, hq⟩ | ⟨rfl, o, hk, hc, hd⟩ | ⟨rfl, hk⟩ | ⟨rfl, S, n, hk⟩
  ·obtain ⟨its, _, pl, _⟩ := I.list hq
   refine ⟨pl.isList.typeIs, fun a e => ?_⟩
   cases e
   obtain ⟨o, n, e, c, hd, _⟩ := pl
   exact ⟨o, e, hd⟩
  ·refine ⟨⟨o, I.kIn p o hk, hc⟩, fun a e => ?_⟩
   cases e
   exact ⟨o, I.kIn _ o hk, hd⟩
  ·have z : ∃ o, s.heap.get? p = some o ∧ o.ExactDict := by
    rcases hk with ⟨kvs, hk⟩ | ⟨kvs, hk⟩
    ·obtain ⟨_, _, _, _, o, _, _, e, ex, _⟩ := I.hok p _ hk
     exact ⟨o, e, ex⟩
    ·obtain ⟨_, _, _, _, o, _, _, e, ex, _⟩ := I.hok p _ hk
     exact ⟨o, e, ex⟩
   obtain ⟨o, e, ex⟩ := z
   refine ⟨⟨o, e, ex.1⟩, fun a e2 => ?_⟩
   cases e2
   exact ⟨o, e, ex.2.1⟩
  ·obtain ⟨o, _, _, _, e, ex, _⟩ := I.hok p _ hk
   refine ⟨⟨o, e, ex.1⟩, fun a e2 => ?_⟩
   cases e2
   exact ⟨o, e, ex.2.1⟩
 | _ => exact False.elim ty
def tBM0 (K : PySem.W.Frag) (T : String) (r : V → List V → Hp → VK → Prop) (to : TE) : TE := fun σ H Q => to σ H fun x H1 => tyV K T x H1 ∧ r x [] H1 Q
def tBM (K : PySem.W.Frag) (T : String) (r : V → List V → Hp → VK → Prop) (to : TE) (t : TA) : TE := fun σ H Q => to σ H fun x H1 => tyV K T x H1 ∧ t σ H1 fun xs H2 => r x xs H2 Q
variable {o e : Expr} {es : List Expr} {to : TE} {t : TA} {name : Str} {apos cpos : Pos} {T id : String} {r : V → List V → Hp → VK → Prop}
theorem mqv (pa : PlainAttrs T) (slot : Slot T name id) (hty : typeOf (.builtin id) = pure (.type "method_descriptor")) (hm : MtR X id r) (ho : PE X o to) (ha : PA X (e :: es) t)
  (hbase : attributeBase o name X.env (eval o X.env) = eval o X.env := by rfl)
  (hfew : ((backTo cpos (starEach (e :: es) X.env)).all (fun x => !x.1) && (backToKw cpos (keywordEach [] X.env)).all (fun x => x.1.isSome)
   && decide ((e :: es).length + ([] : List Keyword).length + (if ([] : List Keyword).isEmpty then 0 else 1) < 30)) = true := by rfl)
  (hline : (apos.endLine == cpos.line) = true := by rfl) (hs : starEach (e :: es) X.env = (false, eval e X.env) :: starEach es X.env := by rfl) (hplain : (backTo cpos (starEach es X.env)).any (·.1) = false := by rfl) :
  PE X (.Call (.Attribute o name apos) (e :: es) [] cpos) (tBM X.K T r to t) := by
 intro pins s σ H Q I h
 refine wpAny_Call_method_late hbase hfew hline rfl (thn (ho pins s σ H _ I h) fun v s1 W' => ?_)
 obtain ⟨x, H1, I1, r1, ty, q1⟩ := W'
 obtain ⟨h1, h2⟩ := lqs I1 r1 ty
 refine ⟨T, id, pa, slot, hty, h1, h2, ?_⟩
 have hA := ha cpos pins s1 σ H1 _ I1 q1
 rw [hs] at hA ⊢
 refine Calls.callWith_builtin (by show (false || (backTo cpos (starEach es X.env)).any (·.1)) = false; rw [hplain] <;> rfl) (Calls.evalArgs_plain ?_)
 exact thn hA fun us s2 ⟨vs, H2, I2, r2, q2⟩ => hm pins s2 σ H2 x vs v us Q I2 r1 r2 q2
end
def MtM (X : Cx) (id : String) (r : V → List V → Hp → VK → Prop) : Prop :=
 ∀ (pins : List (Addr × Obj)) (s : Shared) (σ : St) (H : Hp) (x : V) (xs : List V) (v : Value) (us : List Value) (Q : VK), Inv X pins σ H s → RelV x v → Vals xs us → r x xs H Q →
  wpAny (model X.prog X.w) X.A (call (.builtin id) (v :: us)) (EP X pins σ Q) X.xe s
theorem Vals.one : ∀ {x : V} {us : List Value}, Vals [x] us → ∃ u, us = [u] ∧ RelV x u
 | _, _, .cons r .nil => ⟨_, rfl, r⟩
section
variable {X : Cx} {pins : List (Addr × Obj)} {σ : St} {H : Hp} {s : Shared} {l b : Addr} {xs ys zs : List V}
theorem Inv.lset {its its' : List Value} {n : Nat} {f : Array Value → Array Value} {t' : Nat} (I : Inv X pins σ H s) (hH : H l = some (.lst xs))
  (e : s.heap.get? l = some { cls := .type "list", data := .seq its.toArray n }) (hf : f its.toArray = its'.toArray) (hv : Vals ys its') (hz : ys.length ≤ sizeLine) :
  Inv X pins σ (upd H l (.lst ys)) { s with heap := s.heap.update l (Obj.mapSeq f), toks := t' } := by
 have q := PySem.IsL.update e f
 rw [hf] at q
 refine I.write (x := l) (e := l) (by rw [hH]; exact trivial) (.inl rfl) (fun b' u hb hu => (Heap.get?_update_other s.heap (Obj.mapSeq f) (Ne.symm hb)).trans hu) ⟨_, q⟩ ?_
 exact ⟨hz, its', _, hv, q⟩
theorem Inv.lnew {its : List Value} {t' : Nat} (I : Inv X pins σ H s) (hv : Vals ys its) (hz : ys.length ≤ sizeLine) :
  Inv X pins σ (upd H s.heap.objs.size (.lst ys)) { s with heap := s.heap.push { cls := .type "list", data := .seq its.toArray }, toks := t' } :=
 I.laid (fun _ _ q => Heap.get?_push_of_some _ q) (Nat.le_refl _) ⟨hz, its, 0, hv, Heap.get?_push_size _ rfl⟩
theorem Inv.fresh (I : Inv X pins σ H s) : H s.heap.objs.size = none := I.hok.fresh (Nat.le_refl _)
theorem Inv.lstM (I : Inv X pins σ H s) (hH : H l = some (.lst xs)) : xs.length ≤ sizeLine ∧ ∃ (its : List Value) (n : Nat), Vals xs its ∧ xs.length = its.length ∧ s.heap.get? l = some { cls := .type "list", data := .seq its.toArray n } := by
 obtain ⟨z, its, n, r, e⟩ := I.hok l _ hH
 exact ⟨z, its, n, r, r.length, e⟩
end
section
variable {X : Cx}
def rAppend : V → List V → Hp → VK → Prop := fun x vs H Q => ∃ l xs y, x = .ref l ∧ vs = [y] ∧ H l = some (.lst xs) ∧ xs.length < sizeLine ∧ Q .non (upd H l (.lst (xs ++ [y])))
theorem eqw : MtM X "list.append" rAppend := by
 intro pins s σ H x vs v us Q I rx rv h
 obtain ⟨l, xs, y, rfl, rfl, hH, hz, q⟩ := h
 cases rx
 obtain ⟨u, rfl, ru⟩ := rv.one
 obtain ⟨z, its, n, r, hl, e⟩ := I.lstM hH
 refine call_meets F.slot_list_append ⟨_, e, rfl⟩ F.entry_list_append (F.args_list_append_2 _ _) (PySem.list_append l its.toArray n u (by rw [List.size_toArray]; omega)) ⟨e, ?_⟩
 refine ⟨.non, _, I.lset (its' := its ++ [u]) hH e (by simp) (r.append (.cons ru .nil)) ?_, rfl, q⟩
 rw [List.length_append, List.length_singleton]
 omega
def rExtend : V → List V → Hp → VK → Prop := fun x vs H Q => ∃ l b xs zs, x = .ref l ∧ vs = [.ref b] ∧ H l = some (.lst xs) ∧ H b = some (.lst zs) ∧ xs.length + zs.length ≤ sizeLine ∧ Q .non (upd H l (.lst (xs ++ zs)))
def rPop : V → List V → Hp → VK → Prop := fun x vs H Q => ∃ l xs y, x = .ref l ∧ vs = [] ∧ H l = some (.lst xs) ∧ xs[xs.length - 1]? = some y ∧ Q y (upd H l (.lst xs.dropLast))
def rPopAt : V → List V → Hp → VK → Prop := fun x vs H Q => ∃ l xs i k y, x = .ref l ∧ vs = [.int i] ∧ H l = some (.lst xs) ∧ -(2 ^ 63) ≤ i ∧ i < 2 ^ 63 ∧ seqIndex? i xs.length = some k ∧ xs[k]? = some y ∧ Q y (upd H l (.lst (xs.eraseIdx k)))
def rReverse : V → List V → Hp → VK → Prop := fun x vs H Q => ∃ l xs, x = .ref l ∧ vs = [] ∧ H l = some (.lst xs) ∧ Q .non (upd H l (.lst xs.reverse))
def rCat : R2 := fun x y H Q => ∃ l b xs zs, x = .ref l ∧ y = .ref b ∧ H l = some (.lst xs) ∧ H b = some (.lst zs) ∧ xs.length + zs.length ≤ sizeLine ∧ ∀ p, H p = none → Q (.ref p) (upd H p (.lst (xs ++ zs)))
theorem lqp : OpR X (binaryOp .Add) rCat := by
 intro pins s σ H x y v u Q I rx ry h
 obtain ⟨l, b, xs, zs, rfl, rfl, hH, hB, hz, q⟩ := h
 cases rx
 cases ry
 obtain ⟨z, its, n, r, hl, e⟩ := I.lstM hH
 obtain ⟨z2, its2, n2, r2, hl2, e2⟩ := I.lstM hB
 refine PySem.P.add_list e e2 ?_ (by rw [List.size_toArray, List.size_toArray]; omega)
 have ea : its.toArray ++ its2.toArray = (its ++ its2).toArray := by simp
 rw [ea]
 exact ⟨.ref _, _, I.lnew (t' := s.toks) (r.append r2) (by rw [List.length_append]; omega), rfl, q _ I.fresh⟩
end
section
variable {prog : Program} {w : World} {A : Around} {E : Value → Shared → Prop} {s : Shared}
set_option maxRecDepth 100000 in
end
section
variable {X : Cx}
end
end L2
namespace Att
open PySem PySem.W PySem.Calls PyProof.Rows
theorem eqI {P : Params} {h : Heap} : ∀ (ns : List Int) (vs : List Value), WellAll P h vs (ns.map WData.int) → IntsAre vs ns := by
 intro ns
 induction ns with
 | nil =>
  intro vs w
  rw [List.map_nil] at w
  cases w
  exact .nil
 | cons n ns ih =>
  intro vs w
  rw [List.map_cons] at w
  cases w with
  | cons a b =>
   cases a
   exact .cons _ _ (ih _ b)
theorem hqH {l : OpenLaw} {n : Nat} (hn : l.most = some n) {P : Params} {h : Heap} {args : List WData} {vals : List Value}
  (hpre : l.row.toRowW.claim.pre args = true) (hwl : WellAll P h vals args) :
  ∃ a vs ns, vals = [Value.ref a] ∧ args = [WData.list (ns.map WData.int)] ∧ h.get? a = some { cls := .type "list", data := .seq vs.toArray } ∧ IntsAre vs ns ∧ ns.length ≤ n := by
 have hsh : WShape.hasAll [] args [.list .int] = true := (pre_splitW hpre).1
 have hc : l.pre.holds [] { args := args } = true := (pre_splitW hpre).2
 obtain ⟨d, r, rfl, h1, h2⟩ := hasAllW_cons hsh
 obtain rfl := hasAllW_nil h2
 obtain ⟨xs, rfl, h3⟩ := hasW_list h1
 obtain ⟨ns, rfl⟩ := items_int h3
 have hlen : ns.length ≤ n := by
  unfold OpenLaw.pre at hc
  have h4 : (WTm.not (.lt (.lit (.int (n : Int))) (.len (.arg 0)))).holds [] { args := [.list (ns.map .int)] } = true := by
   have h4 := (holds_andW hc).1
   rw [hn] at h4
   exact h4
  have h5 := condW_of h4 (w_not (w_lt w_lit (w_len_list (w_arg rfl))))
  rw [List.length_map] at h5
  refine Nat.le_of_not_lt fun q => ?_
  have q' : (n : Int) < ((ns.length : Nat) : Int) := by omega
  first
   | (rw [decide_eq_true q'] at h5; exact absurd h5 (by decide))
   | (simp at h5; omega)
 cases hwl with
 | cons w1 w2 =>
  cases w2
  cases w1 with
  | list ho hall => exact ⟨_, _, ns, rfl, rfl, ho, eqI ns _ hall, hlen⟩
theorem hqu (l : OpenLaw) (args : List WData) : l.row.toRowW.claim.post args (.bool true) args = true :=
 postW_of (r := l.row.toRowW) (X := (true == true))
  (show WShape.has [] (.bool true) .bool = true by first | rfl | decide | simp [WShape.has, WShape.arms, WShape.armsAll])
  (show (WTm.eq .res (.lit (.bool true))).value [] { args := args, res := some (.bool true), after := args } = some (.bool (true == true)) from w_eq_bool (w_res rfl) w_lit) rfl
theorem attach_call {l : OpenLaw} {n : Nat} {q : Program} {loose : List Str} {XP : (Str → Option Value) → Heap → Prop} {YP : World → Heap → Prop} {d : DefRec}
  (hn : l.most = some n) (hdf : d.params.defaults = [])
  (call : ∀ (w : World) (s₀ s₁ : Shared) (mg mb : Str → Option Value) (fa : Addr) (o : Obj) (pm cd doc : Value) (a : Addr) (vs : List Value) (ns : List Int),
   Ground q loose [] XP w s₀ mg mb s₁.heap → YP w s₁.heap →
   s₁.heap.get? fa = some o → o.data = .func (docDef d.name d.params d.body d.scope pm cd doc) → s₁.heap.CodeRec cd d.name → mg d.name = some (.ref fa) →
   s₁.heap.get? a = some { cls := .type "list", data := .seq vs.toArray } → IntsAre vs ns → ns.length ≤ n → s₁.gens = #[] →
   codeAny (model l.prog w) callerA (.call (.ref fa) ⟨[.ref a], []⟩) (fun r s' => r = .ok (.ret (.bool true)) ∧ OldK s₁.heap s'.heap ∧ s'.os = s₁.os ∧ AllBare s'.gens) s₁) :
  WalkO q loose XP YP l.row.toRowW d [] (fun f vs => PySem.call f vs) := by
 intro w s₀ s₁ mg mb G Y fa o pm cd doc dV kV ho hd hcd hD hmg hg args vals as hpre hlay hrd hwl hlo
 obtain rfl : dV = .none := Dflts.none hD hdf
 obtain rfl : kV = .none := Dflts.noKw hD
 obtain ⟨a, vs, ns, rfl, rfl, hobj, hints, hlen⟩ := hqH hn hpre hwl
 refine enter_call (codeAny_mono (call w s₀ s₁ mg mb fa o pm cd doc a vs ns G Y ho (fd_plain hd) hcd hmg hobj hints hlen hg) fun r s' hq => ?_)
 obtain ⟨rfl, h2, h3, h4⟩ := hq
 exact ⟨.inl ⟨.bool true, .bool true, [], rfl, fun _ => rfl, .bool true, hqu l _, fun _ => ⟨List.Pairwise.nil, fun _ hm => (nomatch hm)⟩⟩, h2, h3, h4⟩
section
variable {prog : Program} {w : World} {A : Around} {E : Value → Shared → Prop} {s : Shared} {K : Frag}
def ledger (h : Heap) (L d : Addr) : List (Addr × Obj) := (List.range h.objs.size).filterMap fun a => if a = L ∨ a = d then none else (h.get? a).map fun o => (a, o)
end
end Att
namespace L2
open PySem PySem.Spec PyProof.Rows
theorem fqZ : ∀ {vs : List Value} {ns : List Int}, IntsAre vs ns → Vals (ns.map V.int) vs
 | _, _, .nil => .nil
 | _, _, .cons n t h => .cons ⟨t, rfl⟩ (fqZ h)
def Only (H : Hp) : Prop := ∀ b, H b = none ∨ ∃ o xs, H b = some (.frz o (.lst xs))
theorem jqo {P : Program} {w : World} {K : PySem.W.Frag} {mg mb : Str → Option Value} {CX : CXT} {k : Nat} {fa a : Addr} {fd : FuncData} {x : Str} {sp : Sp} {s₁ : Shared} {vs : List Value} {ns : List Int}
  (KX : K.In s₁.heap) (hns : s₁.heap.Ns mainGlobals mg) (hb : s₁.heap.Ns builtinsNs mb) (hbb : ∀ x : Str, x ≠ "__name__" → mb x = bootBuiltins x) (hlim : s₁.heap.NoLimit) (hg : s₁.gens = #[])
  (ha : s₁.heap.get? a = some { cls := .type "list", data := .seq vs.toArray }) (hi : IntsAre vs ns) (hl : ns.length ≤ sizeLine) (hr : Room k callerA)
  (F : ∀ base : Heap, K.In base → base.Ns mainGlobals mg → FnOk P w K mg base CX k fa fd [x] sp) (hbind : ∀ (s : Shared) (u : Value), BindsTo s fd ⟨[u], []⟩ [(x, u)])
  (hsp : ∀ H : Hp, Only H → SqL K H a (ns.map V.int) → sp [.ref a] H (fun v _ => v = .bl true) fun _ _ _ => False)
  (hCX : ∀ H e s', CX [] H s₁ (fun _ _ _ => False) e s' → False) :
  codeAny (model P w) callerA (.call (.ref fa) ⟨[.ref a], []⟩) (fun r s' => r = .ok (.ret (.bool true)) ∧ OldK s₁.heap s'.heap ∧ s'.os = s₁.os ∧ AllBare s'.gens) s₁ := by
 have rv := fqZ hi
 have lenV := hi.length
 have core : ∀ H : Hp, Only H → SqL K H a (ns.map V.int) → HOk P w H s₁.heap → (∀ b, H b ≠ none → b = a) → (H a ≠ none → K.lookup a = none) →
   codeAny (model P w) callerA (.call (.ref fa) ⟨[.ref a], []⟩) (fun r s' => r = .ok (.ret (.bool true)) ∧ OldK s₁.heap s'.heap ∧ s'.os = s₁.os ∧ AllBare s'.gens) s₁ := by
  intro H hO hS hok hA hK
  have base_of : ∀ {b : Addr} {o : Obj}, s₁.heap.get? b = some o → H b = none → (hidT s₁.heap H).get? b = some o := fun e n => jql e n
  have noA : ∀ {b : Addr} {o : Obj} {es : Array DictEntry} {ep : Nat}, s₁.heap.get? b = some o → o.data = .dict es ep → H b = none := fun {b o es ep} e d => by
   cases q : H b with
   | none => rfl
   | some u =>
    have e' : b = a := hA b (by rw [q]; simp)
    subst e'
    rw [ha] at e; cases e
    have d' : Data.seq vs.toArray _ = Data.dict es ep := d
    cases d'
  have nsK : ∀ {b : Addr} {m : Str → Option Value}, s₁.heap.Ns b m → (hidT s₁.heap H).Ns b m := fun {b m} ⟨o, es, ep, e, d, r⟩ => ⟨o, es, ep, base_of e (noA e d), d, r⟩
  have hKb : K.In (hidT s₁.heap H) := fun b o e => base_of (KX b o e) (by
   cases q : H b with
   | none => rfl
   | some u =>
    have e' : b = a := hA b (by rw [q]; simp)
    subst e'
    rw [hK (by rw [q]; simp)] at e; cases e)
  have hM : Mod K mg (hidT s₁.heap H) := ⟨hKb, nsK hns, ⟨mb, nsK hb, hbb⟩, let ⟨mc, h1, h2⟩ := hlim; ⟨mc, nsK h1, h2⟩⟩
  have e0 : Env0 P w K mg (hidT s₁.heap H) callerA [] s₁ H := ⟨rfl, hM, fun b o e => kqy e, Nat.le_of_eq (hqA _ _), trivial, fun b hb => absurd (show b ∈ ([] : List Addr) from hb) (by simp), hok, .of_eq hg⟩
  refine codeAny_mono ((F _ hKb (nsK hns)).run callerA [] s₁ H ⟨[.ref a], []⟩ [.ref a] [.ref a] _ _ hr e0 (hbind s₁ (.ref a)) (.cons rfl .nil) (hsp H hO hS)) fun r s' h => ?_
  cases r with
  | error e => exact (hCX H e s' h).elim
  | ok fl =>
   cases fl with
   | next => exact False.elim h
   | brk => exact False.elim h
   | cont => exact False.elim h
   | ret u =>
    obtain ⟨v, H', os, bare, un, hok', r', q⟩ := h
    have q' : v = .bl true := q
    subst q'
    obtain rfl : u = Value.bool true := r'
    refine ⟨rfl, OldK.of_keep fun b o e => ?_, os, bare⟩
    cases q : H b with
    | none => exact un.keep b o e q (by intro z; exact absurd (show b ∈ ([] : List Addr) from z) (by simp)) (by simp)
    | some u =>
     rcases hO b with z | ⟨ob, xs, z⟩
     ·rw [q] at z; cases z
     ·have z2 := un.frzs b ob _ z
      obtain ⟨e1, _⟩ := hok b _ z
      obtain ⟨e2, _⟩ := hok' b _ z2
      rw [e] at e1; cases e1
      exact e2
 cases hk : K.lookup a with
 | some o =>
  have e := KX a o hk
  rw [ha] at e
  cases e
  refine core (fun _ => none) (fun _ => .inl rfl) (.inr ⟨_, vs.toArray, _, hk, rfl, rfl, rfl, by rw [List.size_toArray, lenV]; exact hl, by simpa using rv⟩) (fun b u z => by have z' : (none : Option HO) = some u := z; cases z') (fun b z => absurd rfl z) fun z => absurd rfl z
 | none =>
  refine core (fun b => if b = a then some (.frz { cls := .type "list", data := .seq vs.toArray } (.lst (ns.map V.int))) else none) (fun b => ?_) (.inl (.inr ⟨{ cls := .type "list", data := .seq vs.toArray }, if_pos rfl⟩)) (fun b u z => ?_) (fun b z => ?_) fun _ => hk
  ·by_cases hb : b = a
   ·exact .inr ⟨_, _, if_pos hb⟩
   ·exact .inl (if_neg hb)
  ·by_cases hb : b = a
   ·have z' := (if_pos hb).symm.trans z
    cases z'
    subst hb
    exact ⟨ha, by rw [List.length_map]; exact hl, vs, _, rv, ha⟩
   ·have z' := (if_neg hb).symm.trans z
    cases z'
  ·by_cases hb : b = a
   ·exact hb
   ·exact absurd (if_neg hb) z
abbrev KOf {K : PySem.W.Frag} {h : Heap} (_ : K.In h) : PySem.W.Frag := K
theorem kqL {l : PySem.W.OpenLaw} {n k : Nat} {q : Program} {loose : List Str} {XP : (Str → Option Value) → Heap → Prop} {YP : World → Heap → Prop} {d : DefRec} {K : Params → PySem.W.Frag} {CX : World → CXT} {sp : World → Sp} {x : Str}
  (hn : l.most = some n) (hn2 : n ≤ sizeLine) (hdf : d.params.defaults = []) (hr : Room k callerA)
  (hY : ∀ (w : World) (h : Heap), YP w h → (K w.params).In h)
  (F : ∀ (w : World) (mg : Str → Option Value) (fa : Addr) (h : Heap), (K w.params).In h → h.Ns mainGlobals mg → mg d.name = some (.ref fa) →
   ∃ fd : FuncData, (∀ (s : Shared) (u : Value), BindsTo s fd ⟨[u], []⟩ [(x, u)]) ∧
    ∀ base : Heap, (K w.params).In base → base.Ns mainGlobals mg → FnOk l.prog w (K w.params) mg base (CX w) k fa fd [x] (sp w))
  (hsp : ∀ (w : World) (H : Hp) (a : Addr) (ns : List Int), ns.length ≤ n → Only H → SqL (K w.params) H a (ns.map V.int) → sp w [.ref a] H (fun v _ => v = .bl true) fun _ _ _ => False)
  (hCX : ∀ (w : World) (H : Hp) (s : Shared) (e : Value) (s' : Shared), CX w [] H s (fun _ _ _ => False) e s' → False) :
  PySem.W.WalkO q loose XP YP l.row.toRowW d [] (fun f vs => PySem.call f vs) := by
 refine Att.attach_call hn hdf fun w s₀ s₁ mg mb fa o pm cd doc a vs ns G Y ho hd hcd hmg hobj hints hlen hg => ?_
 have KX := hY w _ Y
 obtain ⟨fd, hb, hF⟩ := F w mg fa _ KX G.T.g hmg
 exact jqo KX G.T.g G.T.b G.T.builtins G.T.nolimit hg hobj hints (Nat.le_trans hlen hn2) hr hF hb (fun H hO hS => hsp w H a ns hlen hO hS) fun H e s' => hCX w H s₁ e s'
def defArgs (s : Stmt) : Arguments := match s with
 | .FunctionDef _ a _ _ _ _ _ _ _ _ => a
 | _ => { posonlyargs := [], args := [], vararg := none, kwonlyargs := [], kw_defaults := [], kwarg := none, defaults := [] }
def defBody (s : Stmt) : List Stmt := match s with
 | .FunctionDef _ _ b _ _ _ _ _ _ _ => b
 | _ => []
def defScope (s : Stmt) : Scope := match s with
 | .FunctionDef _ _ _ _ _ _ sc _ _ _ => sc
 | _ => { kind := .function, names := [], isGenerator := false, isCoroutine := false }
abbrev CX0 : CXT := fun _ _ _ _ _ _ => False
abbrev E0 : XK := fun _ _ _ => False
theorem pass0 {X : Cx} : Passes CX0 X E0 := fun _ _ _ _ _ _ _ h => h.elim
structure Fun (K : PySem.W.Frag) (x qual : Str) (st : Stmt) (f : Addr) (fd : FuncData) : Prop where
 ex : ∃ (oc : Value) (od : Option Addr) (kV doc pm : Value) (an : Option Addr) (cdv ct : Value) (osl : Array (Option Value)),
  fd = PySem.W.fnOf x qual (defArgs st) (defBody st) (defScope st) .none kV doc pm an cdv ct ∧ K.lookup f = some ⟨oc, od, .func fd, osl⟩ ∧ PySem.W.codeIn K cdv qual = true
 kp : PySem.W.keepIn K (.ref f) = true
section
variable {P : Program} {w : World} {K : PySem.W.Frag} {mg : Str → Option Value} {base : Heap}
theorem Fun.ok {x qual : Str} {st : Stmt} {f : Addr} {fd : FuncData} {N ps : List Str} {k : Nat} {sp : Sp} (F : Fun K x qual st f fd) (S : FnScope N ps (defScope st)) (len : ∀ vs H Q E, sp vs H Q E → vs.length = ps.length)
  (hbody : ∀ (cdv : Value) (A : Around) (outer : List Env) (s : Shared) (H : Hp) (vs : List V) (Q : VK) (E : XK), Room k (A.deeper (envOfC qual (defScope st) s.heap.objs.size f cdv)) → sp vs H Q E →
   ∃ t, PSs (cxOf CX0 P w K mg base N qual (defScope st) f cdv A outer s H E).nox (defBody st) t ∧ t { nx := fun _ H' => Q .non H', rt := Q } (start N vs) H) : FnOk P w K mg base CX0 (k + 1) f fd ps sp := by
 obtain ⟨oc, od, kV, doc, pm, an, cdv, ct, osl, rfl, lk, hcd⟩ := F.ex
 refine mqz lk hcd S len fun A outer s H vs Q E hr hsp => ?_
 obtain ⟨t, h, q⟩ := hbody cdv A outer s H vs Q E hr hsp
 exact ⟨t, h.nox, q⟩
theorem Fun.binds {x qual : Str} {st : Stmt} {f : Addr} {fd : FuncData} {ps : List Str} (F : Fun K x qual st f fd)
  (h : ∀ (kV doc pm : Value) (an : Option Addr) (cdv ct : Value) (us : List Value), us.length = ps.length → bindArgs (PySem.W.fnOf x qual (defArgs st) (defBody st) (defScope st) .none kV doc pm an cdv ct) ⟨us, []⟩ = pure (ps.zip us)) : Binds K fd ps [] := by
 obtain ⟨oc, od, kV, doc, pm, an, cdv, ct, osl, rfl, lk, hcd⟩ := F.ex
 exact .all (h kV doc pm an cdv ct)
theorem aqG {x qual : Str} {st : Stmt} {f : Addr} {oc : Value} {od an : Option Addr} {osl : Array (Option Value)} {kV doc pm cdv ct : Value} (l : K.lookup f = some ⟨oc, od, .func (PySem.W.fnOf x qual (defArgs st) (defBody st) (defScope st) .none kV doc pm an cdv ct), osl⟩)
  (c : PySem.W.codeIn K cdv qual = true) (k : PySem.W.keepIn K (.ref f) = true) : Fun K x qual st f (PySem.W.fnOf x qual (defArgs st) (defBody st) (defScope st) .none kV doc pm an cdv ct) := ⟨⟨oc, od, kV, doc, pm, an, cdv, ct, osl, rfl, l, c⟩, k⟩
end
section
variable {X : Cx}
theorem pv (i : Nat) {x : Str} {pos : Pos} (hN : X.N[i]? = some x := by rfl) (hv : Vis X.env.scope x := by first | exact Or.inl rfl | exact Or.inr (Or.inl rfl) | exact Or.inr (Or.inr rfl)) (hd : (x == ("__debug__" : Str)) = false := by decide)
  (hcd : (x == ("__classdict__" : Str)) = false := by decide) : PE X (.Name x pos) (tVar i) := mqn hN hv hd hcd
end
theorem ite2 {c A B : Prop} [Decidable c] (h1 : c → A) (h2 : ¬ c → B) : if c then A else B := by
 by_cases h : c
 ·rw [if_pos h]
  exact h1 h
 ·rw [if_neg h]
  exact h2 h
def Same (H H' : Hp) : Prop := ∀ b o, H b = some o → H' b = some o
theorem Same.refl (H : Hp) : Same H H := fun _ _ h => h
theorem Same.trans {H H1 H2 : Hp} (a : Same H H1) (b : Same H1 H2) : Same H H2 := fun c o h => b c o (a c o h)
theorem Same.seq {K : PySem.W.Frag} {H H' : Hp} {a : Addr} {xs : List V} (e : Same H H') (h : SqL K H a xs) : SqL K H' a xs := by
 rcases h with (h | ⟨o, h⟩) | h
 ·exact .inl (.inl (e _ _ h))
 ·exact .inl (.inr ⟨o, e _ _ h⟩)
 ·exact .inr h
end L2
set_option maxHeartbeats 4000000
namespace L2
open PySem PySem.Spec PyProof.Rows
def Its (z : Str) : It := ⟨fun i _ => i < z.length, fun i H x H' => H' = H ∧ ∃ c, z.cps.toList[i]? = some c ∧ x = .str ⟨#[c]⟩, fun i _ => z.length ≤ i⟩
theorem iqj {z : Str} {i : Nat} (h : i < z.length) : ∃ c, z.cps[i]? = some c ∧ z.cps.toList[i]? = some c := by
 have h' : i < z.cps.size := h
 exact ⟨z.cps[i], by simp [h'], by simp [h']⟩
theorem gqL {z : Str} {i : Nat} (h : z.length ≤ i) : z.cps[i]? = none := by
 have h' : z.cps.size ≤ i := h
 simp [h']
theorem hqL {P : Program} {w : World} {K : PySem.W.Frag} {tg : Expr} (it : Addr) (z : Str) (t : Tok) : Turn P w K tg (Its z) [it] it (fun i h => h.IsStrIter it "str_ascii_iterator" z t i) where
 mem := by simp
 obj := fun i h st b hb => by
  have e : b = it := by simpa using hb
  subst e
  obtain ⟨o, e, c, d⟩ := st
  exact ⟨o, e, fun v z => by rw [d] at z; cases z⟩
 keep := fun i h h' st k => by
  obtain ⟨o, e, r⟩ := st
  exact ⟨o, k it (by simp) o e, r⟩
 item := by
  intro X hP hw hK hc i pins s σ H E I hf st hg
  subst hP hw hK
  obtain ⟨c, h1, h2⟩ := iqj (z := z) (i := i) hg
  obtain ⟨f0, f1, f2, f3, f4, f5⟩ := hf it (by simp)
  refine wpAny_pyNext_ascii_item st h1 fun h' st' sb => ?_
  have I1 : Inv X pins σ H { s with heap := h', toks := s.toks + 1 } := I.turned (t' := s.toks + 1) (fun b o hb e => (sb.2 b hb).trans e) f0 f1 f3 f4 f5
  obtain ⟨o, e, cl, d⟩ := id st'
  exact ⟨_, rfl, jqg (s := { s with heap := h', toks := s.toks + 1 }) e cl d (by decide) ⟨.str ⟨#[c]⟩, H, I1, ⟨_, rfl⟩, ⟨rfl, c, h2, rfl⟩, st', fun b hb => (hf b hb).1⟩⟩
 done := by
  intro X hP hw hK hc i pins s σ H E I hf st hg
  subst hP hw hK
  obtain ⟨f0, f1, f2, f3, f4, f5⟩ := hf it (by simp)
  exact wpAny_pyNext_ascii_end (I.ok.hd hc) st (gqL hg) fun h' eb => ⟨rfl, I.turned (t' := s.toks) (fun b o hb e => eb b o hb e) f0 f1 f3 f4 f5⟩
 self := fun _ _ _ _ _ st h => wpAny_pyIter_striter_ascii st h
theorem hq5 {P : Program} {w : World} {K : PySem.W.Frag} {tg : Expr} (it : Addr) (z : Str) (t : Tok) : Turn P w K tg (Its z) [it] it (fun i h => h.IsStrIter it "str_iterator" z t i) where
 mem := by simp
 obj := fun i h st b hb => by
  have e : b = it := by simpa using hb
  subst e
  obtain ⟨o, e, c, d⟩ := st
  exact ⟨o, e, fun v z => by rw [d] at z; cases z⟩
 keep := fun i h h' st k => by
  obtain ⟨o, e, r⟩ := st
  exact ⟨o, k it (by simp) o e, r⟩
 item := by
  intro X hP hw hK hc i pins s σ H E I hf st hg
  subst hP hw hK
  obtain ⟨c, h1, h2⟩ := iqj (z := z) (i := i) hg
  obtain ⟨f0, f1, f2, f3, f4, f5⟩ := hf it (by simp)
  refine wpAny_pyNext_wide_item st h1 fun h' st' sb => ?_
  have I1 : Inv X pins σ H { s with heap := h', toks := s.toks + 1 } := I.turned (t' := s.toks + 1) (fun b o hb e => (sb.2 b hb).trans e) f0 f1 f3 f4 f5
  obtain ⟨o, e, cl, d⟩ := id st'
  exact ⟨_, rfl, jqg (s := { s with heap := h', toks := s.toks + 1 }) e cl d (by decide) ⟨.str ⟨#[c]⟩, H, I1, ⟨_, rfl⟩, ⟨rfl, c, h2, rfl⟩, st', fun b hb => (hf b hb).1⟩⟩
 done := by
  intro X hP hw hK hc i pins s σ H E I hf st hg
  subst hP hw hK
  obtain ⟨f0, f1, f2, f3, f4, f5⟩ := hf it (by simp)
  exact wpAny_pyNext_wide_end (I.ok.hd hc) st (gqL hg) fun h' eb => ⟨rfl, I.turned (t' := s.toks) (fun b o hb e => eb b o hb e) f0 f1 f3 f4 f5⟩
 self := fun _ _ _ _ _ st h => wpAny_pyIter_striter_wide st h
section
variable {X : Cx} {tg : Expr}
def iStr (tl : TE) : TI := fun σ H R => tl σ H fun x H1 => ∃ z, x = .str z ∧ R (Its z) H1
theorem lqH {l : Expr} {tl : TE} (hl : PE X l tl) : PI X tg l (iStr tl) := by
 intro pins s σ H R I h
 refine thn (hl pins s σ H _ I h) fun v s1 W' => ?_
 obtain ⟨x, H1, I1, r1, q1⟩ := W'
 obtain ⟨z, rfl, q⟩ := q1
 obtain ⟨t, rfl⟩ := r1
 have fp : ∀ b ∈ [s1.heap.objs.size], FpOk X pins H1 b := fun b hb => by
  have e : b = s1.heap.objs.size := by simpa using hb
  subst e
  exact I1.fpOk (Nat.le_refl _) (I1.hok.fresh (Nat.le_refl _))
 cases ha : z.cps.all (· < 128)
 ·refine wpAny_pyIter_wide ha ?_
  exact ⟨s1.heap.objs.size, [s1.heap.objs.size], _, _, H1, rfl, I1.kept (t' := s1.toks) fun b o e => Heap.get?_push_of_some _ e, hq5 _ z t, ⟨_, Heap.get?_push_size _ rfl, rfl, rfl⟩, fp, q⟩
 ·refine wpAny_pyIter_ascii ha ?_
  exact ⟨s1.heap.objs.size, [s1.heap.objs.size], _, _, H1, rfl, I1.kept (t' := s1.toks) fun b o e => Heap.get?_push_of_some _ e, hqL _ z t, ⟨_, Heap.get?_push_size _ rfl, rfl, rfl⟩, fp, q⟩
end
section
variable {X : Cx}
def rSlS : V → Option Int → Option Int → Hp → VK → Prop := fun x lo hi H Q => ∃ z, x = .str z ∧ z.length ≤ sizeLine ∧ Q (.str (Txt.slice z lo hi)) H
def rSl (K : PySem.W.Frag) : V → Option Int → Option Int → Hp → VK → Prop := fun x lo hi H Q => rSlL K x lo hi H Q ∨ rSlS x lo hi H Q
def rIndex : V → List V → Hp → VK → Prop := fun x vs H Q => match x, vs with
 | .str z, [.str y] => ∃ i r, Builtin.Str.occurrences z y 0 z.length 1 = i :: r ∧ Q (.int (i : Nat)) H
 | _, _ => False
theorem iqZ {z y : Str} {H : Hp} {Q : VK} : (rIndex (.str z) [.str y] H Q) = (∃ i r, Builtin.Str.occurrences z y 0 z.length 1 = i :: r ∧ Q (.int (i : Nat)) H) := rfl
def rUpper : V → List V → Hp → VK → Prop := fun x vs H Q => match x, vs with
 | .str z, [] => (∀ c ∈ z.cps.toList, c < 128) ∧ z.length ≤ 1000000 ∧ Q (.str ⟨z.cps.map up1⟩) H
 | _, _ => False
theorem lq0 {z : Str} {H : Hp} {Q : VK} : (rUpper (.str z) [] H Q) = ((∀ c ∈ z.cps.toList, c < 128) ∧ z.length ≤ 1000000 ∧ Q (.str ⟨z.cps.map up1⟩) H) := rfl
def rLower : V → List V → Hp → VK → Prop := fun x vs H Q => match x, vs with
 | .str z, [] => (∀ c ∈ z.cps.toList, c < 128) ∧ z.length ≤ 1000000 ∧ Q (.str ⟨z.cps.map lo1⟩) H
 | _, _ => False
theorem lqu {z : Str} {H : Hp} {Q : VK} : (rLower (.str z) [] H Q) = ((∀ c ∈ z.cps.toList, c < 128) ∧ z.length ≤ 1000000 ∧ Q (.str ⟨z.cps.map lo1⟩) H) := rfl
def rAlnum : V → List V → Hp → VK → Prop := fun x vs H Q => match x, vs with
 | .str z, [] => Q (.bl (Txt.isalnum z)) H
 | _, _ => False
theorem lqw {z : Str} {H : Hp} {Q : VK} : (rAlnum (.str z) [] H Q) = (Q (.bl (Txt.isalnum z)) H) := rfl
def rJoin (K : PySem.W.Frag) : V → List V → Hp → VK → Prop := fun x vs H Q => ∃ z p ys, x = .str z ∧ vs = [.ref p] ∧ SqL K H p (ys.map V.str) ∧ (ys.map (·.length)).sum + ys.length * z.length ≤ 16777216 ∧ Q (.str (Txt.join z ys)) H
def rIsi (K : PySem.W.Frag) : List V → Hp → VK → Prop := fun vs H Q => ∃ x T t b, vs = [x, .ty T] ∧ TyOf K H x t ∧ PySem.W.kitOne K t (.type T) = some b ∧ Q (.bl b) H
theorem gqv : CallR X (.builtin "isinstance") (rIsi X.K) := by
 intro pins s σ H xs us Q I r h
 obtain ⟨x, T, t, b, rfl, ty, e, q⟩ := h
 obtain ⟨u, v, rfl, ru, rv⟩ := vals2 r
 cases (show v = Value.type T from rv)
 exact iqg I ru ty e fun tk => ⟨.bl b, H, I.tok tk, rfl, q⟩
def rCatD : R2 := fun x y H Q => ∃ a b xs ys, x = .ref a ∧ y = .ref b ∧ H a = some (.tup xs) ∧ H b = some (.tup ys) ∧ xs.length + ys.length ≤ sizeLine ∧ ∀ p H', Same H H' → H' p = some (.tup (xs ++ ys)) → Q (.ref p) H'
theorem jq4 : OpR X (binaryOp .Add) rCatD := by
 intro pins s σ H x y v u Q I rx ry h
 obtain ⟨a, b, xs, ys, rfl, rfl, ha, hb, hz, q⟩ := h
 by_cases hx : xs = []
 ·subst hx
  cases rx
  cases ry
  obtain ⟨its, r1, p1, _⟩ := I.tuple (SqT.of ha)
  obtain ⟨its2, r2, p2, _⟩ := I.tuple (SqT.of hb)
  cases r1
  obtain ⟨⟨cls, dd, data, sl⟩, ho, hc, n, hd⟩ := id p1
  obtain ⟨⟨cls2, dd2, data2, sl2⟩, ho2, hc2, n2, hd2⟩ := id p2
  simp only at hc hd hc2 hd2
  subst hc hd hc2 hd2
  exact concat_meets ⟨_, ho, rfl⟩ ⟨_, ho2, rfl⟩ noFill_tuple_add seq_tuple_add PySem.F.slot_tuple_add PySem.F.entry_tuple_add (PySem.F.args_tuple_add_2 _ _)
   (tuple_addW0 a b ([] : List Value).toArray its2.toArray n n2 dd dd2 sl sl2 rfl) ⟨ho, ho2, ⟨.ref b, H, I, rfl, q b H (Same.refl _) hb⟩⟩
 ·refine jq7 pins s σ H _ _ v u Q I rx ry ⟨a, b, xs, ys, rfl, rfl, SqT.of ha, SqT.of hb, hx, hz, fun e => q a H (Same.refl _) (by rw [e, List.append_nil]; exact ha), fun _ p hp => q p _ (fun b o e => by rw [aqp (aqj e hp)]; exact e) aqn⟩
def rAddU (K : PySem.W.Frag) : R2 := fun x y H Q => match x, y with
 | .int i, .int j => Q (.int (i + j)) H
 | .str i, .str j => i.length + j.length ≤ sizeLine ∧ Q (.str (i ++ j)) H
 | .ref a, .ref b => (∃ xs zs, H a = some (.lst xs) ∧ H b = some (.lst zs) ∧ xs.length + zs.length ≤ sizeLine ∧ ∀ p, H p = none → Q (.ref p) (upd H p (.lst (xs ++ zs)))) ∨
   (∃ xs ys, H a = some (.tup xs) ∧ H b = some (.tup ys) ∧ xs.length + ys.length ≤ sizeLine ∧ ∀ p H', Same H H' → H' p = some (.tup (xs ++ ys)) → Q (.ref p) H')
 | _, _ => False
theorem hqo : OpR X (binaryOp .Add) (rAddU X.K) := by
 intro pins s σ H x y v u Q I rx ry h
 cases x with
 | int i =>
  cases y with
  | int j => exact lqI pins s σ H _ _ v u Q I rx ry ⟨i, j, rfl, rfl, h⟩
  | _ => exact h.elim
 | str i =>
  cases y with
  | str j => exact hqf pins s σ H _ _ v u Q I rx ry ⟨i, j, rfl, rfl, h.1, h.2⟩
  | _ => exact h.elim
 | ref a =>
  cases y with
  | ref b =>
   rcases h with ⟨xs, zs, h1, h2, h3, h4⟩ | ⟨xs, ys, h1, h2, h3, h4⟩
   ·exact lqp pins s σ H _ _ v u Q I rx ry ⟨a, b, xs, zs, rfl, rfl, h1, h2, h3, h4⟩
   ·exact jq4 pins s σ H _ _ v u Q I rx ry ⟨a, b, xs, ys, rfl, rfl, h1, h2, h3, h4⟩
  | _ => exact h.elim
 | _ => exact h.elim
theorem kq6 {K : PySem.W.Frag} {i j : Int} {H : Hp} {Q : VK} : (rAddU K (.int i) (.int j) H Q) = (Q (.int (i + j)) H) := rfl
theorem lq8 {K : PySem.W.Frag} {i j : Str} {H : Hp} {Q : VK} : (rAddU K (.str i) (.str j) H Q) = (i.length + j.length ≤ sizeLine ∧ Q (.str (i ++ j)) H) := rfl
end
section
variable {X : Cx}
def rMulU : R2 := fun x y H Q => match x, y with
 | .int i, .int j => CMul i j ∧ Q (.int (i * j)) H
 | .str z, .int k => MulOk z k ∧ Q (.str (Txt.mul z k)) H
 | _, _ => False
theorem eqG : OpR X (binaryOp .Mult) rMulU := by
 intro pins s σ H x y v u Q I rx ry h
 cases x with
 | int i =>
  cases y with
  | int j => exact lqy pins s σ H _ _ v u Q I rx ry ⟨i, j, rfl, rfl, h.1, h.2⟩
  | _ => exact h.elim
 | str z =>
  cases y with
  | int k =>
   obtain ⟨t, rfl⟩ := rx
   obtain ⟨t', rfl⟩ := ry
   exact SB.mul h.1 fun t' k' => ⟨.str (Txt.mul z k), H, I.tok k', ⟨t', rfl⟩, h.2⟩
  | _ => exact h.elim
 | _ => exact h.elim
theorem lqS {i j : Int} {H : Hp} {Q : VK} : (rMulU (.int i) (.int j) H Q) = (CMul i j ∧ Q (.int (i * j)) H) := rfl
theorem mqd {z : Str} {k : Int} {H : Hp} {Q : VK} : (rMulU (.str z) (.int k) H Q) = (MulOk z k ∧ Q (.str (Txt.mul z k)) H) := rfl
def rLenU (K : PySem.W.Frag) : List V → Hp → VK → Prop := fun xs H Q => match xs with
 | [.str z] => z.length ≤ sizeLine ∧ Q (.int z.length) H
 | [.ref p] => ∃ ys, (SqL K H p ys ∨ SqT K H p ys) ∧ Q (.int ys.length) H
 | _ => False
theorem hq9 : CallR X (.builtin "len") (rLenU X.K) := by
 intro pins s σ H xs us Q I r h
 unfold rLenU at h
 split at h
 ·exact fqW pins s σ H _ us Q I r ⟨_, rfl, h.1, h.2⟩
 ·obtain ⟨ys, h1, h2⟩ := h
  exact fq3 pins s σ H _ us Q I r ⟨_, ys, rfl, h1, h2⟩
 ·exact h.elim
theorem mqa {K : PySem.W.Frag} {z : Str} {H : Hp} {Q : VK} : (rLenU K [.str z] H Q) = (z.length ≤ sizeLine ∧ Q (.int z.length) H) := rfl
theorem lqh {K : PySem.W.Frag} {p : Addr} {H : Hp} {Q : VK} : (rLenU K [.ref p] H Q) = (∃ ys, (SqL K H p ys ∨ SqT K H p ys) ∧ Q (.int ys.length) H) := rfl
def rOrdU : List V → Hp → VK → Prop := fun xs H Q => match xs with
 | [.str z] => z.length = 1 ∧ Q (.int (z.cps.getD 0 0 : Nat)) H
 | _ => False
theorem mqf {c : Nat} {H : Hp} {Q : VK} : rOrdU [.str ⟨#[c]⟩] H Q ↔ Q (.int (c : Nat)) H := ⟨fun h => h.2, fun h => ⟨rfl, h⟩⟩
theorem mqb : bootBuiltins "int" = some (.type "int") := by decide +kernel
theorem hqs : bootBuiltins "str" = some (.type "str") := by decide +kernel
theorem jq6 : bootBuiltins "bool" = some (.type "bool") := by decide +kernel
theorem dqi : bootBuiltins "tuple" = some (.type "tuple") := by decide +kernel
theorem hqv : bootBuiltins "list" = some (.type "list") := by decide +kernel
theorem aqw : bootBuiltins "isinstance" = some (.builtin "isinstance") := by decide +kernel
def rIntU : List V → Hp → VK → Prop := fun xs H Q => match xs with
 | [.int i] => Q (.int i) H
 | [.bl k] => Q (.int (if k then 1 else 0)) H
 | _ => False
theorem hqM : CallR X (.type "int") rIntU := by
 intro pins s σ H xs us Q I r h
 unfold rIntU at h
 split at h
 ·exact fqK pins s σ H _ us Q I r (.inl ⟨_, rfl, h⟩)
 ·exact fqK pins s σ H _ us Q I r (.inr ⟨_, rfl, h⟩)
 ·exact h.elim
theorem mqu {k : Bool} {H : Hp} {Q : VK} : (rIntU [.bl k] H Q) = (Q (.int (if k then 1 else 0)) H) := rfl
def rInU : R2 := fun x y H Q => match x, y with
 | .str i, .str j => Q (.bl (!(Builtin.Str.occurrences j i 0 j.length 1).isEmpty)) H
 | _, _ => False
theorem kq7 : OpR X (compareOp .In) rInU := by
 intro pins s σ H x y v u Q I rx ry h
 cases x with
 | str i =>
  cases y with
  | str j => exact hqD pins s σ H _ _ v u Q I rx ry ⟨i, j, rfl, rfl, h⟩
  | _ => exact h.elim
 | _ => exact h.elim
def rNotInU : R2 := fun x y H Q => match x, y with
 | .str i, .str j => Q (.bl (!(!(Builtin.Str.occurrences j i 0 j.length 1).isEmpty))) H
 | _, _ => False
theorem lqY {c : Nat} {j : Str} {H : Hp} {Q : VK} : rInU (.str ⟨#[c]⟩) (.str j) H Q ↔ Q (.bl (decide (c ∈ j.cps.toList))) H := by
 show Q (.bl (!(Builtin.Str.occurrences j ⟨#[c]⟩ 0 j.length 1).isEmpty)) H ↔ _
 rw [StrLaws.found_one]
theorem hqT {c : Nat} {j : Str} {H : Hp} {Q : VK} : rNotInU (.str ⟨#[c]⟩) (.str j) H Q ↔ Q (.bl (!decide (c ∈ j.cps.toList))) H := by
 show Q (.bl (!(!(Builtin.Str.occurrences j ⟨#[c]⟩ 0 j.length 1).isEmpty))) H ↔ _
 rw [StrLaws.found_one]
def rIsN (neg : Bool) : R2 := fun x y H Q => y = .non ∧ Q (.bl (if neg then !decide (x = .non) else decide (x = .non))) H
theorem mqG {x : V} {H : Hp} {Q : VK} : rIsN false x .non H Q ↔ Q (.bl (decide (x = .non))) H := ⟨fun h => h.2, fun h => ⟨rfl, h⟩⟩
theorem mqA {x : V} {H : Hp} {Q : VK} : rIsN true x .non H Q ↔ Q (.bl (!decide (x = .non))) H := ⟨fun h => h.2, fun h => ⟨rfl, h⟩⟩
def kindV (x : V) (H : Hp) : Option String := match x with
 | .non => some "NoneType"
 | .bl _ => some "bool"
 | .int _ => some "int"
 | .str _ => some "str"
 | .ref a => match H a with
  | some (.lst _) => some "list"
  | some (.tup _) => some "tuple"
  | _ => none
 | _ => none
def subT (a b : String) : Bool := a == b || (a == "bool" && b == "int")
theorem dqa (K : PySem.W.Frag) : ∀ a ∈ ["NoneType", "bool", "int", "str", "list", "tuple"], ∀ b ∈ ["bool", "int", "str", "list", "tuple"], PySem.W.kitOne K (.type a) (.type b) = some (subT a b) := by
 intro a ha b hb
 simp only [List.mem_cons, List.not_mem_nil, or_false] at ha hb
 rcases ha with rfl | rfl | rfl | rfl | rfl | rfl <;> rcases hb with rfl | rfl | rfl | rfl | rfl <;> with_unfolding_all kernel_rfl
def rIsiU : List V → Hp → VK → Prop := fun vs H Q => match vs with
 | [x, .ty T] => ∃ k, kindV x H = some k ∧ T ∈ ["bool", "int", "str", "list", "tuple"] ∧ Q (.bl (subT k T)) H
 | _ => False
theorem bq6 : CallR X (.builtin "isinstance") rIsiU := by
 intro pins s σ H xs us Q I r h
 unfold rIsiU at h
 split at h
 ·rename_i x T
  obtain ⟨k, hk, hT, q⟩ := h
  have key : TyOf X.K H x (.type k) ∧ k ∈ ["NoneType", "bool", "int", "str", "list", "tuple"] := by
   unfold kindV at hk
   split at hk
   ·cases hk; exact ⟨.non, by decide⟩
   ·cases hk; exact ⟨.bl _, by decide⟩
   ·cases hk; exact ⟨.int _, by decide⟩
   ·cases hk; exact ⟨.str _, by decide⟩
   ·split at hk
    ·rename_i e; cases hk; exact ⟨.lst e, by decide⟩
    ·rename_i e; cases hk; exact ⟨.tup e, by decide⟩
    ·cases hk
   ·cases hk
  exact gqv pins s σ H _ us Q I r ⟨x, T, .type k, subT k T, rfl, key.1, dqa X.K k key.2 T hT, q⟩
 ·exact h.elim
end
section
variable {σ : St} {H : Hp} {Q : VK} {D : Ends} {K : PySem.W.Frag} {ta tb te : TE} {tt tu : TT} {t u : TS} {aa ab : TA} {v x y : V} {r r' : R2}
theorem mqg {i : Nat} : (tVar i σ H Q) = (∃ v, σ[i]? = some (some v) ∧ Q v H) := rfl
theorem rd_C : (tC v σ H Q) = (Q v H) := rfl
theorem lqU : (tSeq t u D σ H) = (t { D with nx := u D } σ H) := rfl
theorem lqz {g : TG} : (tAsg te g D σ H) = (te σ H fun x H1 => g x σ H1 D.nx) := rfl
theorem kqi {i : Nat} {R : St → Hp → Prop} : (gName i v σ H R) = (R (σ.set i (some v)) H) := rfl
theorem lqk : (tIfS tt t u D σ H) = (tt σ H fun b H1 => if b = true then t D σ H1 else u D σ H1) := rfl
theorem kqb : (tNext D σ H) = (D.nx σ H) := rfl
theorem mqi : (tBreak D σ H) = (D.bk σ H) := rfl
theorem lqV : (tRet te D σ H) = (te σ H D.rt) := rfl
theorem kqY : (tDrop te D σ H) = (te σ H fun _ H1 => D.nx σ H1) := rfl
theorem mqy : (tOp r ta tb σ H Q) = (ta σ H fun x H1 => tb σ H1 fun y H2 => r x y H2 Q) := rfl
theorem kqN {R : Bool → Hp → Prop} : (tTest te σ H R) = (te σ H fun x H' => ∃ k, x = .bl k ∧ R k H') := rfl
theorem rd_B {R : Bool → Hp → Prop} : (tB te σ H R) = (te σ H fun x H' => ∃ k, x = .bl k ∧ R k H') := rfl
theorem lqA {R : Bool → Hp → Prop} : (tAnd tt tu σ H R) = (tt σ H fun c H1 => if c = true then tu σ H1 R else R false H1) := rfl
theorem mqL {R : Bool → Hp → Prop} : (tOr tt tu σ H R) = (tt σ H fun c H1 => if c = true then R true H1 else tu σ H1 R) := rfl
theorem lqJ {R : Bool → Hp → Prop} : (tNot tt σ H R) = (tt σ H fun c H1 => R (!c) H1) := rfl
theorem kqK : (tAndV ta tb σ H Q) = (ta σ H fun x H1 => ∃ c, x = .bl c ∧ if c = true then tb σ H1 Q else Q (.bl false) H1) := rfl
theorem lqC : (tOrV ta tb σ H Q) = (ta σ H fun x H1 => ∃ c, x = .bl c ∧ if c = true then Q (.bl true) H1 else tb σ H1 Q) := rfl
theorem jqG : (tNotV ta σ H Q) = (ta σ H fun x H1 => ∃ c, x = .bl c ∧ Q (.bl (!c)) H1) := rfl
theorem mqC : (tIf tt ta tb σ H Q) = (tt σ H fun c H1 => if c = true then ta σ H1 Q else tb σ H1 Q) := rfl
theorem jqd {tc : TE} : (tChain r r' ta tb tc σ H Q) = (ta σ H fun x H1 => tb σ H1 fun y H2 => r x y H2 fun z H3 => ∃ k, z = .bl k ∧ (if k = true then tc σ H3 fun w' H4 => r' y w' H4 Q else Q (.bl false) H3)) := rfl
theorem lqQ {R : List V → Hp → Prop} : (tNil σ H R) = (R [] H) := rfl
theorem jqT {R : List V → Hp → Prop} : (tCons te aa σ H R) = (te σ H fun x H1 => aa σ H1 fun xs H2 => R (x :: xs) H2) := rfl
theorem mqh : (tLst aa σ H Q) = (aa σ H fun xs H1 => xs.length ≤ sizeLine ∧ ∀ p, H1 p = none → Q (.ref p) (upd H1 p (.lst xs))) := rfl
theorem mqk : (tTup aa σ H Q) = (aa σ H fun xs H1 => xs.length ≤ sizeLine ∧ ∀ p, H1 p = none → Q (.ref p) (upd H1 p (.tup xs))) := rfl
theorem kqa {sp : Sp} {dvs : List V} {E : XK} : (tCall sp dvs E aa σ H Q) = (aa σ H fun vs H1 => sp (vs ++ dvs) H1 Q E) := rfl
theorem mqM {c : List V → Hp → VK → Prop} : (tCB c aa σ H Q) = (aa σ H fun vs H1 => c vs H1 Q) := rfl
theorem mqE {T : String} {m : V → List V → Hp → VK → Prop} : (tBM K T m te aa σ H Q) = (te σ H fun x H1 => tyV K T x H1 ∧ aa σ H1 fun xs H2 => m x xs H2 Q) := rfl
theorem mql {T : String} {m : V → List V → Hp → VK → Prop} : (tBM0 K T m te σ H Q) = (te σ H fun x H1 => tyV K T x H1 ∧ m x [] H1 Q) := rfl
theorem mqK {m : V → Option Int → Option Int → Hp → VK → Prop} {tl th : TO} : (tSl m te tl th σ H Q) = (te σ H fun x H1 => tl σ H1 fun l H2 => th σ H2 fun u H3 => m x l u H3 Q) := rfl
theorem hqt {R : Option Int → Hp → Prop} : (tNoPart σ H R) = (R none H) := rfl
theorem jqV {R : Option Int → Hp → Prop} : (tPart te σ H R) = (te σ H fun x H1 => ∃ i, x = .int i ∧ R (some i) H1) := rfl
theorem jqc {z : Str} : tyV K "str" (.str z) H ↔ True := ⟨fun _ => trivial, fun _ => rfl⟩
theorem rd_I {C : Int → Int → Prop} {g : Int → Int → V} {i j : Int} : rI C g (.int i) (.int j) H Q ↔ C i j ∧ Q (g i j) H :=
 ⟨fun ⟨_, _, h1, h2, h3⟩ => by cases h1; cases h2; exact h3, fun h => ⟨i, j, rfl, rfl, h⟩⟩
theorem mqH {g : Int → Int → V} {i j : Int} : rI0 g (.int i) (.int j) H Q ↔ Q (g i j) H :=
 ⟨fun ⟨_, _, h1, h2, h3⟩ => by cases h1; cases h2; exact h3, fun h => ⟨i, j, rfl, rfl, h⟩⟩
theorem kqg {i j : Int} : rEq (.int i) (.int j) H Q ↔ Q (.bl (decide (i = j))) H := by
 unfold rEq scal; simp only [true_and, V.int.injEq]
theorem fqn {i j : Str} : rEq (.str i) (.str j) H Q ↔ Q (.bl (decide (i = j))) H := by
 unfold rEq scal; simp only [true_and, V.str.injEq]
theorem kqn {i j : Bool} : rEq (.bl i) (.bl j) H Q ↔ Q (.bl (decide (i = j))) H := by
 unfold rEq scal; simp only [true_and, V.bl.injEq]
theorem kqP {i j : Int} : rNe (.int i) (.int j) H Q ↔ Q (.bl (!decide (i = j))) H := by
 unfold rNe scal; simp only [true_and, V.int.injEq]
theorem gqk {i j : Str} : rNe (.str i) (.str j) H Q ↔ Q (.bl (!decide (i = j))) H := by
 unfold rNe scal; simp only [true_and, V.str.injEq]
theorem jq2 {i j : Bool} : rNe (.bl i) (.bl j) H Q ↔ Q (.bl (!decide (i = j))) H := by
 unfold rNe scal; simp only [true_and, V.bl.injEq]
theorem kqS : rNe .non .non H Q ↔ Q (.bl false) H := ⟨fun h => h.2, fun h => ⟨rfl, h⟩⟩
theorem kqT {i : Str} : rNe (.str i) .non H Q ↔ Q (.bl true) H := ⟨fun h => h.2, fun h => ⟨rfl, h⟩⟩
theorem iqP {i : Str} : rNe .non (.str i) H Q ↔ Q (.bl true) H := ⟨fun h => h.2, fun h => ⟨rfl, h⟩⟩
theorem kq2 : rEq .non .non H Q ↔ Q (.bl true) H := ⟨fun h => h.2, fun h => ⟨rfl, h⟩⟩
theorem jqQ {i : Str} : rEq (.str i) .non H Q ↔ Q (.bl false) H := ⟨fun h => h.2, fun h => ⟨rfl, h⟩⟩
theorem iqw {i : Str} : rEq .non (.str i) H Q ↔ Q (.bl false) H := ⟨fun h => h.2, fun h => ⟨rfl, h⟩⟩
theorem lqe {z : Str} {i : Int} : rIx K (.str z) (.int i) H Q ↔ ∃ c, z.length ≤ sizeLine ∧ atI z.cps.toList i = some c ∧ Q (.str ⟨#[c]⟩) H := by
 constructor
 ·rintro (⟨p, xs, j, v, h, _⟩ | ⟨p, xs, j, v, h, _⟩ | ⟨z', j, c, h1, h2, h3, h4, h5⟩)
  ·cases h
  ·cases h
  ·cases h1; cases h2; exact ⟨c, h3, h4, h5⟩
 ·rintro ⟨c, h3, h4, h5⟩
  exact .inr (.inr ⟨z, i, c, rfl, rfl, h3, h4, h5⟩)
theorem lqq {z : Str} {lo hi : Option Int} : rSl K (.str z) lo hi H Q ↔ z.length ≤ sizeLine ∧ Q (.str (Txt.slice z lo hi)) H := by
 constructor
 ·rintro (⟨a, xs, h, _⟩ | ⟨z', h1, h2, h3⟩)
  ·cases h
  ·cases h1; exact ⟨h2, h3⟩
 ·rintro ⟨h2, h3⟩
  exact .inr ⟨z, rfl, h2, h3⟩
end
section
variable {σ : St} {H : Hp} {Q : VK} {K : PySem.W.Frag}
theorem lqZ {a : Addr} {lo hi : Option Int} : rSl K (.ref a) lo hi H Q ↔ ∃ xs, SqL K H a xs ∧ ∀ p, H p = none → Q (.ref p) (upd H p (.lst (cutV xs lo hi))) := by
 constructor
 ·rintro (⟨a', xs, h, h2⟩ | ⟨z', h1, _⟩)
  ·cases h; exact ⟨xs, h2⟩
  ·cases h1
 ·rintro ⟨xs, h2⟩
  exact .inl ⟨a, xs, rfl, h2⟩
theorem mqj {p : Addr} {i : Int} : rIx K (.ref p) (.int i) H Q ↔ ∃ xs v, (SqL K H p xs ∨ SqT K H p xs) ∧ atI xs i = some v ∧ Q v H := by
 constructor
 ·rintro (⟨p', xs, j, v, h, h2, h3, h4⟩ | ⟨p', xs, j, v, h, h2, h3, h4⟩ | ⟨z', j, c, h1, _⟩)
  ·cases h; cases h2; exact ⟨xs, v, .inl h3, h4⟩
  ·cases h; cases h2; exact ⟨xs, v, .inr h3, h4⟩
  ·cases h1
 ·rintro ⟨xs, v, h | h, h2⟩
  ·exact .inl ⟨p, xs, i, v, rfl, rfl, h, h2⟩
  ·exact .inr (.inl ⟨p, xs, i, v, rfl, rfl, h, h2⟩)
theorem lqr {a b : Addr} : rAddU K (.ref a) (.ref b) H Q ↔ (∃ xs zs, H a = some (.lst xs) ∧ H b = some (.lst zs) ∧ xs.length + zs.length ≤ sizeLine ∧ ∀ p, H p = none → Q (.ref p) (upd H p (.lst (xs ++ zs)))) ∨
   (∃ xs ys, H a = some (.tup xs) ∧ H b = some (.tup ys) ∧ xs.length + ys.length ≤ sizeLine ∧ ∀ p H', Same H H' → H' p = some (.tup (xs ++ ys)) → Q (.ref p) H') := Iff.rfl
theorem cx_K {CX : CXT} {P : Program} {w : World} {mg : Str → Option Value} {base : Heap} {N : List Str} {qual : Str} {scope : Scope} {f : Addr} {cd : Value} {A : Around} {outer : List Env} {s : Shared} {E : XK} :
  (cxOf CX P w K mg base N qual scope f cd A outer s H E).K = K := rfl
end
def LoopI (J : It) (g : TG) (tb : TS) (D : Ends) (σ : St) (H : Hp) : Prop := ∃ W : Nat → Nat → St → Hp → Prop, (∃ m, W 0 m σ H) ∧ ∀ i m σ H, W i m σ H →
 (J.stop i H ∧ D.nx σ H) ∨ (J.go i H ∧ ∃ N : St → Hp → Prop, (∀ σ' H', N σ' H' → ∃ m', m' < m ∧ W (i + 1) m' σ' H') ∧ ∀ x H', J.yld i H x H' → g x σ H' fun σ2 H2 => tb { D with nx := N, ct := N, bk := D.nx } σ2 H2)
section
variable {σ : St} {H : Hp} {D : Ends} {K : PySem.W.Frag} {te : TE} {g : TG} {tb : TS} {aa : TA}
theorem kq1 : (tFor (iStr te) g tb D σ H) = (te σ H fun x H1 => ∃ z, x = .str z ∧ LoopI (Its z) g tb D σ H1) := rfl
theorem kqV : (tFor (iList K te) g tb D σ H) = (te σ H fun x H1 => ∃ a, x = .ref a ∧ (∃ xs, SqL K H1 a xs) ∧ LoopI (Itl K a) g tb D σ H1) := rfl
theorem kqt : (tFor (iRng1 aa) g tb D σ H) = (aa σ H fun vs H1 => ∃ j : Int, vs = [.int j] ∧ -(2 ^ 62) ≤ j ∧ j < 2 ^ 62 ∧ LoopI (Itr 0 j.toNat) g tb D σ H1) := rfl
theorem cqX {lo : Int} {n : Nat} (Pv : Nat → St → Hp → Prop) (h0 : Pv 0 σ H)
  (hs : ∀ i σ H, i < n → Pv i σ H → g (.int (lo + i)) σ H fun σ2 H2 => tb { D with nx := Pv (i + 1), ct := Pv (i + 1), bk := D.nx } σ2 H2) (hd : ∀ σ H, Pv n σ H → D.nx σ H) : LoopI (Itr lo n) g tb D σ H := hqN Pv h0 hs hd
end
section
variable {prog : Program} {w : World} {A : Around} {R : Result → Shared → Prop} {s : Shared}
theorem dqZ {elt target iter : Expr} {ifs : List Expr} {scope : Scope} {pos : Pos} {it acc : Value} {env : Env} (I : Nat → Shared → Prop)
  (turn : ∀ n s, I n s → wpAny (model prog w) A (pyNext it) (fun r s₁ => match r with
   | none => R (.ok .next) s₁
   | some v => wpAny (model prog w) A (letOwnedTupleGo target it v) (fun _ s₁' => wpAny (model prog w) A (assign target env v) (fun _ s₂ =>
     wpAny (model prog w) A (forIn ifs true fun c r => if r = true then do let ok ← isTrue c env (eval c env); pure (ForInStep.yield ok) else pure (ForInStep.yield r)) (fun ok s₃ =>
      if ok = true then wpAny (model prog w) A (eval elt env) (fun x s₄ =>
       wpAny (model prog w) A (call (.builtin "list.append") [acc, x]) (fun _ s₅ => ∃ m, m < n ∧ I m s₅) (fun _ _ => False) s₄) (fun _ _ => False) s₃
      else ∃ m, m < n ∧ I m s₃) (fun _ _ => False) s₂) (fun _ _ => False) s₁') (fun _ _ => False) s₁) (fun _ _ => False) s)
  (n : Nat) (h : I n s) : codeAny (model prog w) A (.compLoop (.ListComp elt [⟨target, iter, ifs, 0⟩] scope pos) 0 it acc env) R s := by
 refine codeAny_loop rfl I (fun n s hI => ?_) n h
 show wpAny _ A ((compTurn (.ListComp elt [⟨target, iter, ifs, 0⟩] scope pos) 0 it acc env).onRaise (fun x => do noteFrame x env; theTreesLotGoes x)) _ _ s
 refine wpAny_noted ?_
 rw [compTurn_list]
 refine wpAny_bind (wpAny_standAt (wpAny_bind (wpAny_mono (turn n s hI) (fun r s₁ h₁ => ?_) fun _ _ h' => h'.elim)))
 cases r with
 | none => exact wpAny_pure h₁
 | some v =>
  refine wpAny_bind (wpAny_mono h₁ (fun _ s₁' h₁' => wpAny_bind (wpAny_mono h₁' (fun _ s₂ h₂ => wpAny_bind (wpAny_mono h₂ (fun ok s₃ h₃ => ?_) fun _ _ h' => h'.elim)) fun _ _ h' => h'.elim)) fun _ _ h' => h'.elim)
  cases ok with
  | false => exact wpAny_pure ⟨rfl, h₃⟩
  | true =>
   exact wpAny_bind (wpAny_bind (wpAny_mono h₃ (fun x s₄ h₄ => wpAny_bind (wpAny_mono h₄ (fun _ s₅ h₅ => wpAny_pure (wpAny_pure ⟨rfl, h₅⟩)) fun _ _ h' => h'.elim)) fun _ _ h' => h'.elim))
end
def compCx (X : Cx) (N' : List Str) (scope : Scope) (cl : List (Str × Addr)) (s : Shared) (H : Hp) (fp : List Addr) : Cx :=
 { X with N := N', s₀ := s, H₀ := H, env := compEnvC scope cl s.heap.objs.size X.env, outer := X.stack, stack := X.stack, ex := fp, fn := fun _ => false, pn := [], xe := fun _ _ => False }
inductive Frees (X : Cx) (rs : Scope) (cl : List (Str × Addr)) : List Str → List Nat → Prop where
 | nil : Frees X rs cl [] []
 | cons {y : Str} {i : Nat} {fx : List Str} {fr : List Nat} (h1 : X.N[i]? = some y) (h2 : X.env.kindOf y = some .cell) (h3 : rs.names.lookup y = some .cell) (h4 : cl.lookup y = X.env.cells.lookup y) (r : Frees X rs cl fx fr) : Frees X rs cl (y :: fx) (i :: fr)
def frV (σ : St) (fr : List Nat) : St := fr.map fun i => (σ[i]?).getD none
theorem Frees.len {X : Cx} {rs : Scope} {cl : List (Str × Addr)} {fx : List Str} {fr : List Nat} (F : Frees X rs cl fx fr) : fr.length = fx.length := by
 induction F with
 | nil => rfl
 | cons _ _ _ _ _ ih => simp [ih]
theorem Frees.at {X : Cx} {rs : Scope} {cl : List (Str × Addr)} {σ : St} : ∀ {fx : List Str} {fr : List Nat}, Frees X rs cl fx fr → ∀ (j : Nat) (y : Str) (v : V), fx[j]? = some y → (frV σ fr)[j]? = some (some v) →
  ∃ i : Nat, X.N[i]? = some y ∧ σ[i]? = some (some v) ∧ X.env.kindOf y = some .cell ∧ rs.names.lookup y = some .cell ∧ cl.lookup y = X.env.cells.lookup y
 | _, _, .nil, j, y, v, h, _ => by simp at h
 | _, _, .cons (y := z) (i := i) h1 h2 h3 h4 r, 0, y, v, h, hv => by
  simp only [List.getElem?_cons_zero, Option.some.injEq] at h
  subst h
  simp only [frV, List.map_cons, List.getElem?_cons_zero, Option.some.injEq] at hv
  refine ⟨i, h1, ?_, h2, h3, h4⟩
  cases e : σ[i]? with
  | none => rw [e] at hv; cases hv
  | some o => rw [e] at hv; exact congrArg some hv
 | _, _, .cons h1 h2 h3 h4 r, j + 1, y, v, h, hv => by
  simp only [List.getElem?_cons_succ] at h
  simp only [frV, List.map_cons, List.getElem?_cons_succ] at hv
  exact r.at j y v h hv
theorem Frees.mem {X : Cx} {rs : Scope} {cl : List (Str × Addr)} : ∀ {fx : List Str} {fr : List Nat}, Frees X rs cl fx fr → ∀ y ∈ fx, X.env.kindOf y = some .cell ∧ cl.lookup y = X.env.cells.lookup y
 | _, _, .nil, y, h => by simp at h
 | _, _, .cons h1 h2 h3 h4 r, y, h => by
  rcases List.mem_cons.mp h with rfl | h
  ·exact ⟨h2, h4⟩
  ·exact r.mem y h
section
variable {X : Cx} {pins : List (Addr × Obj)} {σ : St} {H1 : Hp} {s3 : Shared} {x : Str} {fx : List Str} {fr : List Nat} {scope : Scope} {cl : List (Str × Addr)} {fp : List Addr}
theorem jqE (I : Inv X pins σ H1 s3) (hkind : scope.kind = .function) (hcl : ∀ y c, cl.lookup y = some c → X.env.cells.lookup y = some c)
  (F : Frees X (relabel scope X.env) cl fx fr) (hfx : ((relabel scope X.env).names.all fun p => if (p.2 == .cell || p.2 == .free) then fx.contains p.1 else true) = true)
  (ffp : ∀ b ∈ fp, FpOk X pins H1 b) (flt : ∀ b ∈ fp, b < s3.heap.objs.size) : (compCx X (x :: fx) scope cl s3 H1 fp).Ok where
 mod := I.ok.mod
 kind := hkind
 glob := I.ok.glob
 blt := I.ok.blt
 above := Nat.le_refl _
 inj := fun y z c h1 h2 => I.ok.inj y z c (hcl y c h1) (hcl z c h2)
 has := fun y h => by
  have h : (relabel scope X.env).names.lookup y = some .cell ∨ (relabel scope X.env).names.lookup y = some .free := h
  have key : y ∈ fx := by
   rcases h with h | h
   ·have q := List.all_eq_true.mp hfx _ (PySem.mem_of_lookup h)
    simpa using q
   ·have q := List.all_eq_true.mp hfx _ (PySem.mem_of_lookup h)
    simpa using q
  obtain ⟨k1, k2⟩ := F.mem y key
  obtain ⟨c, e⟩ := I.ok.has y (.inl k1)
  exact ⟨c, k2.trans e⟩
 cab := fun y c h => by cases (show false = true from h)
 hd := I.ok.hd
 frames := I.ok.frames
 stk := .inl rfl
 exf := fun b hb => ⟨Nat.ne_of_lt (flt b hb), fun y c e => (ffp b hb).2.2.2.2.1 y c (hcl y c e)⟩
 bs := I.bs
 bsz := Nat.le_trans I.ok.bsz I.sz
 noex := fun b o e hb => by
  rcases (ffp b hb).2.2.2.1 with z | z
  ·exact I.ok.noex b o e z
  ·exact absurd (Nat.lt_of_lt_of_le (Heap.lt_size (I.ok.bs b o e).1) z) (Nat.lt_irrefl _)
 exfs := fun b hb z => by
  rcases List.mem_cons.mp (I.stkSub b z) with q | q
  ·exact (ffp b hb).2.1 q
  ·exact (ffp b hb).2.2.1 q
 funs := I.stack
 frf := I.stkFree
theorem gqS (I : Inv X pins σ H1 s3) (hkind : scope.kind = .function) (hcl : ∀ y c, cl.lookup y = some c → X.env.cells.lookup y = some c)
  (F : Frees X (relabel scope X.env) cl fx fr) (hfx : ((relabel scope X.env).names.all fun p => if (p.2 == .cell || p.2 == .free) then fx.contains p.1 else true) = true)
  (ffp : ∀ b ∈ fp, FpOk X pins H1 b) (flt : ∀ b ∈ fp, b < s3.heap.objs.size) {h1 : Heap} {t : Nat} {m : Str → Option Value} (hn : h1.Ns s3.heap.objs.size m)
  (keep : ∀ b u, s3.heap.get? b = some u → h1.get? b = some u) : Inv (compCx X (x :: fx) scope cl s3 H1 fp) [] (none :: frV σ fr) H1 { s3 with heap := h1, toks := t } := by
 refine ⟨jqE I hkind hcl F hfx ffp flt, rfl, I.bare, Un.kept keep, ⟨m, hn, fun i y v e1 e2 e3 => ?_⟩, fun y c e => ?_, I.hok.fresh (Nat.le_refl _), fun y c e => I.freeC y c (hcl y c e), fun p hp => absurd (show p ∈ ([] : List (Addr × Obj)) from hp) (by simp), I.hok.kept keep, ?_⟩
 ·cases i with
  | zero => simp at e2
  | succ j =>
   obtain ⟨i0, k1, k2, k3, k4, k5⟩ := F.at (σ := σ) j y v (by simpa [compCx] using e1) (by simpa using e2)
   obtain ⟨m0, hn0, hl0⟩ := I.loc
   obtain ⟨u, r, l⟩ := hl0 i0 y v k1 k2 (.inr (.inl k3))
   refine ⟨u, r, ?_⟩
   rcases l with ⟨z, _⟩ | ⟨_, c, e, o, ho, hd⟩
   ·rw [k3] at z; cases z
   ·exact .inr ⟨.inl k4, c, k5.trans e, o, keep c o ho, hd⟩
 ·obtain ⟨v, o, ho, hd⟩ := I.cell y c (hcl y c e)
  exact ⟨v, o, keep c o ho, hd⟩
 ·show (none :: frV σ fr).length = (x :: fx).length
  simp [frV, F.len]
theorem fqX {N' : List Str} {pins' : List (Addr × Obj)} {σ' : St} {H2 : Hp} {s' : Shared} {h' : Heap} (I : Inv X pins σ H1 s3) (J : Inv (compCx X N' scope cl s3 H1 fp) pins' σ' H2 s') (ffp : ∀ b ∈ fp, FpOk X pins H1 b)
  (sb : Heap.SameBut s3.heap.objs.size s'.heap h') : Inv X pins σ H2 { s' with heap := h' } := by
 have k : ∀ b u, b ≠ s3.heap.objs.size → s'.heap.get? b = some u → h'.get? b = some u := fun b u hb e => sb.extBut b u hb e
 have lt : ∀ b u, s3.heap.get? b = some u → b ≠ s3.heap.objs.size := fun b u e => Nat.ne_of_lt (Heap.lt_size e)
 have u : Un (frs X.stack) fp H1 H2 s3.heap s'.heap := J.base
 have u' : Un (frs X.stack) fp H1 H2 s3.heap h' :=
  ⟨fun b o q n hb hx => k b o (lt b o q) (u.keep b o q n hb hx), fun b o q n hb hx => by
    obtain ⟨sl, e⟩ := u.slot b o q n hb hx
    exact ⟨sl, k b _ (lt b o q) e⟩, u.free, fun b o q hx => by
    obtain ⟨o', e⟩ := u.there b o q hx
    exact ⟨o', k b _ (lt b o q) e⟩, u.tups, u.frzs, u.tbls⟩
 have nC : H2 s3.heap.objs.size = none := J.free
 have hok : HOk X.prog X.w H2 h' := fun b uo e => by
  refine (J.hok b uo e).stay (fun c v hc q => k c v ?_ q) (fun _ q => q) fun _ _ q => q
  rintro rfl
  rcases hc with z | z
  ·rw [← z, nC] at e; cases e
  ·rw [nC] at z; cases z
 have os : s'.os = s3.os := J.os
 have bare := J.bare
 obtain ⟨hh, g, d, t, os'⟩ := s'
 obtain rfl : os' = s3.os := os
 have fin := I.call (h' := h') (g' := g) (d' := d) (t' := t) (ch := fp) u' hok bare fun b hb => by
  obtain ⟨f0, f1, f2, f3, f4, f5⟩ := ffp b hb
  exact ⟨f3, f1, f4, f5⟩
 exact fin
end
def PF (X : Cx) (ifs : List Expr) (t : TT) : Prop :=
 ∀ (pins : List (Addr × Obj)) (s : Shared) (σ : St) (H : Hp) (Q : Bool → Hp → Prop), Inv X pins σ H s → t σ H Q →
  wpAny (model X.prog X.w) X.A (forIn ifs true fun c r => if r = true then do let ok ← isTrue c X.env (eval c X.env); pure (ForInStep.yield ok) else pure (ForInStep.yield r)) (TP X pins σ Q) X.xe s
def tYes : TT := fun _ H Q => Q true H
theorem fqE {X : Cx} : PF X [] tYes := fun _ _ _ H _ I h => wpAny_tests_nil ⟨H, I, h⟩
theorem lqj {X : Cx} {c : Expr} {t : TT} (h : PT X c t) : PF X [c] t := fun pins s σ H Q I q => wpAny_tests_one (h pins s σ H Q I q)
def CompI (J : It) (p : Addr) (fv : St) (tt : TT) (te : TE) (Q : VK) (H1 : Hp) : Prop :=
 ∃ W : Nat → Nat → List V → Hp → Prop, (∃ m, W 0 m [] (upd H1 p (.lst []))) ∧ ∀ i m ys H2, W i m ys H2 → H2 p = some (.lst ys) ∧
  ((J.stop i H2 ∧ Q (.ref p) H2) ∨ (J.go i H2 ∧ ys.length < sizeLine ∧ ∀ x H3, J.yld i H2 x H3 → tt (some x :: fv) H3 fun b H4 =>
   if b = true then te (some x :: fv) H4 fun y H5 => H5 p = some (.lst ys) ∧ ∃ m', m' < m ∧ W (i + 1) m' (ys ++ [y]) (upd H5 p (.lst (ys ++ [y])))
   else ∃ m', m' < m ∧ W (i + 1) m' ys H4))
def tComp (wi : TI) (fr : List Nat) (tt : TT) (te : TE) : TE := fun σ H Q => wi σ H fun J H1 => ∀ p, H1 p = none → CompI J p (frV σ fr) tt te Q H1
section
variable {X : Cx} {elt iter : Expr} {x : Str} {px pos : Pos} {ifs : List Expr} {scope : Scope} {cl : List (Str × Addr)} {fx : List Str} {fr : List Nat} {wi : TI} {tt : TT} {te : TE}
theorem gq9 {pins : List (Addr × Obj)} {σ : St} {H3 : Hp} {s3 : Shared} {it p : Addr} {fp : List Addr} {tn : Nat → Heap → Prop} {J : It} {Q : VK} {W : Nat → Nat → List V → Hp → Prop} {m0 t : Nat} {h₁ : Heap} {m : Str → Option Value} {RR : Result → Shared → Prop}
  (hc : X.calm = true) (hkind : scope.kind = .function) (hx : scope.names.lookup x = some .local) (hnd : (x :: fx).Nodup)
  (hcl : ∀ y c, cl.lookup y = some c → X.env.cells.lookup y = some c) (F : Frees X (relabel scope X.env) cl fx fr)
  (hfx : ((relabel scope X.env).names.all fun p => if (p.2 == .cell || p.2 == .free) then fx.contains p.1 else true) = true)
  (ht : ∀ s H fp, PF (compCx X (x :: fx) scope cl s H fp) ifs tt) (he : ∀ s H fp, PE (compCx X (x :: fx) scope cl s H fp) elt te)
  (I3 : Inv X pins σ H3 s3) (T : Turn X.prog X.w X.K (.Name x px) J fp it tn) (st3 : tn 0 s3.heap) (ffp : ∀ b ∈ fp, FpOk X pins H3 b) (flt3 : ∀ b ∈ fp, b < s3.heap.objs.size)
  (w0 : W 0 m0 [] H3) (turn : ∀ i m ys H2, W i m ys H2 → H2 p = some (.lst ys) ∧
   ((J.stop i H2 ∧ Q (.ref p) H2) ∨ (J.go i H2 ∧ ys.length < sizeLine ∧ ∀ x H3, J.yld i H2 x H3 → tt (some x :: frV σ fr) H3 fun b H4 =>
    if b = true then te (some x :: frV σ fr) H4 fun y H5 => H5 p = some (.lst ys) ∧ ∃ m', m' < m ∧ W (i + 1) m' (ys ++ [y]) (upd H5 p (.lst (ys ++ [y])))
    else ∃ m', m' < m ∧ W (i + 1) m' ys H4)))
  (hns : h₁.Ns s3.heap.objs.size m) (keep1 : ∀ b u, s3.heap.get? b = some u → h₁.get? b = some u)
  (fin : ∀ s6 H5 o, Inv (compCx X (x :: fx) scope cl s3 H3 fp) [] (o :: frV σ fr) H5 s6 → Q (.ref p) H5 → RR (.ok .next) s6) :
  codeAny (model X.prog X.w) X.A (.compStart (.ListComp elt [⟨.Name x px, iter, ifs, 0⟩] scope pos) 0 (.ref it) (.ref p) (compEnvC scope cl s3.heap.objs.size X.env))
   RR { s3 with heap := h₁, toks := t } := by
 have I4 := gqS (x := x) (t := t) I3 hkind hcl F hfx ffp flt3 hns keep1
 have st4 : tn 0 h₁ := T.keep _ _ _ st3 fun b hb o e => keep1 b o e
 have fp0 : ∀ b ∈ fp, H3 b = none := fun b hb => (ffp b hb).1
 have hcal : (compCx X (x :: fx) scope cl s3 H3 fp).calm = true := hc
 have stat : ∀ {H' : Hp}, (∀ b ∈ fp, H' b = none) → ∀ b ∈ fp, FpOk (compCx X (x :: fx) scope cl s3 H3 fp) [] H' b := fun {H'} hn b hb => by
  obtain ⟨f0, f1, f2, f3, f4, f5⟩ := ffp b hb
  exact ⟨hn b hb, Nat.ne_of_lt (flt3 b hb), I4.ok.exfs b hb, .inl hb, fun y c e => f4 y c (hcl y c e), fun q hq => absurd (show q ∈ ([] : List (Addr × Obj)) from hq) (by simp)⟩
 have hxl : (relabel scope X.env).names.lookup x = some .local := lookup_relabel_local hx
 have pg : PG (compCx X (x :: fx) scope cl s3 H3 fp) (.Name x px) (gName 0) := cqg (i := 0) hnd rfl (.inl hxl) (.inr hxl)
 have loop : codeAny (model X.prog X.w) X.A (.compLoop (.ListComp elt [⟨.Name x px, iter, ifs, 0⟩] scope pos) 0 (.ref it) (.ref p) (compEnvC scope cl s3.heap.objs.size X.env))
    RR { s3 with heap := h₁, toks := t } := by
  refine dqZ (fun n s' => ∃ i ys H' o, Inv (compCx X (x :: fx) scope cl s3 H3 fp) [] (o :: frV σ fr) H' s' ∧ tn i s'.heap ∧ (∀ b ∈ fp, H' b = none) ∧ W i n ys H') ?_ m0 ⟨0, [], _, none, I4, st4, fp0, w0⟩
  rintro n s5 ⟨i, ys, H5, o, I5, st5, fr5, w5⟩
  obtain ⟨hp5, alt⟩ := turn i n ys H5 w5
  rcases alt with ⟨stop, qn⟩ | ⟨go, hlen, step⟩
  ·refine thn (T.done (compCx X (x :: fx) scope cl s3 H3 fp) rfl rfl rfl hcal i [] s5 (o :: frV σ fr) H5 _ I5 (stat fr5) st5 stop) fun r s6 W' => ?_
   obtain ⟨hr, I6⟩ := W'
   subst hr
   exact fin s6 H5 o I6 qn
  ·refine thn (T.item (compCx X (x :: fx) scope cl s3 H3 fp) rfl rfl rfl hcal i [] s5 (o :: frV σ fr) H5 _ I5 (stat fr5) st5 go) fun r s6 W' => ?_
   obtain ⟨u, hr, h6⟩ := W'
   subst hr
   refine thn h6 fun _ s7 W' => ?_
   obtain ⟨y7, H7, I7, r7, yl7, st7, fr7⟩ := W'
   have I7' := I7.pinned (stat fr7) (T.obj _ _ st7)
   have back : ∀ {σ' : St} {H' : Hp} {s' : Shared}, Inv (compCx X (x :: fx) scope cl s3 H3 fp) ([] ++ pinsAt fp s7.heap) σ' H' s' → tn (i + 1) s'.heap ∧ ∀ b ∈ fp, H' b = none := fun {σ' H' s'} I' => by
    refine ⟨T.keep _ _ _ st7 fun b hb o e => (I'.pin (b, o) (List.mem_append_right _ (List.mem_append_right _ (bqA hb e)))).1, fun b hb => ?_⟩
    obtain ⟨o, e, d⟩ := T.obj _ _ st7 b hb
    exact (I'.pin (b, o) (List.mem_append_right _ (List.mem_append_right _ (bqA hb e)))).2.1
   refine thn (pg _ s7 _ H7 y7 u (fun σ' H' => σ' = some y7 :: frV σ fr ∧ H' = H7) I7' r7 ⟨rfl, rfl⟩) fun _ s8 W' => ?_
   obtain ⟨σ8, H8, I8, e8, e8'⟩ := W'
   subst e8 e8'
   refine thn (ht s3 H3 fp _ s8 _ _ _ I8 (step y7 _ yl7)) fun b s9 W' => ?_
   obtain ⟨H9, I9, q9⟩ := W'
   cases b with
   | false =>
    rw [if_neg Bool.false_ne_true] at q9 ⊢
    obtain ⟨m', hm, w9⟩ := q9
    exact ⟨m', hm, i + 1, ys, H9, some y7, I9.unpinned, (back I9).1, (back I9).2, w9⟩
   | true =>
    rw [if_pos rfl] at q9 ⊢
    refine thn (he s3 H3 fp _ s9 _ H9 _ I9 q9) fun u10 s10 W' => ?_
    obtain ⟨y10, H10, I10, r10, hp10, m', hm, w10⟩ := W'
    refine thn (eqw _ s10 _ H10 (.ref p) [y10] (.ref p) [u10] (fun _ H' => H' = upd H10 p (.lst (ys ++ [y10]))) I10 rfl (.cons r10 .nil) ⟨p, ys, y10, rfl, rfl, hp10, hlen, rfl⟩) fun _ s11 W' => ?_
    obtain ⟨_, H11, I11, _, e11⟩ := W'
    subst e11
    exact ⟨m', hm, i + 1, ys ++ [y10], _, some y7, I11.unpinned, (back I11).1, (back I11).2, w10⟩
 exact codeAny_compStart_list loop (T.self _ 0 _ _ _ st4 loop)
theorem eqn (hc : X.calm = true) (hclos : closureFor scope X.env = pure cl) (hcell : ∀ y ∈ scope.names, y.2 ≠ .cell) (hkind : scope.kind = .function)
  (hnames : ∀ y ∈ scope.names, y.2 = .local → scope.names.lookup y.1 = some .local) (hx : scope.names.lookup x = some .local) (hnd : (x :: fx).Nodup)
  (hk : (cl.all fun q => fx.contains q.1) = true) (F : Frees X (relabel scope X.env) cl fx fr)
  (hfx : ((relabel scope X.env).names.all fun p => if (p.2 == .cell || p.2 == .free) then fx.contains p.1 else true) = true)
  (hi : PI X (.Name x px) iter wi) (ht : ∀ s H fp, PF (compCx X (x :: fx) scope cl s H fp) ifs tt) (he : ∀ s H fp, PE (compCx X (x :: fx) scope cl s H fp) elt te)
  (hs : ∀ x, foldedSetIterable iter X.env x = pure x := by intro _; rfl) :
  PE X (.ListComp elt [⟨.Name x px, iter, ifs, 0⟩] scope pos) (tComp wi fr tt te) := by
 intro pins s σ H Q I h
 have hcl : ∀ y c, cl.lookup y = some c → X.env.cells.lookup y = some c := fun y c e => by
  have q := List.all_eq_true.mp hk _ (PySem.mem_of_lookup e)
  rw [← (F.mem y (by simpa using q)).2]
  exact e
 rw [eval_ListComp]
 refine wpAny_comprehension_free (use := none) rfl hs hclos hkind hnames ?_
 refine thn (hi pins s σ H _ I h) fun v s1 h1 => thn h1 fun itv s2 h2 => ?_
 obtain ⟨it, fp, tn, J, H2, e, I2, T, st2, f2, q2⟩ := h2
 subst e
 have hp0 : H2 s2.heap.objs.size = none := I2.hok.fresh (Nat.le_refl _)
 obtain ⟨W, ⟨m0, w0⟩, turn⟩ := q2 _ hp0
 have flt : ∀ b ∈ fp, b < s2.heap.objs.size := fun b hb => by
  obtain ⟨o, e, _⟩ := T.obj _ _ st2 b hb
  exact Heap.lt_size e
 refine wpAny_newObj_type (wpAny_newFunctionEnv hcell (by intro y hy; simp at hy) (fun h₁ hns₁ hsb₁ => ?_) hkind)
 dsimp only at hns₁ hsb₁ ⊢
 have hlay : ∀ b u, s2.heap.get? b = some u → (s2.heap.push { cls := .type "list", dict := none, data := .seq ([] : List Value).toArray }).get? b = some u := fun b u e => Heap.get?_push_of_some _ e
 have hnew : (s2.heap.push { cls := .type "list", dict := none, data := .seq ([] : List Value).toArray }).get? s2.heap.objs.size = some { cls := .type "list", dict := none, data := .seq ([] : List Value).toArray } := Heap.get?_push_size _ rfl
 have hsz : (s2.heap.push { cls := .type "list", dict := none, data := .seq ([] : List Value).toArray }).objs.size = s2.heap.objs.size + 1 := Heap.size_push _ _
 generalize hHH : s2.heap.push { cls := .type "list", dict := none, data := .seq ([] : List Value).toArray } = HH at hns₁ hsb₁ hlay hnew hsz ⊢
 have I3 : Inv X pins σ (upd H2 s2.heap.objs.size (.lst [])) { s2 with heap := HH, toks := s2.toks } :=
  I2.laid (t' := s2.toks) (o := .lst []) hlay (Nat.le_refl _) ⟨Nat.zero_le _, [], 0, .nil, hnew⟩
 have ffp : ∀ b ∈ fp, FpOk X pins (upd H2 s2.heap.objs.size (.lst [])) b := fun b hb => by
  obtain ⟨f0, fr'⟩ := f2 b hb
  exact ⟨by rw [aqp (Nat.ne_of_lt (flt b hb))]; exact f0, fr'⟩
 have keep1 : ∀ b u, HH.get? b = some u → h₁.get? b = some u := fun b u e => hsb₁.extBut b u (Nat.ne_of_lt (Heap.lt_size e)) (Heap.get?_push_of_some _ e)
 exact gq9 (s3 := { s2 with heap := HH, toks := s2.toks }) hc hkind hx hnd hcl F hfx ht he I3 T (T.keep _ _ _ st2 fun b hb o e => hlay b o e) ffp (fun b hb => by show b < HH.objs.size; rw [hsz]; exact Nat.lt_succ_of_lt (flt b hb)) w0 turn hns₁ keep1 fun s6 H5 o I6 qn => by
  obtain ⟨m, hn6, _⟩ := id I6.loc
  exact ⟨m, hn6, fun h' sb => ⟨.ref _, H5, fqX I3 I6 ffp sb, rfl, qn⟩⟩
end
section
variable {p : Addr} {fv : St} {te : TE} {Q : VK} {H1 : Hp}
theorem iq6 {z : Str} (hz : z.length ≤ sizeLine) (hp : H1 p = none) (f : Nat → V)
  (he : ∀ c, c ∈ z.cps.toList → ∀ (H' : Hp) (R : VK), (∀ H'', Same H' H'' → R (f c) H'') → te (some (.str ⟨#[c]⟩) :: fv) H' R)
  (hQ : ∀ H', Same H1 H' → H' p = some (.lst (z.cps.toList.map f)) → Q (.ref p) H') : CompI (Its z) p fv tYes te Q H1 := by
 have hl : z.cps.toList.length = z.length := by simp [Str.length]
 refine ⟨fun i m ys H2 => m = z.length - i ∧ i ≤ z.length ∧ ys = (z.cps.toList.take i).map f ∧ H2 p = some (.lst ys) ∧ Same H1 H2, ⟨z.length, by simp, Nat.zero_le _, by simp, aqn, fun b o e => by rw [aqp (aqj e hp)]; exact e⟩, ?_⟩
 rintro i m ys H2 ⟨rfl, hi, rfl, hp2, sm⟩
 refine ⟨hp2, ?_⟩
 by_cases hlt : i < z.length
 ·refine .inr ⟨hlt, ?_, fun x H3 y => ?_⟩
  ·rw [List.length_map, List.length_take]; omega
  ·obtain ⟨rfl, c, hc, rfl⟩ := y
   unfold tYes
   dsimp only
   rw [if_pos rfl]
   refine he c (List.mem_of_getElem? hc) _ _ fun H5 s5 => ⟨s5 _ _ hp2, z.length - (i + 1), by omega, rfl, hlt, ?_, aqn, fun b o e => ?_⟩
   ·rw [List.take_add_one, hc, List.map_append]; rfl
   ·rw [aqp (aqj e hp)]; exact s5 _ _ (sm _ _ e)
 ·have e : i = z.length := by omega
  subst e
  refine .inl ⟨Nat.le_refl _, hQ H2 sm ?_⟩
  rw [hp2, ← hl, List.take_length]
end
section
variable {σ : St} {H : Hp} {Q : VK} {K : PySem.W.Frag} {tl te : TE} {tt : TT} {fr : List Nat}
theorem kqk : frV σ [] = [] := rfl
theorem jqi {i : Nat} {r : List Nat} : frV σ (i :: r) = (σ[i]?).getD none :: frV σ r := rfl
theorem mqp {z : Str} {p : Addr} : rJoin K (.str z) [.ref p] H Q ↔ ∃ ys : List Str, SqL K H p (ys.map V.str) ∧ (ys.map (·.length)).sum + ys.length * z.length ≤ 16777216 ∧ Q (.str (Txt.join z ys)) H := by
 constructor
 ·rintro ⟨z', p', ys, h1, h2, h3⟩
  cases h1; cases h2
  exact ⟨ys, h3⟩
 ·rintro ⟨ys, h⟩
  exact ⟨z, p, ys, rfl, rfl, h⟩
theorem iq8 : (tComp (iStr tl) fr tt te σ H Q) = (tl σ H fun x H1 => ∃ z, x = .str z ∧ ∀ p, H1 p = none → CompI (Its z) p (frV σ fr) tt te Q H1) := rfl
theorem iqG : (tComp (iList K tl) fr tt te σ H Q) = (tl σ H fun x H1 => ∃ a, x = .ref a ∧ (∃ xs, SqL K H1 a xs) ∧ ∀ p, H1 p = none → CompI (Itl K a) p (frV σ fr) tt te Q H1) := rfl
end
section
variable {X : Cx} {K : PySem.W.Frag}
theorem hq4 (h : X.K = K) : OpR X (binaryOp .Add) (rAddU K) := by subst h; exact hqo
theorem aqi (h : X.K = K) : IxR X (rIx K) := by subst h; exact lqc
theorem aqR (h : X.K = K) : CallR X (.builtin "len") (rLenU K) := by subst h; exact hq9
variable {o e : Expr} {es : List Expr} {to : TE} {t : TA} {name : Str} {apos cpos : Pos} {T id : String} {r : V → List V → Hp → VK → Prop}
theorem mqm (h : X.K = K) (pa : PlainAttrs T) (slot : Slot T name id) (hty : typeOf (.builtin id) = pure (.type "method_descriptor")) (hm : MtR X id r) (ho : PE X o to) (ha : PA X (e :: es) t)
  (hbase : attributeBase o name X.env (eval o X.env) = eval o X.env := by rfl)
  (hfew : ((backTo cpos (starEach (e :: es) X.env)).all (fun x => !x.1) && (backToKw cpos (keywordEach [] X.env)).all (fun x => x.1.isSome)
   && decide ((e :: es).length + ([] : List Keyword).length + (if ([] : List Keyword).isEmpty then 0 else 1) < 30)) = true := by rfl)
  (hline : (apos.endLine == cpos.line) = true := by rfl) (hs : starEach (e :: es) X.env = (false, eval e X.env) :: starEach es X.env := by rfl) (hplain : (backTo cpos (starEach es X.env)).any (·.1) = false := by rfl) :
  PE X (.Call (.Attribute o name apos) (e :: es) [] cpos) (tBM K T r to t) := by
 subst h; exact mqv pa slot hty hm ho ha hbase hfew hline hs hplain
end
structure FunD (K : PySem.W.Frag) (x qual : Str) (st : Stmt) (f : Addr) (fd : FuncData) (T : Addr) : Prop where
 ex : ∃ (oc : Value) (od : Option Addr) (kV doc pm : Value) (an : Option Addr) (cdv ct : Value) (osl : Array (Option Value)),
  fd = PySem.W.fnOf x qual (defArgs st) (defBody st) (defScope st) (.ref T) kV doc pm an cdv ct ∧ K.lookup f = some ⟨oc, od, .func fd, osl⟩ ∧ PySem.W.codeIn K cdv qual = true
 kp : PySem.W.keepIn K (.ref f) = true
section
variable {P : Program} {w : World} {K : PySem.W.Frag} {mg : Str → Option Value} {base : Heap}
end
section
variable {σ : St} {H : Hp} {Q : VK}
theorem mqx {r : V → Hp → VK → Prop} {ta : TE} : (tUn r ta σ H Q) = (ta σ H fun x H1 => r x H1 Q) := rfl
theorem rd_U {g : Int → V} {i : Int} : rU g (.int i) H Q ↔ Q (g i) H := ⟨fun ⟨_, h1, h2⟩ => by cases h1; exact h2, fun h => ⟨i, rfl, h⟩⟩
theorem lqf {l : Addr} {y : V} : rAppend (.ref l) [y] H Q ↔ ∃ xs, H l = some (.lst xs) ∧ xs.length < sizeLine ∧ Q .non (upd H l (.lst (xs ++ [y]))) := by
 constructor
 ·rintro ⟨l', xs, y', h1, h2, h3⟩
  cases h1; cases h2
  exact ⟨xs, h3⟩
 ·rintro ⟨xs, h⟩
  exact ⟨l, xs, y, rfl, rfl, h⟩
theorem jqX {K : PySem.W.Frag} {p : Addr} : tyV K "list" (.ref p) H ↔ ∃ xs, SqL K H p xs := by
 constructor
 ·rintro (⟨_, h⟩ | ⟨h, _⟩ | ⟨h, _⟩ | ⟨h, _⟩)
  ·exact h
  ·exact absurd h (by decide)
  ·exact absurd h (by decide)
  ·exact absurd h (by decide)
 ·intro h; exact .inl ⟨rfl, h⟩
end
mutual
inductive Is (H : Hp) : PyData → V → Prop
 | non : Is H .none .non
 | bl (b : Bool) : Is H (.bool b) (.bl b)
 | int (i : Int) : Is H (.int i) (.int i)
 | str (x : Str) : Is H (.str x) (.str x)
 | lst {p : Addr} {xs : List V} {ds : List PyData} : H p = some (.lst xs) → IsAll H ds xs → Is H (.list ds) (.ref p)
 | tup {p : Addr} {xs : List V} {ds : List PyData} : H p = some (.tup xs) → IsAll H ds xs → Is H (.tuple ds) (.ref p)
inductive IsAll (H : Hp) : List PyData → List V → Prop
 | nil : IsAll H [] []
 | cons {d : PyData} {x : V} {ds : List PyData} {xs : List V} : Is H d x → IsAll H ds xs → IsAll H (d :: ds) (x :: xs)
end
mutual
theorem Is.mono {H H' : Hp} (sm : Same H H') : ∀ {d : PyData} {x : V}, Is H d x → Is H' d x
 | _, _, .non => .non
 | _, _, .bl b => .bl b
 | _, _, .int i => .int i
 | _, _, .str x => .str x
 | _, _, .lst h r => .lst (sm _ _ h) (IsAll.mono sm r)
 | _, _, .tup h r => .tup (sm _ _ h) (IsAll.mono sm r)
theorem IsAll.mono {H H' : Hp} (sm : Same H H') : ∀ {ds : List PyData} {xs : List V}, IsAll H ds xs → IsAll H' ds xs
 | _, _, .nil => .nil
 | _, _, .cons h r => .cons (Is.mono sm h) (IsAll.mono sm r)
end
theorem IsAll.length {H : Hp} : ∀ {ds : List PyData} {xs : List V}, IsAll H ds xs → ds.length = xs.length
 | _, _, .nil => rfl
 | _, _, .cons _ r => by rw [List.length_cons, List.length_cons, IsAll.length r]
theorem IsAll.append {H : Hp} : ∀ {ds es : List PyData} {xs ys : List V}, IsAll H ds xs → IsAll H es ys → IsAll H (ds ++ es) (xs ++ ys)
 | _, _, _, _, .nil, r => r
 | _, _, _, _, .cons h t, r => .cons h (t.append r)
theorem IsAll.at' {H : Hp} : ∀ {ds : List PyData} {xs : List V}, IsAll H ds xs → ∀ (i : Nat) (d : PyData), ds[i]? = some d → ∃ x, xs[i]? = some x ∧ Is H d x
 | _, _, .nil, i, x, h => by simp at h
 | _, _, .cons q r, 0, x, h => by simp at h; subst h; exact ⟨_, rfl, q⟩
 | _, _, .cons q r, i + 1, x, h => by
  obtain ⟨d, h1, h2⟩ := r.at' i x (by simpa using h)
  exact ⟨d, by simpa using h1, h2⟩
theorem IsAll.take {H : Hp} : ∀ {ds : List PyData} {xs : List V} (n : Nat), IsAll H ds xs → IsAll H (ds.take n) (xs.take n)
 | _, _, 0, _ => .nil
 | _, _, _ + 1, .nil => .nil
 | _, _, n + 1, .cons r t => .cons r (t.take n)
theorem IsAll.drop {H : Hp} : ∀ {ds : List PyData} {xs : List V} (n : Nat), IsAll H ds xs → IsAll H (ds.drop n) (xs.drop n)
 | _, _, 0, r => r
 | _, _, _ + 1, .nil => .nil
 | _, _, n + 1, .cons _ t => t.drop n
section
variable {X : Cx} {pins : List (Addr × Obj)} {σ : St} {H : Hp} {s : Shared}
mutual
theorem Is.reads (I : Inv X pins σ H s) : ∀ {d : PyData} {x : V} {v : Value}, Is H d x → RelV x v → ∃ as, Reads s.heap v d as
 | _, _, _, .non, r => by cases r; exact ⟨_, .none⟩
 | _, _, _, .bl b, r => by cases r; exact ⟨_, .bool b⟩
 | _, _, _, .int i, r => by obtain ⟨t, rfl⟩ := r; exact ⟨_, .int i t⟩
 | _, _, _, .str x, r => by obtain ⟨t, rfl⟩ := r; exact ⟨_, .str x t⟩
 | _, _, _, .lst h q, r => by
  cases r
  obtain ⟨its, vs, ⟨o, n, e, c, _, dt⟩, _⟩ := I.list (SqL.of h)
  obtain ⟨as, ra⟩ := IsAll.reads I q vs
  exact ⟨_, .list e c dt (by simpa using ra)⟩
 | _, _, _, .tup h q, r => by
  cases r
  obtain ⟨its, vs, ⟨o, e, c, n, dt⟩, _⟩ := I.tuple (SqT.of h)
  obtain ⟨as, ra⟩ := IsAll.reads I q vs
  exact ⟨_, .tuple e c dt (by simpa using ra)⟩
theorem IsAll.reads (I : Inv X pins σ H s) : ∀ {ds : List PyData} {xs : List V} {vs : List Value}, IsAll H ds xs → Vals xs vs → ∃ as, ReadsAll s.heap vs ds as
 | _, _, _, .nil, r => by cases r; exact ⟨_, .nil⟩
 | _, _, _, .cons q t, r => by
  cases r with
  | cons r1 r2 =>
   obtain ⟨as, h1⟩ := Is.reads I q r1
   obtain ⟨bs, h2⟩ := IsAll.reads I t r2
   exact ⟨_, .cons h1 h2⟩
end
def rEqD : R2 := fun x y H Q => ∃ d e, Is H d x ∧ Is H e y ∧ SeqAt.shaped d = true ∧ SeqAt.shaped e = true ∧ Q (.bl (PyData.eqv d e)) H
def rNeD : R2 := fun x y H Q => ∃ d e, Is H d x ∧ Is H e y ∧ SeqAt.shaped d = true ∧ SeqAt.shaped e = true ∧ Q (.bl (!PyData.eqv d e)) H
theorem jqq (hu : X.A.units + 64 < cLine) : OpR X (compareOp .Eq) rEqD := by
 intro pins s σ H x y v u Q I rx ry h
 obtain ⟨d, e, hx, hy, sx, sy, q⟩ := h
 obtain ⟨as, ra⟩ := hx.reads I rx
 obtain ⟨bs, rb⟩ := hy.reads I ry
 exact eq_dataH ra rb sx sy hu ⟨.bl _, H, I, rfl, q⟩
theorem lqd (hu : X.A.units + 64 < cLine) : OpR X (compareOp .NotEq) rNeD := by
 intro pins s σ H x y v u Q I rx ry h
 obtain ⟨d, e, hx, hy, sx, sy, q⟩ := h
 obtain ⟨as, ra⟩ := hx.reads I rx
 obtain ⟨bs, rb⟩ := hy.reads I ry
 exact ne_dataH ra rb sx sy hu ⟨.bl _, H, I, rfl, q⟩
end
mutual
inductive IsT (H : Hp) : PyData → V → Prop
 | non : IsT H .none .non
 | bl (b : Bool) : IsT H (.bool b) (.bl b)
 | int (i : Int) : IsT H (.int i) (.int i)
 | str (x : Str) : IsT H (.str x) (.str x)
 | tup {p : Addr} {xs : List V} {ds : List PyData} : H p = some (.tup xs) → IsTAll H ds xs → IsT H (.tuple ds) (.ref p)
inductive IsTAll (H : Hp) : List PyData → List V → Prop
 | nil : IsTAll H [] []
 | cons {d : PyData} {x : V} {ds : List PyData} {xs : List V} : IsT H d x → IsTAll H ds xs → IsTAll H (d :: ds) (x :: xs)
end
def SameT (H H' : Hp) : Prop := ∀ b xs, H b = some (.tup xs) → H' b = some (.tup xs)
theorem Same.toT {H H' : Hp} (h : Same H H') : SameT H H' := fun b xs e => h b _ e
mutual
theorem IsT.mono {H H' : Hp} (sm : SameT H H') : ∀ {d : PyData} {x : V}, IsT H d x → IsT H' d x
 | _, _, .non => .non
 | _, _, .bl b => .bl b
 | _, _, .int i => .int i
 | _, _, .str x => .str x
 | _, _, .tup h r => .tup (sm _ _ h) (IsTAll.mono sm r)
theorem IsTAll.mono {H H' : Hp} (sm : SameT H H') : ∀ {ds : List PyData} {xs : List V}, IsTAll H ds xs → IsTAll H' ds xs
 | _, _, .nil => .nil
 | _, _, .cons h r => .cons (IsT.mono sm h) (IsTAll.mono sm r)
end
mutual
theorem IsT.is {H : Hp} : ∀ {d : PyData} {x : V}, IsT H d x → Is H d x
 | _, _, .non => .non
 | _, _, .bl b => .bl b
 | _, _, .int i => .int i
 | _, _, .str x => .str x
 | _, _, .tup h r => .tup h (IsTAll.is r)
theorem IsTAll.is {H : Hp} : ∀ {ds : List PyData} {xs : List V}, IsTAll H ds xs → IsAll H ds xs
 | _, _, .nil => .nil
 | _, _, .cons h r => .cons (IsT.is h) (IsTAll.is r)
end
theorem IsTAll.append {H : Hp} : ∀ {ds es : List PyData} {xs ys : List V}, IsTAll H ds xs → IsTAll H es ys → IsTAll H (ds ++ es) (xs ++ ys)
 | _, _, _, _, .nil, r => r
 | _, _, _, _, .cons h t, r => .cons h (t.append r)
section
variable {p : Addr} {fv : St} {te : TE} {Q : VK} {H1 : Hp}
inductive All2 (R : V → V → Hp → Prop) (H : Hp) : List V → List V → Prop
 | nil : All2 R H [] []
 | cons {x y : V} {xs ys : List V} : R x y H → All2 R H xs ys → All2 R H (x :: xs) (y :: ys)
end
section
variable {X : Cx}
def rAllB (K : PySem.W.Frag) : List V → Hp → VK → Prop := fun vs H Q => ∃ (p : Addr) (bs : List Bool), vs = [.ref p] ∧ SqL K H p (bs.map V.bl) ∧ Q (.bl (bs.all id)) H
def rAnyB (K : PySem.W.Frag) : List V → Hp → VK → Prop := fun vs H Q => ∃ (p : Addr) (bs : List Bool), vs = [.ref p] ∧ SqL K H p (bs.map V.bl) ∧ Q (.bl (bs.any id)) H
theorem iq0 {bs : List Bool} : ∀ {us : List Value}, Vals (bs.map V.bl) us → ∀ (i : Nat) (v : Value), us[i]? = some v → ∃ b, bs[i]? = some b ∧ v = .bool b := by
 induction bs with
 | nil => intro us r i v h; rw [List.map_nil] at r; cases r; simp at h
 | cons b bs ih =>
  intro us r i v h
  rw [List.map_cons] at r
  cases r with
  | cons r1 r2 =>
   cases i with
   | zero => simp at h; subst h; exact ⟨b, rfl, r1⟩
   | succ i =>
    obtain ⟨c, h1, h2⟩ := ih r2 i v (by simpa using h)
    exact ⟨c, by simpa using h1, h2⟩
theorem hqO (hc : X.calm = true) : CallR X (.builtin "all") (rAllB X.K) := by
 intro pins s σ H xs us Q I r h
 obtain ⟨p, bs, rfl, hq, q⟩ := h
 obtain ⟨u, rfl, ru⟩ := vals1 r
 cases ru
 obtain ⟨its, vs, pl, hl⟩ := I.list hq
 have hI := pl.isList
 have hlt : p < s.heap.objs.size := by obtain ⟨_, e, _⟩ := hI; exact Heap.lt_size e
 refine call_all_walk (wpAny_pyIter_list hI ?_)
 refine ⟨s.heap.objs.size, [s.heap.objs.size, p], [s.heap.objs.size], its.toArray.size, _, _, fun i => (bs[i]?).getD true, rfl, Walks.list (A := X.A.in1) (I.ok.hd hc) _ p (Nat.ne_of_lt hlt) its.toArray,
  ⟨⟨_, Heap.get?_push_size _ rfl, rfl, rfl⟩, hI.push _⟩, fun i v s' Q' E' hP hQ => ?_, fun h' tk hk => ?_⟩
 ·obtain ⟨b, e, rfl⟩ := iq0 vs i v (by simpa using hP)
  simp only [e, Option.getD_some] at hQ
  exact wpAny_truthy_bool hQ
 ·have hbl := vs.length
  rw [List.length_map] at hbl
  have e : ((List.range its.toArray.size).all fun i => (bs[i]?).getD true) = bs.all id := by
   rw [List.size_toArray, ← hbl]; exact PyProof.Rows.LSm.range_all bs
  exact ⟨.bl _, H, I.kept (t' := tk) (PyProof.Rows.LSm.kept_iter hk), rfl, by rw [e]; exact q⟩
variable {K : PySem.W.Frag}
theorem eqs (h : X.K = K) (hc : X.calm = true) : CallR X (.builtin "all") (rAllB K) := by subst h; exact hqO hc
def rListU (K : PySem.W.Frag) : List V → Hp → VK → Prop := fun xs H Q => ∃ p ys, xs = [.ref p] ∧ (SqL K H p ys ∨ SqT K H p ys) ∧ ∀ l, H l = none → Q (.ref l) (upd H l (.lst ys))
def rTupleU (K : PySem.W.Frag) : List V → Hp → VK → Prop := fun xs H Q => ∃ p ys, xs = [.ref p] ∧ ((SqL K H p ys ∧ ∀ l, H l = none → Q (.ref l) (upd H l (.tup ys))) ∨ (SqT K H p ys ∧ Q (.ref p) H))
theorem gqh {tg l : Expr} {tl : TE} (h : X.K = K) (hl : PE X l tl) : PI X tg l (iTup K tl) := by subst h; exact lq2 hl
end
section
variable {H : Hp} {Q : VK} {K : PySem.W.Frag}
theorem kqX {x : V} {T : String} : (rIsiU [x, .ty T] H Q) = (∃ k, kindV x H = some k ∧ T ∈ ["bool", "int", "str", "list", "tuple"] ∧ Q (.bl (subT k T)) H) := rfl
theorem cqN : kindV .non H = some "NoneType" := rfl
theorem dqP {b : Bool} : kindV (.bl b) H = some "bool" := rfl
theorem cqL {i : Int} : kindV (.int i) H = some "int" := rfl
theorem cqZ {x : Str} : kindV (.str x) H = some "str" := rfl
theorem cqP {p : Addr} {xs : List V} (h : H p = some (.lst xs)) : kindV (.ref p) H = some "list" := by simp only [kindV, h]
theorem cqO {p : Addr} {xs : List V} (h : H p = some (.tup xs)) : kindV (.ref p) H = some "tuple" := by simp only [kindV, h]
theorem iqi : ("bool" ∈ ["bool", "int", "str", "list", "tuple"]) = True := by simp
theorem iqv : ("int" ∈ ["bool", "int", "str", "list", "tuple"]) = True := by simp
theorem iqN : ("str" ∈ ["bool", "int", "str", "list", "tuple"]) = True := by simp
theorem hqK : ("list" ∈ ["bool", "int", "str", "list", "tuple"]) = True := by simp
theorem hqh : ("tuple" ∈ ["bool", "int", "str", "list", "tuple"]) = True := by simp
theorem dqW : subT "NoneType" "bool" = false := by decide
theorem dq8 : subT "NoneType" "int" = false := by decide
theorem dq7 : subT "NoneType" "str" = false := by decide
theorem dqN : subT "NoneType" "list" = false := by decide
theorem dqB : subT "NoneType" "tuple" = false := by decide
theorem fqy : subT "bool" "bool" = true := by decide
theorem fqT : subT "bool" "int" = true := by decide
theorem fqA : subT "bool" "str" = false := by decide
theorem eq6 : subT "bool" "list" = false := by decide
theorem eqK : subT "bool" "tuple" = false := by decide
theorem fqC : subT "int" "bool" = false := by decide
theorem gqb : subT "int" "int" = true := by decide
theorem gqs : subT "int" "str" = false := by decide
theorem fq5 : subT "int" "list" = false := by decide
theorem fqw : subT "int" "tuple" = false := by decide
theorem fqR : subT "str" "bool" = false := by decide
theorem gqf : subT "str" "int" = false := by decide
theorem gql : subT "str" "str" = true := by decide
theorem fq6 : subT "str" "list" = false := by decide
theorem fqd : subT "str" "tuple" = false := by decide
theorem fqz : subT "list" "bool" = false := by decide
theorem fqO : subT "list" "int" = false := by decide
theorem fqH : subT "list" "str" = false := by decide
theorem fqc : subT "list" "list" = true := by decide
theorem eqJ : subT "list" "tuple" = false := by decide
theorem eqN : subT "tuple" "bool" = false := by decide
theorem fqk : subT "tuple" "int" = false := by decide
theorem fqx : subT "tuple" "str" = false := by decide
theorem eqL : subT "tuple" "list" = false := by decide
theorem eqp : subT "tuple" "tuple" = true := by decide
theorem kqW {n : Nat} {t : TGs} {v : V} {σ : St} {R : St → Hp → Prop} : (gTup K n t v σ H R) = (∃ a xs, v = .ref a ∧ SqT K H a xs ∧ xs.length = n ∧ t xs σ H R) := rfl
theorem jqk {t : TG} {u : TGs} {vs : List V} {σ : St} {R : St → Hp → Prop} : (gCons t u vs σ H R) = (∃ v r, vs = v :: r ∧ t v σ H fun σ' H' => u r σ' H' R) := rfl
theorem jqN {vs : List V} {σ : St} {R : St → Hp → Prop} : (gNil vs σ H R) = (vs = [] ∧ R σ H) := rfl
theorem jqP {to ti : TE} {t : TSet} {v : V} {σ : St} {R : St → Hp → Prop} : (gSub to ti t v σ H R) = (to σ H fun o H1 => ti σ H1 fun i H2 => t o i v H2 fun H3 => R σ H3) := rfl
theorem kq3 {p : Addr} {k : Int} {v : V} {R : Hp → Prop} : rSetL (.ref p) (.int k) v H R ↔ ∃ xs j, H p = some (.lst xs) ∧ ixN xs.length k = some j ∧ R (upd H p (.lst (xs.set j v))) := by
 constructor
 ·rintro ⟨p', xs, k', j, h1, h2, h3⟩; cases h1; cases h2; exact ⟨xs, j, h3⟩
 ·rintro ⟨xs, j, h⟩; exact ⟨p, xs, k, j, rfl, rfl, h⟩
end
section
variable {X : Cx} {K : PySem.W.Frag}
theorem kqZ {es : List Expr} {k : Nat} {t : TGs} {n : Nat} {pos : Pos} (h : X.K = K) (hc : X.calm = true) (hg : PGs X es t)
  (hn : (assignEach es X.env).length = n := by rfl) (hst : (assignEach es X.env).findIdx? (·.1) = none := by rfl) : PG X (.Tuple es k pos) (gTup K n t) := by
 subst h; exact jqv hc hg hn hst
end
def SameBut (p : Addr) (H H' : Hp) : Prop := ∀ b o, b ≠ p → H b = some o → H' b = some o
theorem SameBut.refl (p : Addr) (H : Hp) : SameBut p H H := fun _ _ _ e => e
theorem SameBut.trans {p : Addr} {H H' H'' : Hp} (h : SameBut p H H') (h' : SameBut p H' H'') : SameBut p H H'' := fun b o n e => h' b o n (h b o n e)
theorem Same.but {p : Addr} {H H' : Hp} (h : Same H H') : SameBut p H H' := fun b o _ e => h b o e
theorem eqF {p : Addr} {H : Hp} {o : HO} : SameBut p H (upd H p o) := fun b u n e => by rw [aqp n]; exact e
theorem SameBut.same {p : Addr} {H H' : Hp} (h : SameBut p H H') (hp : H p = none) : Same H H' := fun b o e => h b o (aqj e hp) e
section
variable {p : Addr} {fv : St} {te : TE} {Q : VK} {H1 : Hp} {K : PySem.W.Frag}
theorem Same.tup {H H' : Hp} {a : Addr} {xs : List V} (e : Same H H') (h : SqT K H a xs) : SqT K H' a xs := by
 rcases h with (h | ⟨o, h⟩) | h
 ·exact .inl (.inl (e _ _ h))
 ·exact .inl (.inr ⟨o, e _ _ h⟩)
 ·exact .inr h
variable {σ : St} {H : Hp} {tl : TE} {tt : TT} {fr : List Nat} {g : TG} {tb : TS} {D : Ends}
theorem iqu : (tComp (iTup K tl) fr tt te σ H Q) = (tl σ H fun x H1 => ∃ a, x = .ref a ∧ (∃ xs, SqT K H1 a xs) ∧ ∀ p, H1 p = none → CompI (Itt K a) p (frV σ fr) tt te Q H1) := rfl
theorem kqj : (tFor (iTup K te) g tb D σ H) = (te σ H fun x H1 => ∃ a, x = .ref a ∧ (∃ xs, SqT K H1 a xs) ∧ LoopI (Itt K a) g tb D σ H1) := rfl
theorem iqd {a : Addr} : rAllB K [.ref a] H Q ↔ ∃ bs : List Bool, SqL K H a (bs.map V.bl) ∧ Q (.bl (bs.all id)) H := by
 constructor
 ·rintro ⟨p, bs, h1, h2⟩; cases h1; exact ⟨bs, h2⟩
 ·rintro ⟨bs, h⟩; exact ⟨a, bs, rfl, h⟩
theorem kql {a : Addr} : rAnyB K [.ref a] H Q ↔ ∃ bs : List Bool, SqL K H a (bs.map V.bl) ∧ Q (.bl (bs.any id)) H := by
 constructor
 ·rintro ⟨p, bs, h1, h2⟩; cases h1; exact ⟨bs, h2⟩
 ·rintro ⟨bs, h⟩; exact ⟨a, bs, rfl, h⟩
theorem lq7 {a : Addr} : rListU K [.ref a] H Q ↔ ∃ ys, (SqL K H a ys ∨ SqT K H a ys) ∧ ∀ l, H l = none → Q (.ref l) (upd H l (.lst ys)) := by
 constructor
 ·rintro ⟨p, bs, h1, h2⟩; cases h1; exact ⟨bs, h2⟩
 ·rintro ⟨bs, h⟩; exact ⟨a, bs, rfl, h⟩
theorem lqx {a : Addr} : rTupleU K [.ref a] H Q ↔ ∃ ys, (SqL K H a ys ∧ ∀ l, H l = none → Q (.ref l) (upd H l (.tup ys))) ∨ (SqT K H a ys ∧ Q (.ref a) H) := by
 constructor
 ·rintro ⟨p, bs, h1, h2⟩; cases h1; exact ⟨bs, h2⟩
 ·rintro ⟨bs, h⟩; exact ⟨a, bs, rfl, h⟩
theorem kqh {a : Addr} {lo hi : Option Int} : rSlT K (.ref a) lo hi H Q ↔ ∃ xs, SqT K H a xs ∧ ¬ (HT.sIx xs.length 0 lo = 0 ∧ HT.sIx xs.length xs.length hi = xs.length) ∧ ∀ p, H p = none → Q (.ref p) (upd H p (.tup (cutV xs lo hi))) := by
 constructor
 ·rintro ⟨p, bs, h1, h2⟩; cases h1; exact ⟨bs, h2⟩
 ·rintro ⟨bs, h⟩; exact ⟨a, bs, rfl, h⟩
end
def tCut (t u : TS) : TS := fun D σ H => ∃ P : St → Hp → Prop, t { D with nx := P } σ H ∧ ∀ σ' H', P σ' H' → u D σ' H'
section
variable {X : Cx} {st : Stmt} {rest : List Stmt} {t u : TS}
theorem aqS (h1 : PS X st t) (h2 : PSs X rest u) : PSs X (st :: rest) (tCut t u) := by
 intro pins s σ H D I h
 obtain ⟨P, h, hu⟩ := h
 refine wpAny_execs_cons (thn (h1 pins s σ H { D with nx := P } I h) fun f s1 q => ?_)
 cases f with
 | next =>
  obtain ⟨σ', H', I', q⟩ := q
  exact h2 pins s1 σ' H' D I' (hu _ _ q)
 | ret v => exact q
 | brk => exact q
 | cont => exact q
def Later (u : TS) (D : Ends) (σ : St) (H : Hp) : Prop := u D σ H
theorem iq1 {D : Ends} {x : Option V} {σ : St} {H : Hp} : (Later u D (x :: σ) H) = (u D (x :: σ) H) := rfl
theorem lqF {D : Ends} {σ : St} {H : Hp} : (tCut t u D σ H) = (∃ P : St → Hp → Prop, t { D with nx := P } σ H ∧ ∀ σ' H', P σ' H' → Later u D σ' H') := rfl
end
theorem IsTAll.snoc {H : Hp} {ds : List PyData} {xs : List V} {d : PyData} {x : V} (h : IsTAll H ds xs) (hd : IsT H d x) : IsTAll H (ds ++ [d]) (xs ++ [x]) := h.append (.cons hd .nil)
theorem aq5 {H : Hp} {p : Addr} {o : HO} (hp : H p = none) : Same H (upd H p o) := fun b u e => by rw [aqp (aqj e hp)]; exact e
def tTupS (t : TA) : TE := fun σ H Q => t σ H fun xs H1 => xs.length ≤ sizeLine ∧ ∀ p H', H1 p = none → Same H1 H' → H' p = some (.tup xs) → Q (.ref p) H'
def tLstS (t : TA) : TE := fun σ H Q => t σ H fun xs H1 => xs.length ≤ sizeLine ∧ ∀ p H', H1 p = none → Same H1 H' → H' p = some (.lst xs) → Q (.ref p) H'
section
variable {X : Cx} {es : List Expr} {t : TA} {pos : Pos} {K : PySem.W.Frag}
theorem aqg {x1} (h : PA X es t) : PE X (.Tuple es x1 pos) (tTupS t) := by
 intro pins s σ H Q I hq
 refine wpAny_Tuple_spliced (thn (h pos pins s σ H _ I hq) fun us s1 ⟨xs, H1, I1, r, z, q⟩ => ⟨by rw [← r.length]; exact z, ?_⟩)
 have hf : H1 s1.heap.objs.size = none := I1.hok.fresh (Nat.le_refl _)
 refine ⟨.ref s1.heap.objs.size, upd H1 s1.heap.objs.size (.tup xs), I1.laid (t' := s1.toks) (fun b u e => Heap.get?_push_of_some _ e) (Nat.le_refl _) ?_, rfl, q _ _ hf (aq5 hf) aqn⟩
 exact ⟨z, us, r, ⟨_, Heap.get?_push_size _ rfl, rfl, _, rfl⟩⟩
theorem aq1 (h : PA X es t) : PE X (.List es pos) (tLstS t) := by
 intro pins s σ H Q I hq
 refine wpAny_List_spliced (thn (h pos pins s σ H _ I hq) fun us s1 ⟨xs, H1, I1, r, z, q⟩ => ⟨by rw [← r.length]; exact z, ?_⟩)
 have hf : H1 s1.heap.objs.size = none := I1.hok.fresh (Nat.le_refl _)
 refine ⟨.ref s1.heap.objs.size, upd H1 s1.heap.objs.size (.lst xs), I1.laid (t' := s1.toks) (fun b u e => Heap.get?_push_of_some _ e) (Nat.le_refl _) ?_, rfl, q _ _ hf (aq5 hf) aqn⟩
 exact ⟨z, us, 0, r, Heap.get?_push_size _ rfl⟩
def rAddS (K : PySem.W.Frag) : R2 := fun x y H Q => match x, y with
 | .int i, .int j => Q (.int (i + j)) H
 | .str i, .str j => i.length + j.length ≤ sizeLine ∧ Q (.str (i ++ j)) H
 | .ref a, .ref b => (∃ xs zs, H a = some (.lst xs) ∧ H b = some (.lst zs) ∧ xs.length + zs.length ≤ sizeLine ∧ ∀ p H', H p = none → Same H H' → H' p = some (.lst (xs ++ zs)) → Q (.ref p) H') ∨
   (∃ xs ys, H a = some (.tup xs) ∧ H b = some (.tup ys) ∧ xs.length + ys.length ≤ sizeLine ∧ ∀ p H', Same H H' → H' p = some (.tup (xs ++ ys)) → Q (.ref p) H')
 | _, _ => False
theorem aqA : OpR X (binaryOp .Add) (rAddS K) := by
 intro pins s σ H x y v u Q I rx ry h
 refine hqo pins s σ H x y v u Q I rx ry ?_
 cases x with
 | int i =>
  cases y with
  | int j => exact h
  | _ => exact h.elim
 | str i =>
  cases y with
  | str j => exact h
  | _ => exact h.elim
 | ref a =>
  cases y with
  | ref b =>
   rcases h with ⟨xs, zs, h1, h2, h3, h4⟩ | h
   ·exact .inl ⟨xs, zs, h1, h2, h3, fun p hp => h4 p _ hp (aq5 hp) aqn⟩
   ·exact .inr h
  | _ => exact h.elim
 | _ => exact h.elim
def rListS (K : PySem.W.Frag) : List V → Hp → VK → Prop := fun xs H Q => ∃ p ys, xs = [.ref p] ∧ (SqL K H p ys ∨ SqT K H p ys) ∧ ∀ l H', H l = none → Same H H' → H' l = some (.lst ys) → Q (.ref l) H'
def rTupleS (K : PySem.W.Frag) : List V → Hp → VK → Prop := fun xs H Q => ∃ p ys, xs = [.ref p] ∧ (SqL K H p ys ∨ H p = some (.tup ys)) ∧ ∀ l H', Same H H' → H' l = some (.tup ys) → Q (.ref l) H'
theorem eqZ (h : X.K = K) : CallR X (.type "list") (rListS K) := by
 subst h
 intro pins s σ H xs us Q I r h
 obtain ⟨p, ys, h1, h2, h3⟩ := h
 exact fq2 pins s σ H xs us Q I r ⟨p, ys, h1, h2, fun l hl => h3 l _ hl (aq5 hl) aqn⟩
theorem eqg (h : X.K = K) : CallR X (.type "tuple") (rTupleS K) := by
 subst h
 intro pins s σ H xs us Q I r h
 obtain ⟨p, ys, h1, h2, h3⟩ := h
 rcases h2 with h2 | h2
 ·exact dqq pins s σ H xs us Q I r ⟨p, ys, h1, .inl ⟨h2, fun l hl => h3 l _ (aq5 hl) aqn⟩⟩
 ·exact dqq pins s σ H xs us Q I r ⟨p, ys, h1, .inr ⟨SqT.of h2, h3 p H (Same.refl _) h2⟩⟩
def rSlS2 (K : PySem.W.Frag) : V → Option Int → Option Int → Hp → VK → Prop := fun x lo hi H Q => ∃ a xs, x = .ref a ∧ SqT K H a xs ∧
 ¬ (HT.sIx xs.length 0 lo = 0 ∧ HT.sIx xs.length xs.length hi = xs.length) ∧ ∀ p H', H p = none → Same H H' → H' p = some (.tup (cutV xs lo hi)) → Q (.ref p) H'
end
section
variable {σ : St} {H : Hp} {Q : VK} {K : PySem.W.Frag} {aa : TA}
theorem kqv : (tTupS aa σ H Q) = (aa σ H fun xs H1 => xs.length ≤ sizeLine ∧ ∀ p H', H1 p = none → Same H1 H' → H' p = some (.tup xs) → Q (.ref p) H') := rfl
theorem kqQ : (tLstS aa σ H Q) = (aa σ H fun xs H1 => xs.length ≤ sizeLine ∧ ∀ p H', H1 p = none → Same H1 H' → H' p = some (.lst xs) → Q (.ref p) H') := rfl
theorem kqH {i j : Int} : (rAddS K (.int i) (.int j) H Q) = (Q (.int (i + j)) H) := rfl
theorem iqh {i j : Str} : (rAddS K (.str i) (.str j) H Q) = (i.length + j.length ≤ sizeLine ∧ Q (.str (i ++ j)) H) := rfl
theorem jqZ {a : Addr} : rListS K [.ref a] H Q ↔ ∃ ys, (SqL K H a ys ∨ SqT K H a ys) ∧ ∀ l H', H l = none → Same H H' → H' l = some (.lst ys) → Q (.ref l) H' := by
 constructor
 ·rintro ⟨p, bs, h1, h2⟩; cases h1; exact ⟨bs, h2⟩
 ·rintro ⟨bs, h⟩; exact ⟨a, bs, rfl, h⟩
theorem kqp {a : Addr} : rTupleS K [.ref a] H Q ↔ ∃ ys, (SqL K H a ys ∨ H a = some (.tup ys)) ∧ ∀ l H', Same H H' → H' l = some (.tup ys) → Q (.ref l) H' := by
 constructor
 ·rintro ⟨p, bs, h1, h2⟩; cases h1; exact ⟨bs, h2⟩
 ·rintro ⟨bs, h⟩; exact ⟨a, bs, rfl, h⟩
theorem jqH {a : Addr} {lo hi : Option Int} : rSlS2 K (.ref a) lo hi H Q ↔ ∃ xs, SqT K H a xs ∧ ¬ (HT.sIx xs.length 0 lo = 0 ∧ HT.sIx xs.length xs.length hi = xs.length) ∧ ∀ p H', H p = none → Same H H' → H' p = some (.tup (cutV xs lo hi)) → Q (.ref p) H' := by
 constructor
 ·rintro ⟨p, bs, h1, h2⟩; cases h1; exact ⟨bs, h2⟩
 ·rintro ⟨bs, h⟩; exact ⟨a, bs, rfl, h⟩
end
def rSlLS (K : PySem.W.Frag) : V → Option Int → Option Int → Hp → VK → Prop := fun x lo hi H Q => ∃ a xs, x = .ref a ∧ SqL K H a xs ∧ ∀ p H', H p = none → Same H H' → H' p = some (.lst (cutV xs lo hi)) → Q (.ref p) H'
theorem jqa {X : Cx} {K : PySem.W.Frag} (h : X.K = K) : SlR X (rSlLS K) := by
 subst h
 intro pins s σ H x v vl vu lo hi sl Q I rx hs pl pu h
 obtain ⟨a, xs, h1, h2, h3⟩ := h
 exact kqf pins s σ H x v vl vu lo hi sl Q I rx hs pl pu ⟨a, xs, h1, h2, fun p hp => h3 p _ hp (aq5 hp) aqn⟩
theorem iqE {K : PySem.W.Frag} {H : Hp} {Q : VK} {a : Addr} {lo hi : Option Int} : rSlLS K (.ref a) lo hi H Q ↔ ∃ xs, SqL K H a xs ∧ ∀ p H', H p = none → Same H H' → H' p = some (.lst (cutV xs lo hi)) → Q (.ref p) H' := by
 constructor
 ·rintro ⟨p, bs, h1, h2⟩; cases h1; exact ⟨bs, h2⟩
 ·rintro ⟨bs, h⟩; exact ⟨a, bs, rfl, h⟩
def rIsB (neg : Bool) : R2 := fun x y H Q => match x, y with
 | .bl b, .bl c => Q (.bl (if neg then !decide (b = c) else decide (b = c))) H
 | _, _ => False
theorem mqF {b c : Bool} {H : Hp} {Q : VK} : (rIsB false (.bl b) (.bl c) H Q) = (Q (.bl (decide (b = c))) H) := rfl
end L2
namespace Wm
open PySem L2
def isSg (c : Nat) : Bool := decide (32 ≤ c) && decide (c ≤ 126) && !decide (c = 37)
def SG : List Nat := (List.range 127).filter isSg
def hexd (n : Nat) : Nat := if n < 10 then 48 + n else 87 + n
def fig (a : Nat) : Option Nat := if 48 ≤ a ∧ a ≤ 57 then some (a - 48) else if 97 ≤ a ∧ a ≤ 102 then some (a - 87) else if 65 ≤ a ∧ a ≤ 70 then some (a - 55) else none
abbrev one (c : Nat) : V := .str ⟨#[c]⟩
theorem jqz {c : Nat} : c ∈ SG ↔ isSg c = true := by
 unfold SG
 rw [List.mem_filter, List.mem_range]
 constructor
 ·exact fun h => h.2
 ·intro h
  refine ⟨?_, h⟩
  simp only [isSg, Bool.and_eq_true, decide_eq_true_eq] at h
  omega
theorem hqX {c : Nat} (h : isSg c = true) : 32 ≤ c ∧ c ≤ 126 ∧ c ≠ 37 := by
 simp only [isSg, Bool.and_eq_true, decide_eq_true_eq, Bool.not_eq_true', decide_eq_false_iff_not] at h
 omega
theorem jqx : SG.length = 94 := by decide +kernel
theorem mqr : Str.ofString "" = ⟨([] : List Nat).toArray⟩ := by decide +kernel
theorem hqR (l m : List Nat) : ((⟨l.toArray⟩ : Str) ++ (⟨m.toArray⟩ : Str)) = ⟨(l ++ m).toArray⟩ := by
 show Str.mk (l.toArray ++ m.toArray) = _
 simp
theorem fq0 {l m : List Nat} : ((⟨l.toArray⟩ : Str) = ⟨m.toArray⟩) ↔ l = m := by
 constructor
 ·intro h; injection h with h; injection h
 ·rintro rfl; rfl
theorem fqN (l : List Nat) : (⟨l.toArray⟩ : Str).length = l.length := by simp [Str.length]
theorem iqV : Str.ofString "~" = ⟨[126].toArray⟩ := by decide +kernel
theorem gqq (l : List Nat) (m k : Int) (h0 : 0 < k) (h : k ≤ l.length) : ∃ a, a ∈ l ∧ atI l (m % k) = some a := by
 have h1 := Int.emod_nonneg m (show k ≠ 0 by omega)
 have h2 := Int.emod_lt_of_pos m h0
 have h3 : (m % k).toNat < l.length := by omega
 refine ⟨l[(m % k).toNat], List.getElem_mem _, ?_⟩
 have := aqf (xs := l) (j := (m % k).toNat) (v := l[(m % k).toNat]) (by simp [h3])
 rw [Int.toNat_of_nonneg h1] at this
 exact this
def isPl (c : Nat) : Bool := decide (48 ≤ c ∧ c ≤ 57) || decide (65 ≤ c ∧ c ≤ 90) || decide (97 ≤ c ∧ c ≤ 122) || decide (c = 45) || decide (c = 46) || decide (c = 95)
def wr1 (c : Nat) : List Nat := if isPl c then [c] else [126, hexd (c / 16), hexd (c % 16)]
def wr (l : List Nat) : List Nat := l.flatMap wr1
def sgO (a b : Nat) : Option Nat := match fig a, fig b with
 | some h, some l => if isSg (h * 16 + l) then some (h * 16 + l) else none
 | _, _ => none
theorem kqw {ns : List Int} {k : Nat} (h : k < ns.length) : atI (ns.map V.int) (k : Int) = some (.int (ns.getD k 0)) := by
 refine aqf ?_
 rw [List.getElem?_map, List.getElem?_eq_getElem h, List.getD_eq_getElem?_getD, List.getElem?_eq_getElem h]
 rfl
theorem aqy {n : Nat} (h : n ≤ 100000) : n ≤ sizeLine := Nat.le_trans h (by decide)
theorem jqI (f : Nat → Nat) (l : List Nat) : (l.toArray).map f = (l.map f).toArray := by simp
theorem jqS (l : List Nat) : (⟨l.toArray⟩ : Str).cps.toList = l := rfl
theorem jqW (xs : List V) (m k : Int) (h0 : 0 < k) (h : k ≤ xs.length) : ∃ a, a ∈ xs ∧ atI xs (m % k) = some a := by
 have h1 := Int.emod_nonneg m (show k ≠ 0 by omega)
 have h2 := Int.emod_lt_of_pos m h0
 have h3 : (m % k).toNat < xs.length := by omega
 refine ⟨xs[(m % k).toNat], List.getElem_mem _, ?_⟩
 have := aqf (xs := xs) (j := (m % k).toNat) (v := xs[(m % k).toNat]) (by simp [h3])
 rw [Int.toNat_of_nonneg h1] at this
 exact this
def hit (a b c : Nat) : Bool := decide ([hexd (c / 16), hexd (c % 16)] = [PyProof.Rows.lo1 a, PyProof.Rows.lo1 b])
mutual
def smallD : PyData → Bool
 | .str x => decide (x.length ≤ 100000)
 | .list xs => decide (xs.length ≤ 100000) && smallAll xs
 | .tuple xs => decide (xs.length ≤ 100000) && smallAll xs
 | .dict _ => false
 | .none => true
 | .bool _ => true
 | .int _ => true
def smallAll : List PyData → Bool
 | [] => true
 | d :: ds => smallD d && smallAll ds
end
theorem bqH : ∀ {ds : List PyData} {d : PyData}, smallAll ds = true → d ∈ ds → smallD d = true
 | e :: ds, d, h, hm => by
  simp only [smallAll, Bool.and_eq_true] at h
  rcases List.mem_cons.mp hm with rfl | hm
  ·exact h.1
  ·exact bqH h.2 hm
theorem cqe : ∀ {ds : List PyData}, (∀ d ∈ ds, smallD d = true) → smallAll ds = true
 | [], _ => rfl
 | d :: ds, h => by
  simp only [smallAll, Bool.and_eq_true]
  exact ⟨h d List.mem_cons_self, cqe fun e he => h e (List.mem_cons_of_mem _ he)⟩
theorem cqu {x : Str} (h : smallD (.str x) = true) : x.length ≤ 100000 := by simpa [smallD] using h
theorem eqA {ds : List PyData} (h : smallD (.tuple ds) = true) : ds.length ≤ 100000 ∧ smallAll ds = true := by simpa [smallD] using h
theorem cqH {ds : List PyData} (h : ds.length ≤ 100000) (h2 : smallAll ds = true) : smallD (.tuple ds) = true := by simp [smallD, h, h2]
theorem fqV {ds : List PyData} (h : ds.length ≤ 100000) (h2 : smallAll ds = true) : smallD (.list ds) = true := by simp [smallD, h, h2]
def isLet (c : Nat) : Bool := decide (65 ≤ c ∧ c ≤ 90) || decide (97 ≤ c ∧ c ≤ 122)
def isAln (c : Nat) : Bool := isLet c || decide (48 ≤ c ∧ c ≤ 57)
theorem lql : (Str.ofString " !\"#$&'()*+,-./0123456789:;<=>?@ABCDEFGHIJKLMNOPQRSTUVWXYZ[\\]^_`abcdefghijklmnopqrstuvwxyz{|}~").cps.toList = SG := by decide +kernel
theorem lq6 (c : Nat) : (decide (c ∈ (Str.ofString " !\"#$&'()*+,-./0123456789:;<=>?@ABCDEFGHIJKLMNOPQRSTUVWXYZ[\\]^_`abcdefghijklmnopqrstuvwxyz{|}~").cps.toList)) = isSg c := by
 rw [lql, Bool.eq_iff_iff, decide_eq_true_eq, jqz]
def tx : PyData → Bool
 | .str x => x.cps.toList.all isSg
 | _ => false
def ftx : PyData → Bool
 | .str x => x.cps.toList.all isSg && decide (0 < x.length)
 | _ => false
def stpD : PyData → Bool
 | .tuple ds => ds.all ftx
 | _ => false
def tupN (n : Int) : PyData → Bool
 | .tuple ds => decide ((ds.length : Int) = n)
 | _ => false
abbrev st (l : List Nat) : PyData := .str ⟨l.toArray⟩
def oD : Option (List Nat) → PyData
 | none => .none
 | some l => st l
def iD : Option Int → PyData
 | none => .none
 | some i => .int i
def qD : Option (List (List Nat × Option (List Nat))) → PyData
 | none => .none
 | some ps => .tuple (ps.map fun p => .tuple [st p.1, oD p.2])
structure Ad where
 scheme : List Nat
 house : Option (List Nat)
 door : Option Int
 rooted : Bool
 steps : List (List Nat)
 ends : Bool
 quest : Option (List (List Nat × Option (List Nat)))
 mark : Option (List Nat)
def Ad.way (x : Ad) : PyData := .tuple [.bool x.rooted, .tuple (x.steps.map st), .bool x.ends]
def Ad.data (x : Ad) : PyData := .tuple [st x.scheme, oD x.house, iD x.door, x.way, qD x.quest, oD x.mark]
def Tx (n : Nat) (l : List Nat) : Prop := l.length ≤ n ∧ ∀ c ∈ l, isSg c = true
structure Ad.Ok (x : Ad) : Prop where
 sch : x.scheme.length ≤ 8 ∧ (∀ c ∈ x.scheme, isAln c = true) ∧ ∀ c ∈ x.scheme.take 1, isLet c = true
 hou : ∀ l, x.house = some l → 0 < l.length ∧ Tx 60 l
 doo : ∀ i, x.door = some i → (0 ≤ i ∧ i ≤ 65535) ∧ x.house ≠ none
 stp : x.steps.length ≤ 50 ∧ ∀ l ∈ x.steps, 0 < l.length ∧ Tx 60 l
 roo : x.scheme ≠ [] ∨ x.house ≠ none → x.rooted = true
 end_ : x.steps = [] → x.ends = x.rooted
 que : ∀ ps, x.quest = some ps → ps.length ≤ 20 ∧ ∀ p ∈ ps, (0 < p.1.length ∧ Tx 6 p.1) ∧ ∀ v, p.2 = some v → Tx 6 v
 mar : ∀ l, x.mark = some l → Tx 60 l
theorem kq8 {l : List Nat} : ((⟨l.toArray⟩ : Str) = ⟨#[]⟩) ↔ l = [] := fq0 (m := [])
def Bad (f : PyData → Bool) (H : Hp) (v : V) : Prop := ∃ d, Is H d v ∧ smallD d = true ∧ f d = false
def Bads (f : PyData → Bool) (H : Hp) (vs : List V) : Prop := ∀ v ∈ vs, Bad f H v
theorem Bads.cons {f : PyData → Bool} {H : Hp} {v : V} {vs : List V} (h : Bad f H v) (r : Bads f H vs) : Bads f H (v :: vs) := fun w hw => by
 rcases List.mem_cons.mp hw with rfl | hw
 ·exact h
 ·exact r w hw
theorem eqm {q : Addr} {H H' : Hp} {o : HO} (hq : H q = none) (sm : Same H H') : Same H (upd H' q o) := fun b u e => by
 rw [aqp (aqj e hq)]; exact sm _ _ e
def dg (i : Int) : List Nat := (Str.ofString (toString i)).cps.toList
def Hd (p : Nat → Bool) (r : List Nat) : Prop := ∀ c r', r = c :: r' → p c = true
theorem Hd.cons {p : Nat → Bool} {c : Nat} {r : List Nat} (h : p c = true) : Hd p (c :: r) := fun d r' e => by injection e with e; exact e ▸ h
def tlT (sep : Nat) : List (List Nat) → List Nat
 | [] => []
 | s :: r => sep :: (s ++ tlT sep r)
def joinT (sep : Nat) : List (List Nat) → List Nat
 | [] => []
 | s :: r => s ++ tlT sep r
def oT (sep : Nat) : Option (List Nat) → List Nat
 | none => []
 | some l => sep :: wr l
def pairT (p : List Nat × Option (List Nat)) : List Nat := wr p.1 ++ oT 61 p.2
def queT : Option (List (List Nat × Option (List Nat))) → List Nat
 | none => []
 | some ps => 63 :: joinT 38 (ps.map pairT)
def wayT (r : Bool) (ss : List (List Nat)) (e : Bool) : List Nat := (if r then [47] else []) ++ (joinT 47 (ss.map wr) ++ (if e && !ss.isEmpty then [47] else []))
def dooT : Option Int → List Nat
 | none => []
 | some i => 58 :: dg i
def houT : Option (List Nat) → List Nat
 | none => []
 | some l => 47 :: 47 :: wr l
def schT (s : List Nat) : List Nat := if s = [] then [] else s ++ [58]
def Ad.wayT (x : Ad) : List Nat := Wm.wayT x.rooted x.steps x.ends
def Ad.shw (x : Ad) : List Nat := schT x.scheme ++ (houT x.house ++ (dooT x.door ++ (x.wayT ++ (queT x.quest ++ oT 35 x.mark))))
def PairOk (p : List Nat × Option (List Nat)) : Prop := (0 < p.1.length ∧ ∀ c ∈ p.1, isSg c = true) ∧ ∀ v, p.2 = some v → ∀ c ∈ v, isSg c = true
def StepOk (s : List Nat) : Prop := 0 < s.length ∧ ∀ c ∈ s, isSg c = true
structure Ad.Wf (x : Ad) : Prop where
 sch : x.scheme.length ≤ 8 ∧ (∀ c ∈ x.scheme, isAln c = true) ∧ ∀ c ∈ x.scheme.take 1, isLet c = true
 hou : ∀ l, x.house = some l → (0 < l.length ∧ l.length ≤ 60) ∧ ∀ c ∈ l, isSg c = true
 doo : ∀ i, x.door = some i → (0 ≤ i ∧ i ≤ 65535) ∧ x.house ≠ none
 stp : ∀ s ∈ x.steps, StepOk s
 roo : x.scheme ≠ [] ∨ x.house ≠ none → x.rooted = true
 end_ : x.steps = [] → x.ends = x.rooted
 que : ∀ ps, x.quest = some ps → ∀ p ∈ ps, PairOk p
 mar : ∀ l, x.mark = some l → ∀ c ∈ l, isSg c = true
def Ad.mid (x : Ad) : List Nat := houT x.house ++ (dooT x.door ++ x.wayT)
def Ad.pre (x : Ad) : List Nat := schT x.scheme ++ x.mid
def LayAt (n : Nat) (d : PyData) : Prop := d.canLay0 = true ∧ d.depth ≤ n
theorem LayAt.shaped {n : Nat} {d : PyData} (h : LayAt n d) (hn : n ≤ 64) : SeqAt.shaped d = true := by
 unfold SeqAt.shaped; rw [h.1, decide_eq_true (Nat.le_trans h.2 hn)]; rfl
theorem LayAt.le {n m : Nat} {d : PyData} (h : LayAt n d) (hn : n ≤ m) : LayAt m d := ⟨h.1, Nat.le_trans h.2 hn⟩
theorem layAll {n : Nat} : ∀ {ds : List PyData}, (∀ d ∈ ds, LayAt n d) → PyData.canLayAll0 ds = true ∧ PyData.depthAll ds ≤ n
 | [], _ => ⟨rfl, Nat.zero_le _⟩
 | d :: ds, h => by
  obtain ⟨h1, h2⟩ := layAll (ds := ds) fun e he => h e (List.mem_cons_of_mem _ he)
  have := h d (List.mem_cons_self ..)
  simp only [PyData.canLayAll0, PyData.depthAll, this.1, h1, Bool.and_self, true_and]
  exact Nat.max_le.mpr ⟨this.2, h2⟩
theorem LayAt.tup {n : Nat} {ds : List PyData} (h : ∀ d ∈ ds, LayAt n d) : LayAt (n + 1) (.tuple ds) := by
 obtain ⟨h1, h2⟩ := layAll h
 exact ⟨by simp only [PyData.canLay0, h1], by simp only [PyData.depth]; omega⟩
theorem LayAt.st {l : List Nat} (h : ∀ c ∈ l, isSg c = true) : LayAt 0 (st l) := by
 refine ⟨?_, Nat.le_refl _⟩
 simp only [PyData.canLay0, PyData.strOk, List.all_toArray, List.all_eq_true, decide_eq_true_eq]
 intro c hc
 have := hqX (h c hc)
 omega
end Wm
namespace Wm
structure Ad.Sz (x : Ad) : Prop where
 stp : ∀ s ∈ x.steps, s.length ≤ 2000
 que : ∀ ps, x.quest = some ps → ps.length ≤ 2000 ∧ ∀ p ∈ ps, p.1.length ≤ 2000 ∧ ∀ v, p.2 = some v → v.length ≤ 2000
 mar : ∀ l, x.mark = some l → l.length ≤ 2000
 num : x.steps.length ≤ 2000
 all : x.shw.length ≤ 90000
end Wm
namespace Wm
open PySem L2
end Wm
namespace L2
open PySem
end L2
namespace Wm
open PySem L2
abbrev Stp := List Nat
def sUp : Stp := [46, 46]
def sStay : Stp := [46]
def isDot (s : Stp) : Bool := decide (s = sUp) || decide (s = sStay)
theorem gqn {s : Stp} : isDot s = false ↔ s ≠ sUp ∧ s ≠ sStay := by simp [isDot]
def fwd (r : Bool) (q : Nat × List Stp) (s : Stp) : Nat × List Stp :=
 if s = sUp then (match q.2 with | [] => (if r then q.1 else q.1 + 1, []) | _ :: t => (q.1, t))
 else if s = sStay then q else (q.1, s :: q.2)
def goneS (r : Bool) (ss : List Stp) : List Stp := List.replicate (ss.foldl (fwd r) (0, [])).1 sUp ++ (ss.foldl (fwd r) (0, [])).2.reverse
def lastDot (ss : List Stp) : Bool := match ss.getLast? with | some s => isDot s | none => false
def goneW (r : Bool) (ss : List Stp) (e : Bool) : Bool × List Stp × Bool :=
 if ss = [] then (r, [], e) else if goneS r ss = [] then (r, if r then [] else [sStay], true) else (r, goneS r ss, e || lastDot ss)
def stk (q : Nat × List Stp) : List Stp := List.replicate q.1 sUp ++ q.2.reverse
end Wm
namespace L2
open PySem PySem.Spec PyProof.Rows HT
section
variable {prog : Program} {w : World} {A : Around} {E : Value → Shared → Prop} {s : Shared}
theorem dql {t sl : Addr} {items : Array Value} {vl vu : Value} {lo hi : Option Int} {Q : Value → Shared → Prop} (ht : IsTup s.heap t items) (hs : s.heap.IsSliceOf sl vl vu .none) (pl : IsPart vl lo) (pu : IsPart vu hi)
  (hw : sIx items.size 0 lo = 0 ∧ sIx items.size items.size hi = items.size) (h : Q (.ref t) s) : wpAny (model prog w) A (getItem (.ref t) (.ref sl)) Q E s := by
 obtain ⟨os, hos, hcs, hds⟩ := id hs
 have hTs : s.TypeIs (.ref sl) "slice" := ⟨os, hos, hcs⟩
 unfold getItem
 try with_reducible refine wpAny_holding ?_
 first | refine wpAny_bind (wpAny_pure ?_) | skip
 refine wpAny_bind (wpAny_sequenceKey ht.typeIs (by decide) ?_)
 refine wpAny_bind (wpAny_callSpecial?_slot (name := Str.ofString "__getitem__") ht.typeIs PyProof.Rows.slot_tuple_getitem
  (wpAny_call_entry PyProof.Rows.slot_tuple_getitem ht.typeIs entry_tuple_getitem ?_ (args_tuple_getitem _ _)))
 show wpAny _ _ (Builtin.Tuple.tupleItemsOf (.ref t) >>= _) _ _ s
 refine wpAny_bind (tupleItemsOf_ ht ?_)
 refine wpAny_bind (wpAny_typeOf hTs ?_)
 rw [if_pos (by decide)]
 refine wpAny_bind (cqm hs pl pu ?_)
 show wpAny _ _ (if (((sIx items.size 0 lo : Nat) : Int) == 0 && (1 : Int) == 1 && (sIx items.size items.size hi - sIx items.size 0 lo) == items.size) = true then _ else _) _ _ s
 rw [if_pos (by rw [hw.1, hw.2]; simp)]
 refine wpAny_bind ?_
 show wpAny _ _ (typeOf (.ref t) >>= _) _ _ s
 refine wpAny_bind (wpAny_typeOf ht.typeIs (wpAny_pure ?_))
 rw [if_pos (by decide)]
 exact wpAny_bind (wpAny_rule (wpAny_pure ⟨_, rfl, wpAny_pure h⟩))
end
section
variable {X : Cx} {K : PySem.W.Frag}
def rSlTA : V → Option Int → Option Int → Hp → VK → Prop := fun x lo hi H Q => ∃ a xs, x = .ref a ∧ H a = some (.tup xs) ∧ ∀ p H', Same H H' → H' p = some (.tup (cutV xs lo hi)) → Q (.ref p) H'
theorem hqb {xs : List V} {lo hi : Option Int} (h : sIx xs.length 0 lo = 0 ∧ sIx xs.length xs.length hi = xs.length) : cutV xs lo hi = xs := by
 unfold cutV
 rw [h.1, h.2, List.drop_zero, Nat.sub_zero, List.take_length]
theorem fqv : SlR X rSlTA := by
 intro pins s σ H x v vl vu lo hi sl Q I rx hs pl pu h
 obtain ⟨a, xs, rfl, hx, q⟩ := h
 by_cases hw : sIx xs.length 0 lo = 0 ∧ sIx xs.length xs.length hi = xs.length
 ·cases rx
  obtain ⟨its, r, ht, hz⟩ := I.tuple (SqT.of hx)
  have hlen : its.toArray.size = xs.length := by rw [List.size_toArray]; exact r.length.symm
  refine ⟨"tuple", _, PyProof.Rows.slot_tuple_getitem.lookup, ht.typeIs, ?_⟩
  exact dql ht hs pl pu (by rw [hlen]; exact hw) ⟨.ref a, H, I, rfl, q a H (Same.refl _) (by rw [hqb hw]; exact hx)⟩
 ·exact lqn pins s σ H _ v vl vu lo hi sl Q I rx hs pl pu ⟨a, xs, rfl, SqT.of hx, hw, fun p hp => q p _ (aq5 hp) aqn⟩
theorem iqr {a : Addr} {lo hi : Option Int} {H : Hp} {Q : VK} : rSlTA (.ref a) lo hi H Q ↔ ∃ xs, H a = some (.tup xs) ∧ ∀ p H', Same H H' → H' p = some (.tup (cutV xs lo hi)) → Q (.ref p) H' := by
 constructor
 ·rintro ⟨p, bs, h1, h2⟩; cases h1; exact ⟨bs, h2⟩
 ·rintro ⟨bs, h⟩; exact ⟨a, bs, rfl, h⟩
end
mutual
inductive IsK (K : PySem.W.Frag) (H : Hp) : PyData → V → Prop
 | non : IsK K H .none .non
 | bl (b : Bool) : IsK K H (.bool b) (.bl b)
 | int (i : Int) : IsK K H (.int i) (.int i)
 | str (x : Str) : IsK K H (.str x) (.str x)
 | tup {p : Addr} {xs : List V} {ds : List PyData} : SqT K H p xs → IsKAll K H ds xs → IsK K H (.tuple ds) (.ref p)
inductive IsKAll (K : PySem.W.Frag) (H : Hp) : List PyData → List V → Prop
 | nil : IsKAll K H [] []
 | cons {d : PyData} {x : V} {ds : List PyData} {xs : List V} : IsK K H d x → IsKAll K H ds xs → IsKAll K H (d :: ds) (x :: xs)
end
section
variable {K : PySem.W.Frag} {H H' : Hp}
mutual
theorem IsK.mono (sm : Same H H') : ∀ {d : PyData} {x : V}, IsK K H d x → IsK K H' d x
 | _, _, .non => .non
 | _, _, .bl b => .bl b
 | _, _, .int i => .int i
 | _, _, .str x => .str x
 | _, _, .tup h r => .tup (sm.tup h) (IsKAll.mono sm r)
theorem IsKAll.mono (sm : Same H H') : ∀ {ds : List PyData} {xs : List V}, IsKAll K H ds xs → IsKAll K H' ds xs
 | _, _, .nil => .nil
 | _, _, .cons h r => .cons (IsK.mono sm h) (IsKAll.mono sm r)
end
mutual
theorem IsT.k : ∀ {d : PyData} {x : V}, IsT H d x → IsK K H d x
 | _, _, .non => .non
 | _, _, .bl b => .bl b
 | _, _, .int i => .int i
 | _, _, .str x => .str x
 | _, _, .tup h r => .tup (SqT.of h) (IsTAll.k r)
theorem IsTAll.k : ∀ {ds : List PyData} {xs : List V}, IsTAll H ds xs → IsKAll K H ds xs
 | _, _, .nil => .nil
 | _, _, .cons h r => .cons (IsT.k h) (IsTAll.k r)
end
end
section
variable {X : Cx} {pins : List (Addr × Obj)} {σ : St} {H : Hp} {s : Shared}
mutual
theorem IsK.reads (I : Inv X pins σ H s) : ∀ {d : PyData} {x : V} {v : Value}, IsK X.K H d x → RelV x v → ∃ as, Reads s.heap v d as
 | _, _, _, .non, r => by cases r; exact ⟨_, .none⟩
 | _, _, _, .bl b, r => by cases r; exact ⟨_, .bool b⟩
 | _, _, _, .int i, r => by obtain ⟨t, rfl⟩ := r; exact ⟨_, .int i t⟩
 | _, _, _, .str x, r => by obtain ⟨t, rfl⟩ := r; exact ⟨_, .str x t⟩
 | _, _, _, .tup h q, r => by
  cases r
  obtain ⟨its, vs, ⟨o, e, c, n, dt⟩, _⟩ := I.tuple h
  obtain ⟨as, ra⟩ := IsKAll.reads I q vs
  exact ⟨_, .tuple e c dt (by simpa using ra)⟩
theorem IsKAll.reads (I : Inv X pins σ H s) : ∀ {ds : List PyData} {xs : List V} {vs : List Value}, IsKAll X.K H ds xs → Vals xs vs → ∃ as, ReadsAll s.heap vs ds as
 | _, _, _, .nil, r => by cases r; exact ⟨_, .nil⟩
 | _, _, _, .cons q t, r => by
  cases r with
  | cons r1 r2 =>
   obtain ⟨as, h1⟩ := IsK.reads I q r1
   obtain ⟨bs, h2⟩ := IsKAll.reads I t r2
   exact ⟨_, .cons h1 h2⟩
end
variable {K : PySem.W.Frag}
def rSlX (K : PySem.W.Frag) : V → Option Int → Option Int → Hp → VK → Prop := fun x lo hi H Q => ∃ a xs, x = .ref a ∧ SqT K H a xs ∧ ∀ p H', Same H H' → SqT K H' p (cutV xs lo hi) → Q (.ref p) H'
theorem jq9 {a : Addr} {lo hi : Option Int} {H : Hp} {Q : VK} : rSlX K (.ref a) lo hi H Q ↔ ∃ xs, SqT K H a xs ∧ ∀ p H', Same H H' → SqT K H' p (cutV xs lo hi) → Q (.ref p) H' := by
 constructor
 ·rintro ⟨p, bs, h1, h2⟩; cases h1; exact ⟨bs, h2⟩
 ·rintro ⟨bs, h⟩; exact ⟨a, bs, rfl, h⟩
def rCatX (K : PySem.W.Frag) : R2 := fun x y H Q => ∃ a b xs ys, x = .ref a ∧ y = .ref b ∧ SqT K H a xs ∧ SqT K H b ys ∧ xs.length + ys.length ≤ sizeLine ∧ ∀ p H', Same H H' → SqT K H' p (xs ++ ys) → Q (.ref p) H'
theorem iqD {a b : Addr} {H : Hp} {Q : VK} : rCatX K (.ref a) (.ref b) H Q ↔ ∃ xs ys, SqT K H a xs ∧ SqT K H b ys ∧ xs.length + ys.length ≤ sizeLine ∧ ∀ p H', Same H H' → SqT K H' p (xs ++ ys) → Q (.ref p) H' := by
 constructor
 ·rintro ⟨p, p', xs, ys, h1, h2, h3⟩; cases h1; cases h2; exact ⟨xs, ys, h3⟩
 ·rintro ⟨xs, ys, h⟩; exact ⟨a, b, xs, ys, rfl, rfl, h⟩
def KindK (K : PySem.W.Frag) (H : Hp) (x : V) (k : String) : Prop := kindV x H = some k ∨ ∃ a xs, x = .ref a ∧ SqT K H a xs ∧ k = "tuple"
theorem KindK.tup {K : PySem.W.Frag} {H : Hp} {a : Addr} {xs : List V} (h : SqT K H a xs) : KindK K H (.ref a) "tuple" := .inr ⟨a, xs, rfl, h, rfl⟩
def rIsiX (K : PySem.W.Frag) : List V → Hp → VK → Prop := fun vs H Q => match vs with
 | [x, .ty T] => ∃ k, KindK K H x k ∧ T ∈ ["bool", "int", "str", "list", "tuple"] ∧ Q (.bl (subT k T)) H
 | _ => False
theorem iqt {x : V} {T : String} {H : Hp} {Q : VK} : (rIsiX K [x, .ty T] H Q) = (∃ k, KindK K H x k ∧ T ∈ ["bool", "int", "str", "list", "tuple"] ∧ Q (.bl (subT k T)) H) := rfl
end
end L2
namespace Wm
open PySem L2
section
variable {K : PySem.W.Frag} {H : Hp}
end
end Wm
namespace L2
open PySem PySem.Spec PyProof.Rows
def pickV {α : Type} (xs : List α) (lo hi st : Option Int) : List α :=
 (sliceRange (sliceBounds lo hi st xs.length).1 (sliceBounds lo hi st xs.length).2.1 (sliceBounds lo hi st xs.length).2.2).filterMap fun i => xs[i]?
section
variable {X : Cx}
def tSl3 (K : PySem.W.Frag) (te : TE) (tl th ts : TO) : TE := fun σ H Q => te σ H fun x H1 => tl σ H1 fun l H2 => th σ H2 fun u H3 => ts σ H3 fun k H4 =>
 ∃ a xs, x = .ref a ∧ SqL K H4 a xs ∧ k ≠ some 0 ∧ (pickV xs l u k).length ≤ sizeLine ∧ ∀ p, H4 p = none → Q (.ref p) (upd H4 p (.lst (pickV xs l u k)))
end
theorem lq4 {K : PySem.W.Frag} {te : TE} {tl th ts : TO} {σ : St} {H : Hp} {Q : VK} : tSl3 K te tl th ts σ H Q ↔ te σ H fun x H1 => tl σ H1 fun l H2 => th σ H2 fun u H3 => ts σ H3 fun k H4 =>
 ∃ a xs, x = .ref a ∧ SqL K H4 a xs ∧ k ≠ some 0 ∧ (pickV xs l u k).length ≤ sizeLine ∧ ∀ p, H4 p = none → Q (.ref p) (upd H4 p (.lst (pickV xs l u k))) := Iff.rfl
end L2
namespace Wm
open PySem L2
abbrev Way := Bool × List Stp × Bool
def Ad.w (x : Ad) : Way := (x.rooted, x.steps, x.ends)
def Ad.withWay (x : Ad) (w : Way) : Ad := { x with rooted := w.1, steps := w.2.1, ends := w.2.2 }
def goneV (w : Way) : Way := goneW w.1 w.2.1 w.2.2
def Ad.gone (x : Ad) : Ad := x.withWay (goneV x.w)
theorem lqT {l : Addr} {H : Hp} {Q : VK} : rReverse (.ref l) [] H Q ↔ ∃ xs, H l = some (.lst xs) ∧ Q .non (upd H l (.lst xs.reverse)) :=
 ⟨fun ⟨_, xs, e, _, h, q⟩ => by cases e; exact ⟨xs, h, q⟩, fun ⟨xs, h, q⟩ => ⟨l, xs, rfl, rfl, h, q⟩⟩
abbrev sV (l : List Nat) : V := .str ⟨l.toArray⟩
theorem gqE (ds : List PyData) : PyData.eqv (.list ds) (.list []) = ds.isEmpty := by
 cases ds <;> simp [PyData.eqv, PyData.eqvAll]
theorem kqm (s : Stp) : inV (sV s) [sV sStay, sV sUp] = isDot s := by
 have e : ∀ a : Stp, eqV (sV a) (sV s) = decide (s = a) := fun a => by
  show ((⟨a.toArray⟩ : Str) == ⟨s.toArray⟩) = decide (s = a)
  rw [Bool.eq_iff_iff, beq_iff_eq, decide_eq_true_eq, fq0]
  exact ⟨Eq.symm, Eq.symm⟩
 unfold inV isDot
 simp only [List.any_cons, List.any_nil, Bool.or_false, e]
 rw [Bool.or_comm]
end Wm
namespace L2
open PySem
theorem eqW {X : Cx} {K : PySem.W.Frag} (h : X.K = K) : OpR X (compareOp .In) (rIn K false) := by subst h; exact iqf
theorem lqD {l : Addr} {H : Hp} {Q : VK} : rPop (.ref l) [] H Q ↔ ∃ xs y, H l = some (.lst xs) ∧ xs[xs.length - 1]? = some y ∧ Q y (upd H l (.lst xs.dropLast)) :=
 ⟨fun ⟨_, xs, y, h1, _, h3, h4, h5⟩ => by cases h1; exact ⟨xs, y, h3, h4, h5⟩, fun ⟨xs, y, h3, h4, h5⟩ => ⟨_, xs, y, rfl, rfl, h3, h4, h5⟩⟩
theorem iqJ {D : Ends} {σ : St} {H : Hp} : (tNever D σ H) = (False) := rfl
end L2
namespace Wm
open PySem L2
structure Ad.Tiny (x : Ad) : Prop where
 stp : ∀ s ∈ x.steps, s.length ≤ 9
 que : ∀ ps, x.quest = some ps → ps.length ≤ 3 ∧ ∀ p ∈ ps, p.1.length ≤ 5 ∧ ∀ v, p.2 = some v → v.length ≤ 6
 mar : ∀ l, x.mark = some l → l.length ≤ 7
 hou : ∀ l, x.house = some l → l.length ≤ 13
end Wm
namespace Wm
end Wm
namespace Wm
open PySem L2
def cutA {α : Type} (xs : List α) (lo hi : Option Int) : List α := (xs.drop (HT.sIx xs.length 0 lo)).take (HT.sIx xs.length xs.length hi - HT.sIx xs.length 0 lo)
theorem iqW {α : Type} (f : α → V) (xs : List α) (lo hi : Option Int) : cutV (xs.map f) lo hi = (cutA xs lo hi).map f := by
 unfold cutV cutA; rw [List.length_map, List.map_take, List.map_drop]
theorem kqB {α : Type} (xs : List α) {n : Nat} {i : Int} (h : HT.sIx xs.length xs.length (some i) = n) : cutA xs none (some i) = xs.take n := by
 unfold cutA
 rw [h, show HT.sIx xs.length 0 none = 0 from rfl, List.drop_zero, Nat.sub_zero]
theorem hqi {α : Type} (xs : List α) : cutA xs none (some (-1)) = xs.dropLast := by
 rw [kqB (n := xs.length - 1), List.dropLast_eq_take]
 show (if (-1 : Int) < 0 then ((-1 : Int) + (xs.length : Int)).toNat else min (-1 : Int).toNat xs.length) = _
 rw [if_pos (by decide)]; omega
end Wm
namespace L2
open PySem
end L2
namespace Wm
open PySem L2
section
variable {H : Hp}
end
theorem Ad.Wf.local {x : Ad} (h : x.Wf) : ({ x with scheme := [], house := none, door := none } : Ad).Wf :=
 ⟨⟨Nat.zero_le _, (fun c hc => by cases hc), (fun c hc => by cases hc)⟩, (fun l e => by cases e), (fun l e => by cases e), h.stp, (fun z => z.elim (fun y => absurd rfl y) (fun y => absurd rfl y)), h.end_, h.que, h.mar⟩
def Goods (n : Nat) (H : Hp) (vs : List V) : Prop := ∀ v ∈ vs, ∃ x : Ad, x.Wf ∧ x.steps.length ≤ n ∧ IsT H x.data v
theorem Goods.cons {n : Nat} {H : Hp} {v : V} {vs : List V} {x : Ad} (h1 : x.Wf) (h2 : x.steps.length ≤ n) (h3 : IsT H x.data v) (h : Goods n H vs) : Goods n H (v :: vs) := fun u hu => by
 rcases List.mem_cons.mp hu with rfl | hu
 ·exact ⟨x, h1, h2, h3⟩
 ·exact h u hu
end Wm
namespace L2
open PySem PySem.Spec PyProof.Rows
theorem gqJ {X : Cx} : OpR X (compareOp .IsNot) (rIsB true) := by
 intro pins s σ H x y v u Q I rx ry h
 cases x with
 | bl b =>
  cases y with
  | bl c => cases rx; cases ry; exact isnot_bool (aqu I h (by cases b <;> cases c <;> rfl))
  | _ => exact h.elim
 | _ => exact h.elim
theorem mqJ {b c : Bool} {H : Hp} {Q : VK} : (rIsB true (.bl b) (.bl c) H Q) = (Q (.bl (!decide (b = c))) H) := rfl
end L2
namespace Wm
open PySem L2
structure GoodAd (n : Nat) (x : Ad) : Prop where
 wf : x.Wf
 ti : x.Tiny
 sc : x.scheme ≠ []
 ln : x.steps.length ≤ n
end Wm
namespace L2
open PySem PySem.Spec PyProof.Rows
section
variable {prog : Program} {w : World} {A : Around} {E : Value → Shared → Prop} {s : Shared}
end
def Itv (K : PySem.W.Frag) (a : Addr) (n : Nat) : It :=
 ⟨fun i H => ∃ xs x, SqT K H a xs ∧ xs.length = n ∧ i < n ∧ xs[n - 1 - i]? = some x, fun i H x H' => H' = H ∧ ∀ xs, SqT K H a xs → xs.length = n → xs[n - 1 - i]? = some x, fun i _ => n ≤ i⟩
section
variable {X : Cx} {tg : Expr} {K : PySem.W.Frag}
def iRev (K : PySem.W.Frag) (ta : TA) : TI := fun σ H R => ta σ H fun vs H1 => ∃ a xs, vs = [.ref a] ∧ SqT K H1 a xs ∧ R (Itv K a xs.length) H1
variable {σ : St} {H : Hp} {D : Ends} {g : TG} {tb : TS} {aa : TA}
theorem jqM : (tFor (iRev K aa) g tb D σ H) = (aa σ H fun vs H1 => ∃ a xs, vs = [.ref a] ∧ SqT K H1 a xs ∧ LoopI (Itv K a xs.length) g tb D σ H1) := rfl
end
section
variable {X : Cx}
def rRepT : R2 := fun x y H Q => ∃ a k xs, x = .ref a ∧ y = .int k ∧ H a = some (.tup xs) ∧ 2 ≤ k ∧ k < 1000 ∧ xs.length * k.toNat ≤ sizeLine ∧ ∀ p H', Same H H' → H' p = some (.tup (List.replicate k.toNat xs).flatten) → Q (.ref p) H'
theorem iqX {a : Addr} {k : Int} {H : Hp} {Q : VK} : rRepT (.ref a) (.int k) H Q ↔ ∃ xs, H a = some (.tup xs) ∧ 2 ≤ k ∧ k < 1000 ∧ xs.length * k.toNat ≤ sizeLine ∧ ∀ p H', Same H H' → H' p = some (.tup (List.replicate k.toNat xs).flatten) → Q (.ref p) H' := by
 constructor
 ·rintro ⟨a', k', xs, h1, h2, h⟩; cases h1; cases h2; exact ⟨xs, h⟩
 ·rintro ⟨xs, h⟩; exact ⟨a, k, xs, rfl, rfl, h⟩
def rRepS : R2 := fun x y H Q => ∃ l k xs, x = .ref l ∧ y = .int k ∧ H l = some (.lst xs) ∧ 0 ≤ k ∧ k < 1000000 ∧ xs.length * k.toNat ≤ sizeLine ∧ ∀ p H', H p = none → Same H H' → H' p = some (.lst (List.replicate k.toNat xs).flatten) → Q (.ref p) H'
theorem jqf {a : Addr} {k : Int} {H : Hp} {Q : VK} : rRepS (.ref a) (.int k) H Q ↔ ∃ xs, H a = some (.lst xs) ∧ 0 ≤ k ∧ k < 1000000 ∧ xs.length * k.toNat ≤ sizeLine ∧ ∀ p H', H p = none → Same H H' → H' p = some (.lst (List.replicate k.toNat xs).flatten) → Q (.ref p) H' := by
 constructor
 ·rintro ⟨a', k', xs, h1, h2, h⟩; cases h1; cases h2; exact ⟨xs, h⟩
 ·rintro ⟨xs, h⟩; exact ⟨a, k, xs, rfl, rfl, h⟩
end
section
variable {X : Cx}
def rRepN : R2 := fun x y H Q => ∃ a k xs, x = .ref a ∧ y = .int k ∧ H a = some (.tup xs) ∧ 0 ≤ k ∧ k < 1000 ∧ xs.length * k.toNat ≤ sizeLine ∧ ∀ p H', Same H H' → H' p = some (.tup (List.replicate k.toNat xs).flatten) → Q (.ref p) H'
theorem iqz {a : Addr} {k : Int} {H : Hp} {Q : VK} : rRepN (.ref a) (.int k) H Q ↔ ∃ xs, H a = some (.tup xs) ∧ 0 ≤ k ∧ k < 1000 ∧ xs.length * k.toNat ≤ sizeLine ∧ ∀ p H', Same H H' → H' p = some (.tup (List.replicate k.toNat xs).flatten) → Q (.ref p) H' := by
 constructor
 ·rintro ⟨a', k', xs, h1, h2, h⟩; cases h1; cases h2; exact ⟨xs, h⟩
 ·rintro ⟨xs, h⟩; exact ⟨a, k, xs, rfl, rfl, h⟩
end
section
variable {X : Cx}
def intsV (lo : Int) (n : Nat) : List V := (List.range n).map fun k => .int (lo + (k : Nat))
def tLR (ta : TA) : TE := fun σ H Q => ta σ H fun vs H1 => ∃ j : Int, vs = [.int j] ∧ 0 ≤ j ∧ j ≤ 1000000 ∧ ∀ p, H1 p = none → Q (.ref p) (upd H1 p (.lst (intsV 0 j.toNat)))
end
theorem mqB {ta : TA} {σ : St} {H : Hp} {Q : VK} : (tLR ta σ H Q) = (ta σ H fun vs H1 => ∃ j : Int, vs = [.int j] ∧ 0 ≤ j ∧ j ≤ 1000000 ∧ ∀ p, H1 p = none → Q (.ref p) (upd H1 p (.lst (intsV 0 j.toNat)))) := rfl
end L2
namespace L2
open PySem
section
variable {p : Addr} {fv : St} {tt : TT} {te : TE} {Q : VK} {H1 : Hp} {K : PySem.W.Frag}
end
end L2
namespace L2
open PySem PySem.Spec PyProof.Rows
section
variable {X : Cx} {pins : List (Addr × Obj)} {σ : St} {H1 : Hp} {s3 : Shared} {x x2 : Str} {fx : List Str} {fr : List Nat} {scope : Scope} {cl : List (Str × Addr)} {fp : List Addr}
theorem iqI (I : Inv X pins σ H1 s3) (hkind : scope.kind = .function) (hcl : ∀ y c, cl.lookup y = some c → X.env.cells.lookup y = some c)
  (F : Frees X (relabel scope X.env) cl fx fr) (hfx : ((relabel scope X.env).names.all fun p => if (p.2 == .cell || p.2 == .free) then fx.contains p.1 else true) = true)
  (ffp : ∀ b ∈ fp, FpOk X pins H1 b) (flt : ∀ b ∈ fp, b < s3.heap.objs.size) : (compCx X (x :: x2 :: fx) scope cl s3 H1 fp).Ok where
 mod := I.ok.mod
 kind := hkind
 glob := I.ok.glob
 blt := I.ok.blt
 above := Nat.le_refl _
 inj := fun y z c h1 h2 => I.ok.inj y z c (hcl y c h1) (hcl z c h2)
 has := fun y h => by
  have h : (relabel scope X.env).names.lookup y = some .cell ∨ (relabel scope X.env).names.lookup y = some .free := h
  have key : y ∈ fx := by
   rcases h with h | h
   ·have q := List.all_eq_true.mp hfx _ (PySem.mem_of_lookup h)
    simpa using q
   ·have q := List.all_eq_true.mp hfx _ (PySem.mem_of_lookup h)
    simpa using q
  obtain ⟨k1, k2⟩ := F.mem y key
  obtain ⟨c, e⟩ := I.ok.has y (.inl k1)
  exact ⟨c, k2.trans e⟩
 cab := fun y c h => by cases (show false = true from h)
 hd := I.ok.hd
 frames := I.ok.frames
 stk := .inl rfl
 exf := fun b hb => ⟨Nat.ne_of_lt (flt b hb), fun y c e => (ffp b hb).2.2.2.2.1 y c (hcl y c e)⟩
 bs := I.bs
 bsz := Nat.le_trans I.ok.bsz I.sz
 noex := fun b o e hb => by
  rcases (ffp b hb).2.2.2.1 with z | z
  ·exact I.ok.noex b o e z
  ·exact absurd (Nat.lt_of_lt_of_le (Heap.lt_size (I.ok.bs b o e).1) z) (Nat.lt_irrefl _)
 exfs := fun b hb z => by
  rcases List.mem_cons.mp (I.stkSub b z) with q | q
  ·exact (ffp b hb).2.1 q
  ·exact (ffp b hb).2.2.1 q
 funs := I.stack
 frf := I.stkFree
theorem gqa (I : Inv X pins σ H1 s3) (hkind : scope.kind = .function) (hcl : ∀ y c, cl.lookup y = some c → X.env.cells.lookup y = some c)
  (F : Frees X (relabel scope X.env) cl fx fr) (hfx : ((relabel scope X.env).names.all fun p => if (p.2 == .cell || p.2 == .free) then fx.contains p.1 else true) = true)
  (ffp : ∀ b ∈ fp, FpOk X pins H1 b) (flt : ∀ b ∈ fp, b < s3.heap.objs.size) {h1 : Heap} {t : Nat} {m : Str → Option Value} (hn : h1.Ns s3.heap.objs.size m)
  (keep : ∀ b u, s3.heap.get? b = some u → h1.get? b = some u) : Inv (compCx X (x :: x2 :: fx) scope cl s3 H1 fp) [] (none :: none :: frV σ fr) H1 { s3 with heap := h1, toks := t } := by
 refine ⟨iqI I hkind hcl F hfx ffp flt, rfl, I.bare, Un.kept keep, ⟨m, hn, fun i y v e1 e2 e3 => ?_⟩, fun y c e => ?_, I.hok.fresh (Nat.le_refl _), fun y c e => I.freeC y c (hcl y c e), fun p hp => absurd (show p ∈ ([] : List (Addr × Obj)) from hp) (by simp), I.hok.kept keep, ?_⟩
 ·cases i with
  | zero => simp at e2
  | succ j =>
   cases j with
   | zero => simp at e2
   | succ j =>
    obtain ⟨i0, k1, k2, k3, k4, k5⟩ := F.at (σ := σ) j y v (by simpa [compCx] using e1) (by simpa using e2)
    obtain ⟨m0, hn0, hl0⟩ := I.loc
    obtain ⟨u, r, l⟩ := hl0 i0 y v k1 k2 (.inr (.inl k3))
    refine ⟨u, r, ?_⟩
    rcases l with ⟨z, _⟩ | ⟨_, c, e, o, ho, hd⟩
    ·rw [k3] at z; cases z
    ·exact .inr ⟨.inl k4, c, k5.trans e, o, keep c o ho, hd⟩
 ·obtain ⟨v, o, ho, hd⟩ := I.cell y c (hcl y c e)
  exact ⟨v, o, keep c o ho, hd⟩
 ·show (none :: none :: frV σ fr).length = (x :: x2 :: fx).length
  simp [frV, F.len]
end
def CompI2 (K : PySem.W.Frag) (J : It) (p : Addr) (fv : St) (tt : TT) (te : TE) (Q : VK) (H1 : Hp) : Prop :=
 ∃ W : Nat → Nat → List V → Hp → Prop, (∃ m, W 0 m [] (upd H1 p (.lst []))) ∧ ∀ i m ys H2, W i m ys H2 → H2 p = some (.lst ys) ∧
  ((J.stop i H2 ∧ Q (.ref p) H2) ∨ (J.go i H2 ∧ ys.length < sizeLine ∧ ∀ z H3, J.yld i H2 z H3 → ∃ a x y, z = .ref a ∧ SqT K H3 a [x, y] ∧ tt (some x :: some y :: fv) H3 fun b H4 =>
   if b = true then te (some x :: some y :: fv) H4 fun y H5 => H5 p = some (.lst ys) ∧ ∃ m', m' < m ∧ W (i + 1) m' (ys ++ [y]) (upd H5 p (.lst (ys ++ [y])))
   else ∃ m', m' < m ∧ W (i + 1) m' ys H4))
def tComp2 (K : PySem.W.Frag) (wi : TI) (fr : List Nat) (tt : TT) (te : TE) : TE := fun σ H Q => wi σ H fun J H1 => ∀ p, H1 p = none → CompI2 K J p (frV σ fr) tt te Q H1
section
variable {X : Cx} {elt iter : Expr} {x x2 : Str} {px px2 ptx pos : Pos} {kx : Nat} {ifs : List Expr} {scope : Scope} {cl : List (Str × Addr)} {fx : List Str} {fr : List Nat} {wi : TI} {tt : TT} {te : TE}
theorem gqp {pins : List (Addr × Obj)} {σ : St} {H3 : Hp} {s3 : Shared} {it p : Addr} {fp : List Addr} {tn : Nat → Heap → Prop} {J : It} {Q : VK} {W : Nat → Nat → List V → Hp → Prop} {m0 t : Nat} {h₁ : Heap} {m : Str → Option Value} {RR : Result → Shared → Prop}
  (hc : X.calm = true) (hkind : scope.kind = .function) (hx : scope.names.lookup x = some .local) (hx2 : scope.names.lookup x2 = some .local) (hnd : (x :: x2 :: fx).Nodup)
  (hcl : ∀ y c, cl.lookup y = some c → X.env.cells.lookup y = some c) (F : Frees X (relabel scope X.env) cl fx fr)
  (hfx : ((relabel scope X.env).names.all fun p => if (p.2 == .cell || p.2 == .free) then fx.contains p.1 else true) = true)
  (ht : ∀ s H fp, PF (compCx X (x :: x2 :: fx) scope cl s H fp) ifs tt) (he : ∀ s H fp, PE (compCx X (x :: x2 :: fx) scope cl s H fp) elt te)
  (I3 : Inv X pins σ H3 s3) (T : Turn X.prog X.w X.K (.Tuple [.Name x px, .Name x2 px2] kx ptx) J fp it tn) (st3 : tn 0 s3.heap) (ffp : ∀ b ∈ fp, FpOk X pins H3 b) (flt3 : ∀ b ∈ fp, b < s3.heap.objs.size)
  (w0 : W 0 m0 [] H3) (turn : ∀ i m ys H2, W i m ys H2 → H2 p = some (.lst ys) ∧
   ((J.stop i H2 ∧ Q (.ref p) H2) ∨ (J.go i H2 ∧ ys.length < sizeLine ∧ ∀ z H3, J.yld i H2 z H3 → ∃ a x y, z = .ref a ∧ SqT X.K H3 a [x, y] ∧ tt (some x :: some y :: frV σ fr) H3 fun b H4 =>
    if b = true then te (some x :: some y :: frV σ fr) H4 fun y H5 => H5 p = some (.lst ys) ∧ ∃ m', m' < m ∧ W (i + 1) m' (ys ++ [y]) (upd H5 p (.lst (ys ++ [y])))
    else ∃ m', m' < m ∧ W (i + 1) m' ys H4)))
  (hns : h₁.Ns s3.heap.objs.size m) (keep1 : ∀ b u, s3.heap.get? b = some u → h₁.get? b = some u)
  (fin : ∀ s6 H5 o o2, Inv (compCx X (x :: x2 :: fx) scope cl s3 H3 fp) [] (o :: o2 :: frV σ fr) H5 s6 → Q (.ref p) H5 → RR (.ok .next) s6) :
  codeAny (model X.prog X.w) X.A (.compStart (.ListComp elt [⟨.Tuple [.Name x px, .Name x2 px2] kx ptx, iter, ifs, 0⟩] scope pos) 0 (.ref it) (.ref p) (compEnvC scope cl s3.heap.objs.size X.env))
   RR { s3 with heap := h₁, toks := t } := by
 have I4 := gqa (x := x) (x2 := x2) (t := t) I3 hkind hcl F hfx ffp flt3 hns keep1
 have st4 : tn 0 h₁ := T.keep _ _ _ st3 fun b hb o e => keep1 b o e
 have fp0 : ∀ b ∈ fp, H3 b = none := fun b hb => (ffp b hb).1
 have hcal : (compCx X (x :: x2 :: fx) scope cl s3 H3 fp).calm = true := hc
 have stat : ∀ {H' : Hp}, (∀ b ∈ fp, H' b = none) → ∀ b ∈ fp, FpOk (compCx X (x :: x2 :: fx) scope cl s3 H3 fp) [] H' b := fun {H'} hn b hb => by
  obtain ⟨f0, f1, f2, f3, f4, f5⟩ := ffp b hb
  exact ⟨hn b hb, Nat.ne_of_lt (flt3 b hb), I4.ok.exfs b hb, .inl hb, fun y c e => f4 y c (hcl y c e), fun q hq => absurd (show q ∈ ([] : List (Addr × Obj)) from hq) (by simp)⟩
 have hxl : (relabel scope X.env).names.lookup x = some .local := lookup_relabel_local hx
 have hxl2 : (relabel scope X.env).names.lookup x2 = some .local := lookup_relabel_local hx2
 have pg : PG (compCx X (x :: x2 :: fx) scope cl s3 H3 fp) (.Tuple [.Name x px, .Name x2 px2] kx ptx) (gTup X.K 2 (gCons (gName 0) (gCons (gName 1) gNil))) := jqv hcal (eqe (cqg (i := 0) hnd rfl (.inl hxl) (.inr hxl)) (eqe (cqg (i := 1) hnd rfl (.inl hxl2) (.inr hxl2)) hq7))
 have loop : codeAny (model X.prog X.w) X.A (.compLoop (.ListComp elt [⟨.Tuple [.Name x px, .Name x2 px2] kx ptx, iter, ifs, 0⟩] scope pos) 0 (.ref it) (.ref p) (compEnvC scope cl s3.heap.objs.size X.env))
    RR { s3 with heap := h₁, toks := t } := by
  refine dqZ (fun n s' => ∃ i ys H' o o2, Inv (compCx X (x :: x2 :: fx) scope cl s3 H3 fp) [] (o :: o2 :: frV σ fr) H' s' ∧ tn i s'.heap ∧ (∀ b ∈ fp, H' b = none) ∧ W i n ys H') ?_ m0 ⟨0, [], _, none, none, I4, st4, fp0, w0⟩
  rintro n s5 ⟨i, ys, H5, o, o2, I5, st5, fr5, w5⟩
  obtain ⟨hp5, alt⟩ := turn i n ys H5 w5
  rcases alt with ⟨stop, qn⟩ | ⟨go, hlen, step⟩
  ·refine thn (T.done (compCx X (x :: x2 :: fx) scope cl s3 H3 fp) rfl rfl rfl hcal i [] s5 (o :: o2 :: frV σ fr) H5 _ I5 (stat fr5) st5 stop) fun r s6 W' => ?_
   obtain ⟨hr, I6⟩ := W'
   subst hr
   exact fin s6 H5 o o2 I6 qn
  ·refine thn (T.item (compCx X (x :: x2 :: fx) scope cl s3 H3 fp) rfl rfl rfl hcal i [] s5 (o :: o2 :: frV σ fr) H5 _ I5 (stat fr5) st5 go) fun r s6 W' => ?_
   obtain ⟨u, hr, h6⟩ := W'
   subst hr
   refine thn h6 fun _ s7 W' => ?_
   obtain ⟨y7, H7, I7, r7, yl7, st7, fr7⟩ := W'
   have I7' := I7.pinned (stat fr7) (T.obj _ _ st7)
   have back : ∀ {σ' : St} {H' : Hp} {s' : Shared}, Inv (compCx X (x :: x2 :: fx) scope cl s3 H3 fp) ([] ++ pinsAt fp s7.heap) σ' H' s' → tn (i + 1) s'.heap ∧ ∀ b ∈ fp, H' b = none := fun {σ' H' s'} I' => by
    refine ⟨T.keep _ _ _ st7 fun b hb o e => (I'.pin (b, o) (List.mem_append_right _ (List.mem_append_right _ (bqA hb e)))).1, fun b hb => ?_⟩
    obtain ⟨o, e, d⟩ := T.obj _ _ st7 b hb
    exact (I'.pin (b, o) (List.mem_append_right _ (List.mem_append_right _ (bqA hb e)))).2.1
   obtain ⟨a7, z1, z2, e7, q7, step7⟩ := step y7 _ yl7
   subst e7
   refine thn (pg _ s7 _ H7 (.ref a7) u (fun σ' H' => σ' = some z1 :: some z2 :: frV σ fr ∧ H' = H7) I7' r7 ⟨a7, [z1, z2], rfl, q7, rfl, z1, [z2], rfl, z2, [], rfl, rfl, rfl, rfl⟩) fun _ s8 W' => ?_
   obtain ⟨σ8, H8, I8, e8, e8'⟩ := W'
   subst e8 e8'
   refine thn (ht s3 H3 fp _ s8 _ _ _ I8 step7) fun b s9 W' => ?_
   obtain ⟨H9, I9, q9⟩ := W'
   cases b with
   | false =>
    rw [if_neg Bool.false_ne_true] at q9 ⊢
    obtain ⟨m', hm, w9⟩ := q9
    exact ⟨m', hm, i + 1, ys, H9, some z1, some z2, I9.unpinned, (back I9).1, (back I9).2, w9⟩
   | true =>
    rw [if_pos rfl] at q9 ⊢
    refine thn (he s3 H3 fp _ s9 _ H9 _ I9 q9) fun u10 s10 W' => ?_
    obtain ⟨y10, H10, I10, r10, hp10, m', hm, w10⟩ := W'
    refine thn (eqw _ s10 _ H10 (.ref p) [y10] (.ref p) [u10] (fun _ H' => H' = upd H10 p (.lst (ys ++ [y10]))) I10 rfl (.cons r10 .nil) ⟨p, ys, y10, rfl, rfl, hp10, hlen, rfl⟩) fun _ s11 W' => ?_
    obtain ⟨_, H11, I11, _, e11⟩ := W'
    subst e11
    exact ⟨m', hm, i + 1, ys ++ [y10], _, some z1, some z2, I11.unpinned, (back I11).1, (back I11).2, w10⟩
 exact codeAny_compStart_list loop (T.self _ 0 _ _ _ st4 loop)
theorem jqj {K : PySem.W.Frag} {i : Nat} {y : Str} {py spos : Pos} (hN : X.N.Nodup) (hiN : X.N[i]? = some y) (hy : X.env.scope.names.lookup y = some .local)
  (h : X.K = K) (hc : X.calm = true) (hclos : closureFor scope X.env = pure cl) (hcell : ∀ y ∈ scope.names, y.2 ≠ .cell) (hkind : scope.kind = .function)
  (hnames : ∀ y ∈ scope.names, y.2 = .local → scope.names.lookup y.1 = some .local) (hx : scope.names.lookup x = some .local) (hx2 : scope.names.lookup x2 = some .local) (hnd : (x :: x2 :: fx).Nodup)
  (hk : (cl.all fun q => fx.contains q.1) = true) (F : Frees X (relabel scope X.env) cl fx fr)
  (hfx : ((relabel scope X.env).names.all fun p => if (p.2 == .cell || p.2 == .free) then fx.contains p.1 else true) = true)
  (hi : PI X (.Tuple [.Name x px, .Name x2 px2] kx ptx) iter wi) (ht : ∀ s H fp, PF (compCx X (x :: x2 :: fx) scope cl s H fp) ifs tt) (he : ∀ s H fp, PE (compCx X (x :: x2 :: fx) scope cl s H fp) elt te)
  (hs : ∀ x, foldedSetIterable iter X.env x = pure x := by intro _; rfl) (hsw : swapsWith (.ListComp elt [⟨.Tuple [.Name x px, .Name x2 px2] kx ptx, iter, ifs, 0⟩] scope pos) (some (.Name y py)) spos.line X.env = pure true := by rfl) :
  PS X (.Assign [.Name y py] (.ListComp elt [⟨.Tuple [.Name x px, .Name x2 px2] kx ptx, iter, ifs, 0⟩] scope pos) spos) (tAsg (tComp2 K wi fr tt te) (gName i)) := by
 subst h
 intro pins s σ H D I h
 have hcl : ∀ y c, cl.lookup y = some c → X.env.cells.lookup y = some c := fun y c e => by
  have q := List.all_eq_true.mp hk _ (PySem.mem_of_lookup e)
  rw [← (F.mem y (by simpa using q)).2]
  exact e
 rw [exec_Assign_Name_used _ _ _ _ hsw]
 refine wpAny_bind (wpAny_standAt (wpAny_bind ?_))
 show wpAny _ X.A (do let _ ← comprehension (.ListComp elt [⟨.Tuple [.Name x px, .Name x2 px2] kx ptx, iter, ifs, 0⟩] scope pos) scope X.env _ (newList []) false (eval iter X.env) (some (assign (.Name y py) X.env))) _ _ s
 refine wpAny_bind (wpAny_mono (wpAny_comprehension_free (use := some (assign (.Name y py) X.env)) (Q := fun _ s' => SP X pins D .next s') rfl hs hclos hkind hnames ?_) (fun _ s' hq => wpAny_pure (wpAny_pure hq)) fun _ _ e => e)
 refine thn (hi pins s σ H _ I h) fun v s1 h1 => thn h1 fun itv s2 h2 => ?_
 obtain ⟨it, fp, tn, J, H2, e, I2, T, st2, f2, q2⟩ := h2
 subst e
 have hp0 : H2 s2.heap.objs.size = none := I2.hok.fresh (Nat.le_refl _)
 obtain ⟨W, ⟨m0, w0⟩, turn⟩ := q2 _ hp0
 have flt : ∀ b ∈ fp, b < s2.heap.objs.size := fun b hb => by
  obtain ⟨o, e, _⟩ := T.obj _ _ st2 b hb
  exact Heap.lt_size e
 refine wpAny_newObj_type (wpAny_newFunctionEnv hcell (by intro y hy; simp at hy) (fun h₁ hns₁ hsb₁ => ?_) hkind)
 dsimp only at hns₁ hsb₁ ⊢
 have hlay : ∀ b u, s2.heap.get? b = some u → (s2.heap.push { cls := .type "list", dict := none, data := .seq ([] : List Value).toArray }).get? b = some u := fun b u e => Heap.get?_push_of_some _ e
 have hnew : (s2.heap.push { cls := .type "list", dict := none, data := .seq ([] : List Value).toArray }).get? s2.heap.objs.size = some { cls := .type "list", dict := none, data := .seq ([] : List Value).toArray } := Heap.get?_push_size _ rfl
 have hsz : (s2.heap.push { cls := .type "list", dict := none, data := .seq ([] : List Value).toArray }).objs.size = s2.heap.objs.size + 1 := Heap.size_push _ _
 generalize hHH : s2.heap.push { cls := .type "list", dict := none, data := .seq ([] : List Value).toArray } = HH at hns₁ hsb₁ hlay hnew hsz ⊢
 have I3 : Inv X pins σ (upd H2 s2.heap.objs.size (.lst [])) { s2 with heap := HH, toks := s2.toks } :=
  I2.laid (t' := s2.toks) (o := .lst []) hlay (Nat.le_refl _) ⟨Nat.zero_le _, [], 0, .nil, hnew⟩
 have ffp : ∀ b ∈ fp, FpOk X pins (upd H2 s2.heap.objs.size (.lst [])) b := fun b hb => by
  obtain ⟨f0, fr'⟩ := f2 b hb
  exact ⟨by rw [aqp (Nat.ne_of_lt (flt b hb))]; exact f0, fr'⟩
 have keep1 : ∀ b u, HH.get? b = some u → h₁.get? b = some u := fun b u e => hsb₁.extBut b u (Nat.ne_of_lt (Heap.lt_size e)) (Heap.get?_push_of_some _ e)
 exact gqp (Q := fun x H1 => gName i x σ H1 D.nx) (s3 := { s2 with heap := HH, toks := s2.toks }) hc hkind hx hx2 hnd hcl F hfx ht he I3 T (T.keep _ _ _ st2 fun b hb o e => hlay b o e) ffp (fun b hb => by show b < HH.objs.size; rw [hsz]; exact Nat.lt_succ_of_lt (flt b hb)) w0 turn hns₁ keep1 fun s6 H5 o o2 I6 qn => by
  have nC : H5 HH.objs.size = none := I6.free
  have I7 : Inv X pins σ H5 s6 := fqX (h' := s6.heap) I3 I6 ffp ⟨rfl, fun _ _ => rfl⟩
  obtain ⟨f0, f1, f2, f3, f4, f5⟩ := I3.fpOk (H' := H5) (b := HH.objs.size) (Nat.le_refl _) nC
  obtain ⟨m, hn6, _⟩ := id I6.loc
  show wpAny _ X.A (assign (.Name y py) X.env (.ref _)) _ _ s6
  refine wpAny_assign_Name (fq1 I7 hN hiN (.inl hy) (v := .ref _) rfl (fun s8 I8 sbx => ?_) (.inr hy))
  obtain ⟨a, sb, ha⟩ := sbx
  have hne : HH.objs.size ≠ a := by
   rcases ha with rfl | ha
   ·exact f1
   ·exact fun z => f4 y a ha z.symm
  refine ⟨m, hn6.sameBut sb hne, fun h' sb' => ?_⟩
  exact ⟨_, H5, I8.turned (t' := s8.toks) (it := HH.objs.size) (fun b o hb e => sb'.extBut b o hb e) f0 f1 f3 f4 f5, qn⟩
end
section
variable {p : Addr} {fv : St} {te : TE} {Q : VK} {H1 : Hp} {K : PySem.W.Frag}
theorem hqF {tl : TE} {tt : TT} {fr : List Nat} {σ : St} {H : Hp} : (tComp2 K (iTup K tl) fr tt te σ H Q) = (tl σ H fun x H1 => ∃ a, x = .ref a ∧ (∃ xs, SqT K H1 a xs) ∧ ∀ p, H1 p = none → CompI2 K (Itt K a) p (frV σ fr) tt te Q H1) := rfl
end
section
variable {X : Cx}
def rFind : V → List V → Hp → VK → Prop := fun x vs H Q => match x, vs with
 | .str z, [.str y] => Q (.int (Txt.find z y)) H
 | _, _ => False
theorem jqL {z y : Str} {H : Hp} {Q : VK} : (rFind (.str z) [.str y] H Q) = (Q (.int (Txt.find z y)) H) := rfl
end
end L2
namespace Wm
open PySem L2
end Wm
namespace Wm
end Wm
namespace L2
open PySem
theorem lqE {l : Addr} {H : Hp} {Q : VK} {i : Int} : rPopAt (.ref l) [.int i] H Q ↔ ∃ xs k y, H l = some (.lst xs) ∧ -(2 ^ 63) ≤ i ∧ i < 2 ^ 63 ∧ seqIndex? i xs.length = some k ∧ xs[k]? = some y ∧ Q y (upd H l (.lst (xs.eraseIdx k))) :=
 ⟨fun ⟨_, xs, _, k, y, h1, h2, h⟩ => by cases h1; cases h2; exact ⟨xs, k, y, h⟩, fun ⟨xs, k, y, h⟩ => ⟨_, xs, _, k, y, rfl, rfl, h⟩⟩
end L2
namespace L2
open PySem PySem.Spec PySem.W PyProof.Rows
def tRaise (E : XK) (C : Addr) : TS := fun _ _ H => E (.ref C) none H
theorem iql {E : XK} {C : Addr} {D : Ends} {σ : St} {H : Hp} : (tRaise E C D σ H) = (E (.ref C) none H) := rfl
structure Flown (P : Program) (w : World) (base : Heap) (outer : List Env) (H : Hp) (s : Shared) (a t C : Addr) (B : Heap) (H' : Hp) (s' : Shared) : Prop where
 os : s'.os = s.os
 bare : AllBare s'.gens
 st : base.StaysIn B
 fly : Heap.FlyingW B outer a (.ref C) (.ref t) s'.heap
 hok : HOk P w H' B
 un : Un (frs outer) [] H H' s.heap s'.heap
 kb : ∀ b o, s.heap.get? b = some o → H b = none → b ∉ frs outer → B.get? b = some o
 thB : ∀ b o, s.heap.get? b = some o → b ∉ frs outer → ∃ o', B.get? b = some o'
section
variable {P : Program} {w : World} {K : Frag} {mg : Str → Option Value} {base : Heap} {N : List Str} {qual : Str} {scope : Scope} {f : Addr} {cd : Value} {A : Around} {outer : List Env} {s : Shared} {H : Hp} {E : XK}
end
def exO (a C : Addr) : HO := .ext fun h => ∃ o, h.get? a = some o ∧ o.cls = .ref C
section
variable {X : Cx} {pins : List (Addr × Obj)} {σ : St} {H H1 H2 : Hp} {s s1 s2 : Shared}
end
structure Catch (K : Frag) (W : Addr) : Prop where
 ty : typeIn K (.ref W) = some (.type "type")
 ex : subIn K (.ref W) (.type "BaseException") = some true
 cl : (clsIn K W).isSome = true
def tTry (K : Frag) (sp : Sp) (t : TA) (W : Addr) (i : Nat) (tb : TS) : TS := fun D σ H => t σ H fun vs H1 => sp vs H1 (fun _ H2 => D.nx σ H2) fun cls _ H2 =>
 ∃ C, cls = .ref C ∧ subIn K (.ref C) (.ref W) = some true ∧ ∀ a, H2 a = none → tb { nx := fun σ' H' => D.nx (σ'.set i none) H', rt := D.rt } (σ.set i (some (.ref a))) (upd H2 a (exO a C))
end L2
namespace L2
open PySem PySem.Spec PySem.W PySem.Calls PyProof.Rows PySem.Builtin PySem.Builtin.ObjectAttr PySem.Builtin.Getset_descriptor
structure ExLook (K : Frag) (C : Addr) : Prop where
 ga : findIn K (.ref C) "__getattribute__" = some (some (.builtin "BaseException.__getattribute__"))
 cl : findIn K (.ref C) "__class__" = some (some (.builtin "object.__class__"))
 na : findIn K (.ref C) "__getattr__" = some none
 mo : mroIn K C (.type "object") = some true
 mb : mroIn K C (.type "BaseException") = some true
 is : (clsIn K C).isSome = true
section
variable {prog : Program} {w : World} {A : Around} {E : Value → Shared → Prop} {hh : Heap} {g : Array GenState} {dr : Drawn} {t : Nat} {os : OsState} {K : Frag} {a C : Addr} {o : Obj}
end
inductive KitAns (K : Frag) (H : Hp) (C : Addr) : V → Bool → Prop
 | cls {W : Addr} {b : Bool} : kitOne K (.ref C) (.ref W) = some b → KitAns K H C (.ref W) b
 | ty {T : String} {b : Bool} : kitOne K (.ref C) (.type T) = some b → KitAns K H C (.ty T) b
 | tup {p : Addr} {cs : List Addr} {b : Bool} : H p = some (.tup (cs.map V.ref)) → kitAny K (.ref C) (cs.map Value.ref) = some b → KitAns K H C (.ref p) b
def rIsE (K : Frag) : List V → Hp → VK → Prop := fun vs H Q => ∃ a c C b, vs = [.ref a, c] ∧ H a = some (exO a C) ∧ ExLook K C ∧ KitAns K H C c b ∧ Q (.bl b) H
end L2
namespace L2
open PySem PySem.W
theorem mqc {K : Frag} {a : Addr} {c : V} {H : Hp} {Q : VK} : rIsE K [.ref a, c] H Q ↔ ∃ C b, H a = some (exO a C) ∧ ExLook K C ∧ KitAns K H C c b ∧ Q (.bl b) H :=
 ⟨fun ⟨_, _, C, b, e, h⟩ => by cases e; exact ⟨C, b, h⟩, fun ⟨C, b, h⟩ => ⟨a, c, C, b, rfl, h⟩⟩
theorem lqN {K : Frag} {sp : Sp} {t : TA} {W : Addr} {i : Nat} {tb : TS} {D : Ends} {σ : St} {H : Hp} : tTry K sp t W i tb D σ H ↔ t σ H fun vs H1 => sp vs H1 (fun _ H2 => D.nx σ H2) fun cls _ H2 =>
 ∃ C, cls = .ref C ∧ subIn K (.ref C) (.ref W) = some true ∧ ∀ a, H2 a = none → tb { nx := fun σ' H' => D.nx (σ'.set i none) H', rt := D.rt } (σ.set i (some (.ref a))) (upd H2 a (exO a C)) := Iff.rfl
end L2
namespace L2
open PySem PySem.Spec PyProof.Rows
section
variable {X : Cx}
def rStarts : V → List V → Hp → VK → Prop := fun x vs H Q => ∃ z y, ∃ i : Nat, x = .str z ∧ vs = [.str y, .int (i : Int)] ∧ Q (.bl (decide (i + y.length ≤ z.length) && Builtin.Str.subAt z y i)) H
end
section
variable {X : Cx}
def rPart : V → List V → Hp → VK → Prop := fun x vs H Q => ∃ z y, x = .str z ∧ vs = [.str y] ∧ (y.length == 0) = false ∧ z.length ≤ sizeLine ∧
 ∀ p, H p = none → Q (.ref p) (upd H p (.tup [.str (Txt.partition z y).1, .str (Txt.partition z y).2.1, .str (Txt.partition z y).2.2]))
end
section
variable {X : Cx}
def rIntS : List V → Hp → VK → Prop := fun xs H Q => ∃ z n, xs = [.str z] ∧ z.length ≤ 640 ∧ PySem.intText? z = some n ∧ Q (.int n) H
theorem kq4 {z : Str} {H : Hp} {Q : VK} : rIntS [.str z] H Q ↔ ∃ n, z.length ≤ 640 ∧ PySem.intText? z = some n ∧ Q (.int n) H :=
 ⟨fun ⟨_, n, e, h⟩ => by cases e; exact ⟨n, h⟩, fun ⟨n, h⟩ => ⟨z, n, rfl, h⟩⟩
theorem lqg {z y : Str} {i : Nat} {H : Hp} {Q : VK} : rStarts (.str z) [.str y, .int (i : Int)] H Q ↔ Q (.bl (decide (i + y.length ≤ z.length) && Builtin.Str.subAt z y i)) H :=
 ⟨fun ⟨_, _, j, e1, e2, h⟩ => by
  cases e1
  injection e2 with e2 e3
  cases e2
  injection e3 with e3
  injection e3 with e3
  obtain rfl : i = j := by omega
  exact h, fun h => ⟨z, y, i, rfl, rfl, h⟩⟩
theorem lqt {z y : Str} {H : Hp} {Q : VK} : rPart (.str z) [.str y] H Q ↔ (y.length == 0) = false ∧ z.length ≤ sizeLine ∧ ∀ p, H p = none → Q (.ref p) (upd H p (.tup [.str (Txt.partition z y).1, .str (Txt.partition z y).2.1, .str (Txt.partition z y).2.2])) :=
 ⟨fun ⟨_, _, e1, e2, h⟩ => by cases e1; cases e2; exact h, fun h => ⟨z, y, rfl, rfl, h⟩⟩
theorem lqb {K : PySem.W.Frag} {ta : TE} {f : Str} {σ : St} {H : Hp} {Q : VK} : (tFld K ta f σ H Q) = (ta σ H fun x H1 => ∃ a C dx fs v, x = .ref a ∧ H1 a = some (.ins C dx fs) ∧ Cls K C ∧ NoAttr K C f ∧ fs.lookup f = some v ∧ Q v H1) := rfl
theorem kqc {K : PySem.W.Frag} {ta tv : TE} {f : Str} {D : Ends} {σ : St} {H : Hp} : (sFld K ta tv f D σ H) = (tv σ H fun y H1 => ta σ H1 fun x H2 => ∃ a C dx fs, x = .ref a ∧ H2 a = some (.ins C dx fs) ∧ Cls K C ∧ NoAttr K C f ∧ fs.length < 1000 ∧ D.nx σ (upd H2 a (.ins C dx (putF f y fs)))) := rfl
theorem kqO {C : Addr} {m : Str} {sp : Sp} {dvs : List V} {E : XK} {ta : TE} {t : TA} {σ : St} {H : Hp} {Q : VK} : (tMeth C m sp dvs E ta t σ H Q) = (ta σ H fun x H1 => ∃ a dx fs, x = .ref a ∧ H1 a = some (.ins C dx fs) ∧ fs.lookup m = none ∧ t σ H1 fun vs H2 => sp (x :: (vs ++ dvs)) H2 Q E) := rfl
theorem kqx {C : Addr} {sp : Sp} {dvs : List V} {E : XK} {t : TA} {σ : St} {H : Hp} {Q : VK} : (tMake C sp dvs E t σ H Q) = (t σ H fun vs H1 => ∀ x dx, H1 x = none → H1 dx = none → dx ≠ x → sp (.ref x :: (vs ++ dvs)) (upd (upd H1 dx (.own x)) x (.ins C dx [])) (fun v H2 => v = .non ∧ Q (.ref x) H2) E) := rfl
end
end L2
namespace Wm
open PySem L2
def ahead (t : List Nat) : List Nat := t.takeWhile fun c => decide (c ≠ 58)
inductive WrT (fr : List Nat) : List Nat → List Nat → Prop
 | nil : WrT fr [] []
 | self {c : Nat} {s w : List Nat} : (isPl c = true ∨ c ∈ fr) → c ≠ 126 → WrT fr s w → WrT fr (c :: s) (c :: w)
 | pair {c a b : Nat} {s w : List Nat} : sgO a b = some c → WrT fr s w → WrT fr (c :: s) (126 :: a :: b :: w)
section
variable {K : PySem.W.Frag} {H : Hp} {C p : Addr} {t : List Nat} {i : Nat}
end
def frS : List Nat := (Str.ofString "!$'()*,;@&=+").cps.toList
def frQ : List Nat := (Str.ofString "!$'()*,;@+/?:").cps.toList
def ValW (o : Option (List Nat)) (w : List Nat) : Prop := match o with
 | none => w = []
 | some s => ∃ v, w = 61 :: v ∧ WrT frQ s v
inductive TlW : List (List Nat) → Bool → List Nat → Prop
 | stop : TlW [] false []
 | ends : TlW [] true [47]
 | more {s w : List Nat} {ss : List (List Nat)} {e : Bool} {v : List Nat} : WrT frS s w → s ≠ [] → TlW ss e v → TlW (s :: ss) e (47 :: (w ++ v))
inductive StpW : List (List Nat) → Bool → List Nat → Prop
 | none {e : Bool} : StpW [] e []
 | some {s w : List Nat} {ss : List (List Nat)} {e : Bool} {v : List Nat} : WrT frS s w → s ≠ [] → TlW ss e v → StpW (s :: ss) e (w ++ v)
inductive PrsW : List (List Nat × Option (List Nat)) → List Nat → Prop
 | nil : PrsW [] []
 | cons {n w v : List Nat} {o : Option (List Nat)} {ps : List (List Nat × Option (List Nat))} {r : List Nat} : WrT frQ n w → n ≠ [] → ValW o v → PrsW ps r → PrsW ((n, o) :: ps) (38 :: (w ++ (v ++ r)))
end Wm
namespace L2
open PySem
end L2
namespace Wm
open PySem L2
def GoodsT (n : Nat) (H : Hp) (vs : List V) : Prop := ∀ v ∈ vs, ∃ x : Ad, (x.Wf ∧ x.Tiny ∧ x.steps.length ≤ n) ∧ IsT H x.data v
theorem GoodsT.cons {n : Nat} {H : Hp} {v : V} {vs : List V} {x : Ad} (h1 : x.Wf ∧ x.Tiny ∧ x.steps.length ≤ n) (h3 : IsT H x.data v) (h : GoodsT n H vs) : GoodsT n H (v :: vs) := fun u hu => by
 rcases List.mem_cons.mp hu with rfl | hu
 ·exact ⟨x, h1, h3⟩
 ·exact h u hu
theorem Ad.Tiny.local {x : Ad} (h : x.Tiny) : ({ x with scheme := [], house := none, door := none } : Ad).Tiny := ⟨h.stp, h.que, h.mar, fun l e => by cases e⟩
end Wm
namespace L2
open PySem
theorem fqY {K : PySem.W.Frag} {p a : Addr} {fv : St} {te : TE} {Q : VK} {H1 : Hp} {xs : List V} (J : Nat → List V → Hp → Prop) (hlen : xs.length ≤ sizeLine) (h0 : J 0 [] (upd H1 p (.lst []))) (hS : ∀ i ys H2, J i ys H2 → SqT K H2 a xs)
  (he : ∀ (i : Nat) (x : V) (ys : List V) (H2 : Hp) (T : VK), xs[i]? = some x → J i ys H2 → H2 p = some (.lst ys) → (∀ y H3, H3 p = some (.lst ys) → J (i + 1) (ys ++ [y]) (upd H3 p (.lst (ys ++ [y]))) → T y H3) → te (some x :: fv) H2 T)
  (hQ : ∀ ys H2, J xs.length ys H2 → H2 p = some (.lst ys) → Q (.ref p) H2) : CompI (Itt K a) p fv tYes te Q H1 := by
 refine ⟨fun i m ys H2 => m = xs.length - i ∧ i ≤ xs.length ∧ ys.length = i ∧ H2 p = some (.lst ys) ∧ J i ys H2, ⟨xs.length, by simp, Nat.zero_le _, rfl, aqn, h0⟩, ?_⟩
 rintro i m ys H2 ⟨rfl, hi, hyl, hp2, hJ⟩
 refine ⟨hp2, ?_⟩
 have q := hS _ _ _ hJ
 by_cases hlt : i < xs.length
 ·refine .inr ⟨⟨xs, xs[i], q, by simp [hlt]⟩, by omega, fun x H3 y => ?_⟩
  obtain ⟨rfl, y⟩ := y
  have hc := y xs q
  unfold tYes
  dsimp only
  rw [if_pos rfl]
  exact he i x ys _ _ hc hJ hp2 fun y H5 hp5 hJ5 => ⟨hp5, xs.length - (i + 1), by omega, rfl, hlt, by rw [List.length_append, hyl]; rfl, aqn, hJ5⟩
 ·have e : i = xs.length := by omega
  subst e
  exact .inl ⟨⟨xs, q, Nat.le_refl _⟩, hQ ys H2 hJ hp2⟩
end L2
namespace Wm
open PySem L2
def PrW (p : List Nat × Option (List Nat)) (w : List Nat) : Prop := ∃ a v, w = a ++ v ∧ WrT frQ p.1 a ∧ ValW p.2 v
inductive PrWs : List (List Nat × Option (List Nat)) → List (List Nat) → Prop
 | nil : PrWs [] []
 | cons {p : List Nat × Option (List Nat)} {w : List Nat} {ps : List (List Nat × Option (List Nat))} {ws : List (List Nat)} : PrW p w → PrWs ps ws → PrWs (p :: ps) (w :: ws)
inductive StWs : List (List Nat) → List (List Nat) → Prop
 | nil : StWs [] []
 | cons {s w : List Nat} {ss ws : List (List Nat)} : WrT frS s w → StWs ss ws → StWs (s :: ss) (w :: ws)
end Wm
namespace L2
open PySem PySem.Spec PyProof.Rows
section
variable {X : Cx} {pins : List (Addr × Obj)} {σ : St} {H : Hp} {s : Shared} {h' : Heap}
theorem Inv.walked {t' : Nat} {wr : List Addr} {T : Addr} {o : HO} (I : Inv X pins σ H s) (hf : ∀ b ∈ wr, FpOk X pins H b) (k : ∀ b u, b ∉ wr → s.heap.get? b = some u → h'.get? b = some u) (hT : s.heap.objs.size ≤ T)
  (new : ObjOk X.prog X.w (upd H T o) h' T o) : Inv X pins σ (upd H T o) { s with heap := h', toks := t' } := by
 have hn : H T = none := I.hok.fresh hT
 have nw : ∀ b u, H b = some u → b ∉ wr := fun b u e z => by rw [(hf b z).1] at e; cases e
 refine I.step (g' := s.gens) (d' := s.drawn) (ch := wr) (fun b hb => ?_) (fun b u _ _ hc e _ => k b u hc e) (fun b u _ _ hc e _ => ⟨u.slots, k b u hc e⟩) (fun b u _ q n => ?_)
  (fun b u hc e => ⟨u, k b u hc e⟩) (fun b xs q => ?_) (fun b u xs q => ?_) (fun b ps q => ?_) (fun m hm => ?_) (fun b u e => ?_) I.bare
 ·obtain ⟨f0, f1, f2, f3, f4, f5⟩ := hf b hb
  exact ⟨f3, f1, f4, f5⟩
 ·rw [aqp (Nat.ne_of_lt (Nat.lt_of_lt_of_le (Heap.lt_size q) hT))]; exact n
 ·rw [aqp (aqj q hn)]; exact q
 ·rw [aqp (aqj q hn)]; exact q
 ·exact ⟨#[], by rw [aqp (aqj q hn), q]; simp⟩
 ·obtain ⟨u, es, ep, ho, r⟩ := hm
  refine ⟨u, es, ep, k _ u (fun z => ?_) ho, r⟩
  exact (hf _ z).2.1 rfl
 ·by_cases hb : b = T
  ·subst hb; rw [aqn] at e; cases e; exact new
  ·rw [aqp hb] at e
   refine (I.hok b u e).stay (fun c v hc q => k c v ?_ q) (fun c q => by rw [aqp (aqj q hn)]; exact q) fun c xs q => by rw [aqp (aqj q hn)]; exact q
   rcases hc with z | z
   ·rw [z]; exact nw b u e
   ·exact nw c _ z
theorem Inv.turnedL {t' : Nat} {wr : List Addr} (I : Inv X pins σ H s) (hf : ∀ b ∈ wr, FpOk X pins H b) (k : ∀ b u, b ∉ wr → s.heap.get? b = some u → h'.get? b = some u) : Inv X pins σ H { s with heap := h', toks := t' } := by
 have nw : ∀ b u, H b = some u → b ∉ wr := fun b u e z => by rw [(hf b z).1] at e; cases e
 refine I.step (g' := s.gens) (d' := s.drawn) (ch := wr) (fun b hb => ?_) (fun b u _ _ hc e _ => k b u hc e) (fun b u _ _ hc e _ => ⟨u.slots, k b u hc e⟩) (fun _ _ _ _ n => n)
  (fun b u hc e => ⟨u, k b u hc e⟩) (fun _ _ e => e) (fun _ _ _ e => e) (fun b ps e => ⟨#[], by rw [e]; simp⟩) (fun m hm => ?_) (fun b u e => ?_) I.bare
 ·obtain ⟨f0, f1, f2, f3, f4, f5⟩ := hf b hb
  exact ⟨f3, f1, f4, f5⟩
 ·obtain ⟨u, es, ep, ho, r⟩ := hm
  refine ⟨u, es, ep, k _ u (fun z => ?_) ho, r⟩
  exact (hf _ z).2.1 rfl
 ·refine (I.hok b u e).stay (fun c v hc q => k c v ?_ q) (fun _ q => q) fun _ _ q => q
  rcases hc with z | z
  ·rw [z]; exact nw b u e
  ·exact nw c _ z
end
def ItW (n : Nat) (ok : Hp → Prop) (pt : Nat → Hp → List V → Prop) : It :=
 ⟨fun i H => i < n ∧ ok H, fun i H x H' => ∃ T xs, x = .ref T ∧ H T = none ∧ H' = upd H T (.tup xs) ∧ pt i H xs, fun i H => i = n ∧ ok H⟩
theorem hqY {P : Program} {w : World} {K : PySem.W.Frag} {elts : List Expr} {k : Nat} {pos : Pos} {I : Addr} {fp wr fq : List Addr} {n : Nat} {α : Type} {Pt : α → Nat → Array Value → Prop} {Sn : α → Nat → Heap → Prop} {Mid : α → Nat → Addr → Heap → Prop} {tn : Nat → Heap → Prop} {ok : Hp → Prop} {pt : Nat → Hp → List V → Prop}
  (hI : I ∈ fq) (hq : ∀ b ∈ wr, b ∈ fq) (hW : ∀ (A : Around) (a : α), A.handled = none → WalksT P w A I fp wr n (Pt a) (Sn a) (Mid a))
  (hself : ∀ (A : Around) (i : Nat) (s : Shared) (Q : Value → Shared → Prop) (E : Value → Shared → Prop), tn i s.heap → Q (.ref I) s → wpAny (model P w) A (pyIter (.ref I)) Q E s)
  (hobj : ∀ i h, tn i h → ∀ b ∈ fq, ∃ o, h.get? b = some o ∧ ∀ v, o.data ≠ .cell v)
  (hkeep : ∀ i h h', tn i h → (∀ b ∈ fq, ∀ o, h.get? b = some o → h'.get? b = some o) → tn i h')
  (hin : ∀ (X : Cx), X.prog = P → X.w = w → X.K = K → ∀ (i : Nat) (pins : List (Addr × Obj)) (s : Shared) (σ : St) (H : Hp), Inv X pins σ H s → (∀ b ∈ fq, FpOk X pins H b) → tn i s.heap → ok H → ∃ a, Sn a i s.heap ∧ ∀ vals, Pt a i vals → ∃ xs, xs.length ≤ sizeLine ∧ Vals xs vals.toList ∧ pt i H xs)
  (hout : ∀ a i h, Sn a i h → tn i h) :
  Turn P w K (.Tuple elts k pos) (ItW n ok pt) fq I tn where
 mem := hI
 obj := hobj
 keep := hkeep
 item := by
  intro X hP hw hK hc i pins s σ H E J hf st hg
  obtain ⟨hi, hok⟩ := hg
  have hfw : ∀ b ∈ wr, FpOk X pins H b := fun b hb => hf b (hq b hb)
  obtain ⟨a, hst, hv⟩ := hin X hP hw hK i pins s σ H J hf st hok
  obtain ⟨hW1, hW2, hW3, hW4, hW5, hW6, hW7⟩ := hW X.A a (J.ok.hd hc)
  refine hW3 i s _ E hi hst fun T vals h1 tk hPt hT hTup hmid hk => ?_
  refine ⟨.ref T, rfl, ?_⟩
  refine hW4 elts k pos i T _ _ E hmid fun h2 st2 hk2 => ?_
  obtain ⟨xs, hxl, hvs, hpt⟩ := hv vals hPt
  have hTw : T ∉ wr := hW5 i T h1 hmid
  have hTn : H T = none := J.hok.fresh hT
  have hk3 : ∀ b u, b ∉ wr → s.heap.get? b = some u → h2.get? b = some u := fun b u hb e => hk2 b u hb (hk b u hb e)
  obtain ⟨o, ho, hcl, m, hd⟩ := hTup
  have hT2 : IsTup h2 T vals.toList.toArray := by
   refine ⟨o, hk2 T o hTw ho, hcl, m, ?_⟩
   rw [hd]
  refine ⟨.ref T, upd H T (.tup xs), J.walked (t' := tk) hfw hk3 hT ⟨hxl, vals.toList, hvs, hT2⟩, rfl, ⟨T, xs, rfl, hTn, rfl, hpt⟩, hout a _ _ st2, fun b hb => ?_⟩
  have : b ≠ T := fun z => by
   obtain ⟨o, e, _⟩ := hobj i _ st b hb
   exact absurd (Heap.lt_size e) (by rw [z]; exact Nat.not_lt.mpr hT)
  rw [aqp this]
  exact (hf b hb).1
 done := by
  intro X hP hw hK hc i pins s σ H E J hf st hg
  obtain ⟨hi, hok⟩ := hg
  subst hi
  have hfw : ∀ b ∈ wr, FpOk X pins H b := fun b hb => hf b (hq b hb)
  obtain ⟨a, hst, _⟩ := hin X hP hw hK i pins s σ H J hf st hok
  obtain ⟨hW1, hW2, hW3, hW4, hW5, hW6, hW7⟩ := hW X.A a (J.ok.hd hc)
  exact hW6 s _ E hst fun h1 tk hk => ⟨rfl, J.turnedL hfw hk⟩
 self := hself
section
variable {σ : St} {H : Hp} {D : Ends} {g : TG} {tb : TS}
end
section
variable {prog : Program} {w : World} {A : Around} {E : Value → Shared → Prop} {s : Shared}
end
section
variable {prog : Program} {w : World} {A : Around} {E : Value → Shared → Prop} {s : Shared}
end
def ItE (K : PySem.W.Frag) (a : Addr) (xs : List V) : It := ItW xs.length (fun H => SqT K H a xs) fun i _ ys => ∃ v, xs[i]? = some v ∧ ys = [.int (i : Int), v]
section
variable {X : Cx} {K : PySem.W.Frag} {elts : List Expr} {kk : Nat} {tpos : Pos}
def iEnum (K : PySem.W.Frag) (ta : TA) : TI := fun σ H R => ta σ H fun vs H1 => ∃ a xs, vs = [.ref a] ∧ SqT K H1 a xs ∧ R (ItE K a xs) H1
variable {σ : St} {H : Hp} {D : Ends} {g : TG} {tb : TS} {aa : TA}
theorem kqe : (tFor (iEnum K aa) g tb D σ H) = (aa σ H fun vs H1 => ∃ a xs, vs = [.ref a] ∧ SqT K H1 a xs ∧ LoopI (ItE K a xs) g tb D σ H1) := rfl
end
structure Zap (z TI TO i1 i2 l1 l2 : Addr) : Prop where
 a1 : TI ≠ z ∧ TO ≠ z ∧ i1 ≠ z ∧ i2 ≠ z ∧ l1 ≠ z ∧ l2 ≠ z
 a2 : TI ≠ TO ∧ TI ≠ i1 ∧ TI ≠ i2 ∧ TO ≠ i1 ∧ TO ≠ i2 ∧ i1 ≠ i2
 a3 : l1 ≠ TO ∧ l2 ≠ TO ∧ l1 ≠ i2 ∧ l2 ≠ i1
section
variable {prog : Program} {w : World} {A : Around} {E : Value → Shared → Prop} {s : Shared}
variable {z TI TO i1 i2 l1 l2 : Addr} {n1 n2 k : Nat} {P1 P2 : Nat → Value → Prop} {S1 S2 : Nat → Heap → Prop}
theorem still {it l b : Addr} {n i : Nat} {P : Nat → Value → Prop} {S : Nat → Heap → Prop} {h h' : Heap} (D : Draws prog w A it [it, l] n P S) (st : S i h) (e : Heap.ExtBut b h h') (h1 : it ≠ b) (h2 : l ≠ b) : S i h' :=
 D.frame i h h' st fun c hc o q => e c o (by rcases List.mem_cons.mp hc with rfl | hc; exact h1; rw [List.mem_singleton.mp hc]; exact h2) q
theorem iqm (hh : A.handled = none) (d1 : ∀ A : Around, A.handled = none → Draws prog w A i1 [i1, l1] n1 P1 S1) (d2 : ∀ A : Around, A.handled = none → Draws prog w A i2 [i2, l2] n2 P2 S2) (ap : Zap z TI TO i1 i2 l1 l2) {a b : Value} {Q : Value → Shared → Prop}
  (hz : IsZip s.heap z TI TO .none) (hTI : IsPair s.heap TI (.ref i1) (.ref i2)) (hTO : IsPair s.heap TO a b) (t1 : S1 k s.heap) (t2 : S2 k s.heap) (k1 : k < n1) (k2 : k < n2)
  (q : ∀ x y h' tk, P1 k x → P2 k y → IsZip h' z TI TO (rawInt s.heap.objs.size) → IsPair h' TO x y → S1 (k + 1) h' → S2 (k + 1) h' → IsPair h' s.heap.objs.size x y →
   (∀ c o, c ≠ z → c ≠ TO → c ≠ i1 → c ≠ i2 → s.heap.get? c = some o → h'.get? c = some o) → Q (.ref s.heap.objs.size) { s with heap := h', toks := tk }) :
  wpAny (model prog w) A (Builtin.«zip.__next__» ⟨[.ref z], []⟩) (fun fin s' => ∃ v, fin = .done (.ret v) ∧ Q v s') E s := by
 obtain ⟨⟨p1, p2, p3, p4, p5, p6⟩, ⟨q1, q2, q3, q4, q5, q6⟩, r1, r2, r3, r4⟩ := ap
 show wpAny _ _ (field (.ref z) 2 >>= _) _ _ s
 refine wpAny_bind (wpAny_field (s := s) hz rfl (x := .bool false) rfl ?_)
 show wpAny _ _ (field (.ref z) 3 >>= _) _ _ s
 refine wpAny_bind (wpAny_field (s := s) hz rfl (x := .ref TI) rfl (wpAny_bind (wpAny_seqItems hTI rfl ?_)))
 show wpAny _ _ (Builtin.SmallTypes.ownedTupleIsFree (.ref z) >>= _) _ _ s
 unfold Builtin.SmallTypes.ownedTupleIsFree
 refine wpAny_bind (wpAny_bind (wpAny_field (s := s) hz rfl (x := .none) rfl (wpAny_pure ?_)))
 simp only [if_true]
 refine wpAny_bind (wpAny_rule (wpAny_bind (wpAny_field (s := s) hz rfl (x := .ref TO) rfl (wpAny_bind (wpAny_setField_rec hz (by simp) fun ha za sa => ?_)))))
 replace za : IsZip ha z TI TO .ellipsis := za
 simp only [List.zipIdx_cons, List.zipIdx_nil, List.forIn_cons, List.forIn_nil]
 refine wpAny_bind (wpAny_bind (wpAny_bind (wpAny_onRaise ?_)))
 show wpAny _ _ (Builtin.SmallTypes.nextOf (.ref i1) >>= _) _ _ _
 refine wpAny_bind ((d1 A hh).item k _ _ _ k1 (still (d1 A hh) t1 sa.extBut p3 p5) fun x hb tb px s1b sb => wpAny_pure ?_)
 have ob : IsPair hb TO a b := sb.extBut _ _ q4 (sa.extBut _ _ p2 hTO)
 refine wpAny_bind (wpAny_seqItems ob rfl (wpAny_bind (wpAny_updateSeq_pair ob fun hc oc sc => wpAny_bind (wpAny_letGo (wpAny_pure ?_)))))
 replace oc : IsPair hc TO x b := oc
 refine wpAny_bind (wpAny_bind (wpAny_onRaise ?_))
 show wpAny _ _ (Builtin.SmallTypes.nextOf (.ref i2) >>= _) _ _ _
 have t2c : S2 k hc := still (d2 A hh) (still (d2 A hh) (still (d2 A hh) t2 sa.extBut p4 p6) sb.extBut q6.symm r4) sc.extBut q5.symm r2
 refine wpAny_bind ((d2 A hh).item k _ _ _ k2 t2c fun y hd td py s2d sd => wpAny_pure ?_)
 have od : IsPair hd TO x b := sd.extBut _ _ q5 oc
 refine wpAny_bind (wpAny_seqItems od rfl (wpAny_bind (wpAny_updateSeq_pair od fun he oe se => wpAny_bind (wpAny_letGo (wpAny_pure (wpAny_pure ?_))))))
 replace oe : IsPair he TO x y := oe
 refine wpAny_bind (wpAny_seqItems oe rfl (wpAny_bind (wpAny_newTuple ?_)))
 have ze : IsZip he z TI TO .ellipsis := se.extBut _ _ p2.symm (sd.extBut _ _ p4.symm (sc.extBut _ _ p2.symm (sb.extBut _ _ p3.symm za)))
 have hsz : he.objs.size = s.heap.objs.size := by rw [se.1, sd.1, sc.1, sb.1, sa.1]
 have ke : ∀ c o, c ≠ z → c ≠ TO → c ≠ i1 → c ≠ i2 → s.heap.get? c = some o → he.get? c = some o := fun c o c1 c2 c3 c4 e => se.extBut _ _ c2 (sd.extBut _ _ c4 (sc.extBut _ _ c2 (sb.extBut _ _ c3 (sa.extBut _ _ c1 e))))
 have s1e : S1 (k + 1) he := still (d1 A hh) (still (d1 A hh) (still (d1 A hh) s1b sc.extBut q4.symm r1) sd.extBut q6 r3) se.extBut q4.symm r1
 have s2e : S2 (k + 1) he := still (d2 A hh) s2d se.extBut q5.symm r2
 have zl : z < he.objs.size := Heap.lt_size ze
 show wpAny _ _ (Builtin.SmallTypes.ownedTupleHandOut (.ref z) (.ref he.objs.size) >>= _) _ _ _
 unfold Builtin.SmallTypes.ownedTupleHandOut
 have zf : IsZip (he.push { cls := .type "tuple", data := .seq #[x, y] }) z TI TO .ellipsis := Heap.get?_push_of_some _ ze
 refine wpAny_bind (wpAny_bind (wpAny_setField_rec zf (by simp) fun hf zg sf => ?_))
 replace zg : IsZip hf z TI TO (rawInt he.objs.size) := zg
 refine wpAny_setField_rec zg (by simp) fun hg zh sg => ?_
 replace zh : IsZip hg z TI TO (rawInt he.objs.size) := zh
 have up : ∀ c o, c ≠ z → he.get? c = some o → hg.get? c = some o := fun c o c1 e => sg.extBut _ _ c1 (sf.extBut _ _ c1 (Heap.get?_push_of_some _ e))
 have tg : IsPair hg he.objs.size x y := sg.extBut _ _ (Nat.ne_of_gt zl) (sf.extBut _ _ (Nat.ne_of_gt zl) (Heap.get?_push_size _ rfl))
 rw [hsz] at zh tg
 refine wpAny_pure ⟨_, rfl, ?_⟩
 show Q (.ref he.objs.size) _
 rw [hsz]
 exact q x y hg td px py zh (up _ _ p2 oe) ((d1 A hh).frame _ _ _ s1e fun c hc o e => up c o (by rcases List.mem_cons.mp hc with rfl | hc; exact p3; rw [List.mem_singleton.mp hc]; exact p5) e) ((d2 A hh).frame _ _ _ s2e fun c hc o e => up c o (by rcases List.mem_cons.mp hc with rfl | hc; exact p4; rw [List.mem_singleton.mp hc]; exact p6) e) tg fun c o c1 c2 c3 c4 e => up c o c1 (ke c o c1 c2 c3 c4 e)
theorem iqs (hh : A.handled = none) (d1 : ∀ A : Around, A.handled = none → Draws prog w A i1 [i1, l1] n1 P1 S1) (d2 : ∀ A : Around, A.handled = none → Draws prog w A i2 [i2, l2] n2 P2 S2) (ap : Zap z TI TO i1 i2 l1 l2) {a b : Value} {Q : Fin → Shared → Prop}
  (hz : IsZip s.heap z TI TO .none) (hTI : IsPair s.heap TI (.ref i1) (.ref i2)) (hTO : IsPair s.heap TO a b) (t1 : S1 k s.heap) (t2 : S2 k s.heap) (hk : k = n1 ∨ (k < n1 ∧ k = n2))
  (q : ∀ h' e tk, (∀ c o, c ≠ z → c ≠ TO → c ≠ i1 → c ≠ i2 → s.heap.get? c = some o → h'.get? c = some o) → (∃ o, h'.get? e = some o ∧ o.cls = .type "StopIteration") → E (.ref e) { s with heap := h', toks := tk }) :
  wpAny (model prog w) A (Builtin.«zip.__next__» ⟨[.ref z], []⟩) Q E s := by
 obtain ⟨⟨p1, p2, p3, p4, p5, p6⟩, ⟨q1, q2, q3, q4, q5, q6⟩, r1, r2, r3, r4⟩ := ap
 show wpAny _ _ (field (.ref z) 2 >>= _) _ _ s
 refine wpAny_bind (wpAny_field (s := s) hz rfl (x := .bool false) rfl ?_)
 show wpAny _ _ (field (.ref z) 3 >>= _) _ _ s
 refine wpAny_bind (wpAny_field (s := s) hz rfl (x := .ref TI) rfl (wpAny_bind (wpAny_seqItems hTI rfl ?_)))
 show wpAny _ _ (Builtin.SmallTypes.ownedTupleIsFree (.ref z) >>= _) _ _ s
 unfold Builtin.SmallTypes.ownedTupleIsFree
 refine wpAny_bind (wpAny_bind (wpAny_field (s := s) hz rfl (x := .none) rfl (wpAny_pure ?_)))
 simp only [if_true]
 refine wpAny_bind (wpAny_rule (wpAny_bind (wpAny_field (s := s) hz rfl (x := .ref TO) rfl (wpAny_bind (wpAny_setField_rec hz (by simp) fun ha za sa => ?_)))))
 replace za : IsZip ha z TI TO .ellipsis := za
 simp only [List.zipIdx_cons, List.zipIdx_nil, List.forIn_cons, List.forIn_nil]
 refine wpAny_bind (wpAny_bind (wpAny_bind (wpAny_onRaise ?_)))
 show wpAny _ _ (Builtin.SmallTypes.nextOf (.ref i1) >>= _) _ _ _
 rcases hk with rfl | ⟨k1, rfl⟩
 ·refine wpAny_bind ((d1 A hh).done _ _ _ (still (d1 A hh) t1 sa.extBut p3 p5) fun hb e sb W' => ?_)
  obtain ⟨oe, ho, hc⟩ := W'
  have zb : IsZip hb z TI TO .ellipsis := sb _ _ p3.symm za
  have ez : e ≠ z := fun y => by subst y; rw [zb] at ho; cases ho; simp at hc
  exact wpAny_setField_rec zb (by simp) fun hd _ sd => q hd e _ (fun c o c1 _ c3 _ y => sd.extBut _ _ c1 (sb _ _ c3 (sa.extBut _ _ c1 y))) ⟨oe, sd.extBut _ _ ez ho, hc⟩
 refine wpAny_bind ((d1 A hh).item _ _ _ _ k1 (still (d1 A hh) t1 sa.extBut p3 p5) fun x hb tb px s1b sb => wpAny_pure ?_)
 have ob : IsPair hb TO a b := sb.extBut _ _ q4 (sa.extBut _ _ p2 hTO)
 refine wpAny_bind (wpAny_seqItems ob rfl (wpAny_bind (wpAny_updateSeq_pair ob fun hc oc sc => wpAny_bind (wpAny_letGo (wpAny_pure ?_)))))
 refine wpAny_bind (wpAny_bind (wpAny_onRaise ?_))
 show wpAny _ _ (Builtin.SmallTypes.nextOf (.ref i2) >>= _) _ _ _
 have t2c := still (d2 A hh) (still (d2 A hh) (still (d2 A hh) t2 sa.extBut p4 p6) sb.extBut q6.symm r4) sc.extBut q5.symm r2
 refine wpAny_bind ((d2 A hh).done _ _ _ t2c fun hd e sd W' => ?_)
 obtain ⟨oe, ho, hce⟩ := W'
 have zd : IsZip hd z TI TO .ellipsis := sd _ _ p4.symm (sc.extBut _ _ p2.symm (sb.extBut _ _ p3.symm za))
 have ez : e ≠ z := fun y => by subst y; rw [zd] at ho; cases ho; simp at hce
 exact wpAny_setField_rec zd (by simp) fun hf _ sf => q hf e _ (fun c o c1 c2 c3 c4 y => sf.extBut _ _ c1 (sd _ _ c4 (sc.extBut _ _ c2 (sb.extBut _ _ c3 (sa.extBut _ _ c1 y))))) ⟨oe, sf.extBut _ _ ez ho, hce⟩
theorem hqP (hh : A.handled = none) (d1 : ∀ A : Around, A.handled = none → Draws prog w A i1 [i1, l1] n1 P1 S1) (d2 : ∀ A : Around, A.handled = none → Draws prog w A i2 [i2, l2] n2 P2 S2) (ap : Zap z TI TO i1 i2 l1 l2) :
  WalksT prog w A z [z, TI, TO, i1, i2, l1, l2] [z, TO, i1, i2] (min n1 n2) (fun i vals => ∃ x y, P1 i x ∧ P2 i y ∧ vals = #[x, y])
   (fun i h => IsZip h z TI TO .none ∧ IsPair h TI (.ref i1) (.ref i2) ∧ (∃ a b, IsPair h TO a b) ∧ S1 i h ∧ S2 i h)
   (fun i T h => IsZip h z TI TO (rawInt T) ∧ IsPair h TI (.ref i1) (.ref i2) ∧ (∃ a b, IsPair h TO a b) ∧ S1 (i + 1) h ∧ S2 (i + 1) h ∧ T ≠ z ∧ T ≠ TO ∧ T ≠ i1 ∧ T ≠ i2) where
 sub := fun c hc => by simp at hc ⊢; rcases hc with rfl | rfl | rfl | rfl <;> simp
 frame := fun i h h' st hk => by
  obtain ⟨hz, hTI, ⟨a, b, hTO⟩, t1, t2⟩ := st
  exact ⟨hk z (by simp) _ hz, hk TI (by simp) _ hTI, ⟨a, b, hk TO (by simp) _ hTO⟩, (d1 A hh).frame _ _ _ t1 fun c hc o e => hk c (by simp at hc ⊢; rcases hc with rfl | rfl <;> simp) o e, (d2 A hh).frame _ _ _ t2 fun c hc o e => hk c (by simp at hc ⊢; rcases hc with rfl | rfl <;> simp) o e⟩
 item := fun i s Q E hi st hQ => by
  obtain ⟨hz, hTI, ⟨a, b, hTO⟩, t1, t2⟩ := st
  have hT : s.TypeIs (.ref z) "zip" := ⟨_, hz, rfl⟩
  have lt : ∀ {c o}, s.heap.get? c = some o → s.heap.objs.size ≠ c := fun e => Nat.ne_of_gt (Heap.lt_size e)
  unfold pyNext
  refine wpAny_bind (wpAny_attempt (wpAny_callSpecial?_slot (name := Str.ofString "__next__") hT F.slot_zip_next (wpAny_call_entry F.slot_zip_next hT F.entry_zip_next ?_ (F.args_zip_next_1 _))))
  refine iqm (A := A.in1) hh d1 d2 ap hz hTI hTO t1 t2 (Nat.lt_of_lt_of_le hi (Nat.min_le_left ..)) (Nat.lt_of_lt_of_le hi (Nat.min_le_right ..)) fun x y h' tk px py z' o' s1 s2 T' hk => wpAny_pure ?_
  obtain ⟨o1, e1⟩ := (d1 A hh).live _ _ t1
  obtain ⟨o2, e2⟩ := (d2 A hh).live _ _ t2
  exact hQ s.heap.objs.size #[x, y] h' tk ⟨x, y, px, py, rfl⟩ (Nat.le_refl _) ⟨_, T', rfl, _, rfl⟩
   ⟨z', hk _ _ ap.a1.1 ap.a2.1 ap.a2.2.1 ap.a2.2.2.1 hTI, ⟨_, _, o'⟩, s1, s2, lt hz, lt hTO, lt e1, lt e2⟩
   fun c o hc e => hk c o (fun y => hc (by simp [y])) (fun y => hc (by simp [y])) (fun y => hc (by simp [y])) (fun y => hc (by simp [y])) e
 go := fun elts k pos i T s Q E hm hQ => by
  obtain ⟨hz, hTI, ⟨a, b, hTO⟩, t1, t2, _⟩ := hm
  obtain ⟨⟨p1, p2, p3, p4, p5, p6⟩, _⟩ := ap
  exact wpAny_letOwnedTupleGo_zip hz fun h' z' s' => hQ h' ⟨z', s'.extBut _ _ p1 hTI, ⟨a, b, s'.extBut _ _ p2 hTO⟩, still (d1 A hh) t1 s'.extBut p3 p5, still (d2 A hh) t2 s'.extBut p4 p6⟩ fun c o hc e => s'.extBut _ _ (fun y => hc (by simp [y])) e
 apart := fun i T h hm hT => by
  obtain ⟨_, _, _, _, _, t1, t2, t3, t4⟩ := hm
  simp only [List.mem_cons, List.not_mem_nil, or_false] at hT
  rcases hT with h | h | h | h
  ·exact t1 h
  ·exact t2 h
  ·exact t3 h
  ·exact t4 h
 done := fun s Q E st hQ => by
  obtain ⟨hz, hTI, ⟨a, b, hTO⟩, t1, t2⟩ := st
  have hT : s.TypeIs (.ref z) "zip" := ⟨_, hz, rfl⟩
  unfold pyNext
  refine wpAny_bind (wpAny_attempt (wpAny_callSpecial?_slot (name := Str.ofString "__next__") hT F.slot_zip_next (wpAny_call_entry F.slot_zip_next hT F.entry_zip_next ?_ (F.args_zip_next_1 _))))
  refine iqs (A := A.in1) hh d1 d2 ap hz hTI hTO t1 t2 (by omega) fun h' e tk hk W' => ?_
  obtain ⟨o, ho, hc⟩ := W'
  refine wpAny_bind (wpAny_isInstance (T := "StopIteration") (b := true) ⟨o, ho, hc⟩ isSubtype_stop (wpAny_pure (hQ h' tk fun c o hc e => ?_)))
  exact hk c o (fun y => hc (by simp [y])) (fun y => hc (by simp [y])) (fun y => hc (by simp [y])) (fun y => hc (by simp [y])) e
 self := fun i s Q E st hQ => wpAny_pyIter_zip st.1 hQ
end
section
variable {prog : Program} {w : World} {A : Around} {E : Value → Shared → Prop} {s : Shared}
end
def ItZ (K : PySem.W.Frag) (a b : Addr) (xs ys : List V) : It := ItW (min xs.length ys.length) (fun H => SqT K H a xs ∧ SqT K H b ys) fun i _ vs => ∃ x y, xs[i]? = some x ∧ ys[i]? = some y ∧ vs = [x, y]
section
variable {X : Cx} {K : PySem.W.Frag} {elts : List Expr} {kk : Nat} {tpos : Pos}
theorem kqU {n a b : Nat} (ha : a < n) (hb : b < n) : Zap (n + 4) (n + 2) (n + 3) n (n + 1) a b := by
 refine ⟨⟨?_, ?_, ?_, ?_, ?_, ?_⟩, ⟨?_, ?_, ?_, ?_, ?_, ?_⟩, ?_, ?_, ?_, ?_⟩ <;> (show ¬ ((_ : Nat) = _)) <;> omega
def iZip (K : PySem.W.Frag) (ta : TA) : TI := fun σ H R => ta σ H fun vs H1 => ∃ a b xs ys, vs = [.ref a, .ref b] ∧ SqT K H1 a xs ∧ SqT K H1 b ys ∧ R (ItZ K a b xs ys) H1
variable {σ : St} {H : Hp} {D : Ends} {g : TG} {tb : TS} {aa : TA}
theorem kqR : (tFor (iZip K aa) g tb D σ H) = (aa σ H fun vs H1 => ∃ a b xs ys, vs = [.ref a, .ref b] ∧ SqT K H1 a xs ∧ SqT K H1 b ys ∧ LoopI (ItZ K a b xs ys) g tb D σ H1) := rfl
variable {p : Addr} {fv : St} {tt : TT} {te : TE} {Q : VK} {H1 : Hp} {fr : List Nat}
theorem hq0 : (tComp2 K (iZip K aa) fr tt te σ H Q) = (aa σ H fun vs H1 => ∃ a b xs ys, vs = [.ref a, .ref b] ∧ SqT K H1 a xs ∧ SqT K H1 b ys ∧ ∀ p, H1 p = none → CompI2 K (ItZ K a b xs ys) p (frV σ fr) tt te Q H1) := rfl
end
section
variable {p : Addr} {fv : St} {tt : TT} {te : TE} {Q : VK} {H1 H : Hp} {fr : List Nat} {aa : TA} {σ : St}
theorem hqQ : (tComp (iRng1 aa) fr tt te σ H Q) = (aa σ H fun vs H1 => ∃ j : Int, vs = [.int j] ∧ -(2 ^ 62) ≤ j ∧ j < 2 ^ 62 ∧ ∀ p, H1 p = none → CompI (Itr 0 j.toNat) p (frV σ fr) tt te Q H1) := rfl
theorem gqm {n : Nat} (J : Nat → List V → Hp → Prop) (hlen : n ≤ sizeLine) (h0 : J 0 [] (upd H1 p (.lst [])))
  (he : ∀ (i : Nat) (ys : List V) (H2 : Hp) (T : VK), i < n → J i ys H2 → H2 p = some (.lst ys) → (∀ y H3, H3 p = some (.lst ys) → J (i + 1) (ys ++ [y]) (upd H3 p (.lst (ys ++ [y]))) → T y H3) → te (some (.int (0 + (i : Int))) :: fv) H2 T)
  (hQ : ∀ ys H2, J n ys H2 → H2 p = some (.lst ys) → Q (.ref p) H2) : CompI (Itr 0 n) p fv tYes te Q H1 := by
 refine ⟨fun i m ys H2 => m = n - i ∧ i ≤ n ∧ ys.length = i ∧ H2 p = some (.lst ys) ∧ J i ys H2, ⟨n, by simp, Nat.zero_le _, rfl, aqn, h0⟩, ?_⟩
 rintro i m ys H2 ⟨rfl, hi, hyl, hp2, hJ⟩
 refine ⟨hp2, ?_⟩
 by_cases hlt : i < n
 ·refine .inr ⟨hlt, by omega, fun x H3 y => ?_⟩
  obtain ⟨rfl, rfl⟩ := y
  unfold tYes
  dsimp only
  rw [if_pos rfl]
  exact he i ys _ _ hlt hJ hp2 fun y H5 hp5 hJ5 => ⟨hp5, n - (i + 1), by omega, rfl, hlt, by rw [List.length_append, hyl]; rfl, aqn, hJ5⟩
 ·have e : i = n := by omega
  subst e
  exact .inl ⟨Nat.le_refl _, hQ ys H2 hJ hp2⟩
end
abbrev litO (t : Addr) : Obj := { cls := .type "list_iterator", data := .fields #[.ref t, .int 0 0] }
abbrev yA (h : Heap) (a : Addr) : Heap := h.push (litO a)
abbrev yB (h : Heap) (a b : Addr) : Heap := (yA h a).push (litO b)
abbrev yC (h : Heap) (a b : Addr) : Heap := (yB h a b).push { cls := .type "tuple", data := .seq #[.ref h.objs.size, .ref (yA h a).objs.size] }
abbrev yD (h : Heap) (a b : Addr) : Heap := (yC h a b).push { cls := .type "tuple", data := .seq #[.none, .none] }
abbrev yE (h : Heap) (a b : Addr) : Heap := (yD h a b).push { cls := .type "zip", data := .fields #[.none, .bool false, .bool false, .ref (yB h a b).objs.size, .ref (yC h a b).objs.size] }
theorem jqb (a b : Addr) (xs ys : Array Value) : Meets (Builtin.«zip.__new__» ⟨[.type "zip", .ref a, .ref b], []⟩) (fun _ R s => s.heap.IsList a xs ∧ s.heap.IsList b ys ∧ R (.ok (.ret (.ref (yD s.heap a b).objs.size))) { s with heap := yE s.heap a b }) :=
 .of_wp fun prog w A R s h => by
  obtain ⟨hp, g, d, tk, os⟩ := s; obtain ⟨ha, hb, h⟩ := h
  have hsub := sub_zip
  have h1 : Heap.IsList (Shared.heap ⟨hp, g, d, tk, os⟩) a xs := ha
  have h2 : Heap.IsList (Shared.heap ⟨hp.push (litO a), g, d, tk, os⟩) b ys := Heap.IsList.push hb _
  wp_walk using wpAny_pyIter_list h1, wpAny_pyIter_list h2
  exact ⟨_, rfl, h⟩
section
variable {prog : Program} {w : World} {A : Around} {E : Value → Shared → Prop} {s : Shared}
theorem iqb {a b : Addr} {xs ys : Array Value} {Q : Value → Shared → Prop} (ha : s.heap.IsList a xs) (hb : s.heap.IsList b ys)
  (h : ∀ h', IsZip h' (s.heap.objs.size + 4) (s.heap.objs.size + 2) (s.heap.objs.size + 3) .none → IsPair h' (s.heap.objs.size + 2) (.ref s.heap.objs.size) (.ref (s.heap.objs.size + 1)) → IsPair h' (s.heap.objs.size + 3) .none .none →
   h'.IsListIter s.heap.objs.size a 0 → h'.IsListIter (s.heap.objs.size + 1) b 0 → (∀ c o, s.heap.get? c = some o → h'.get? c = some o) → Q (.ref (s.heap.objs.size + 4)) { s with heap := h' }) :
  wpAny (model prog w) A (call (.type "zip") [.ref a, .ref b]) Q E s := by
 refine callType_new F.called_zip (by decide) (F.typeCall_zip_2 _ _) (F.newCall_zip_2 _ _) (fun obj => F.args_object_init_3 obj _ _) F.entry_zip_new (jqb a b xs ys) ⟨ha, hb, ?_⟩
 have y1 : (yA s.heap a).objs.size = s.heap.objs.size + 1 := Heap.size_push ..
 have y2 : (yB s.heap a b).objs.size = s.heap.objs.size + 2 := by rw [Heap.size_push, y1]
 have y3 : (yC s.heap a b).objs.size = s.heap.objs.size + 3 := by rw [Heap.size_push, y2]
 have y4 : (yD s.heap a b).objs.size = s.heap.objs.size + 4 := by rw [Heap.size_push, y3]
 have up : ∀ {h : Heap} {o : Obj} {c : Addr} {u : Obj}, h.get? c = some u → (h.push o).get? c = some u := fun e => Heap.get?_push_of_some _ e
 have e5 : (yE s.heap a b).get? (yD s.heap a b).objs.size = some _ := Heap.get?_push_size _ rfl
 have e4 : (yE s.heap a b).get? (yC s.heap a b).objs.size = some _ := up (Heap.get?_push_size _ rfl)
 have e3 : (yE s.heap a b).get? (yB s.heap a b).objs.size = some _ := up (up (Heap.get?_push_size _ rfl))
 have e2 : (yE s.heap a b).get? (yA s.heap a).objs.size = some _ := up (up (up (Heap.get?_push_size _ rfl)))
 have e1 : (yE s.heap a b).get? s.heap.objs.size = some _ := up (up (up (up (Heap.get?_push_size _ rfl))))
 show _ ∧ _
 rw [y2, y3, y4] at e5
 rw [y1, y2] at e3
 rw [y3] at e4
 rw [y1] at e2
 rw [y4]
 exact ⟨⟨_, e5, rfl⟩, h _ e5 e3 e4 ⟨_, e1, rfl, rfl⟩ ⟨_, e2, rfl, rfl⟩ fun c o x => up (up (up (up (up x))))⟩
end
def ItZL (K : PySem.W.Frag) (a b : Addr) (xs ys : List V) : It := ItW (min xs.length ys.length) (fun H => SqL K H a xs ∧ SqL K H b ys) fun i _ vs => ∃ x y, xs[i]? = some x ∧ ys[i]? = some y ∧ vs = [x, y]
theorem iqk {P : Program} {w : World} {K : PySem.W.Frag} {elts : List Expr} {k : Nat} {pos : Pos} {z TI TO i1 i2 a b : Addr} (xs ys : List V) (ap : Zap z TI TO i1 i2 a b) (h1 : a ≠ i1) (h2 : b ≠ i2) :
  Turn P w K (.Tuple elts k pos) (ItZL K a b xs ys) [z, TO, i1, i2, TI] z (fun i h => IsZip h z TI TO .none ∧ IsPair h TI (.ref i1) (.ref i2) ∧ (∃ u v, IsPair h TO u v) ∧ h.IsListIter i1 a i ∧ h.IsListIter i2 b i) := by
 refine hqY (fp := [z, TI, TO, i1, i2, a, b]) (wr := [z, TO, i1, i2]) (α := { q : Array Value × Array Value // q.1.size = xs.length ∧ q.2.size = ys.length }) (Pt := fun q i vals => ∃ x y, q.1.1[i]? = some x ∧ q.1.2[i]? = some y ∧ vals = #[x, y])
  (Sn := fun q i h => IsZip h z TI TO .none ∧ IsPair h TI (.ref i1) (.ref i2) ∧ (∃ a b, IsPair h TO a b) ∧ (h.IsListIter i1 a i ∧ h.IsList a q.1.1) ∧ (h.IsListIter i2 b i ∧ h.IsList b q.1.2))
  (Mid := fun q i T h => IsZip h z TI TO (rawInt T) ∧ IsPair h TI (.ref i1) (.ref i2) ∧ (∃ a b, IsPair h TO a b) ∧ (h.IsListIter i1 a (i + 1) ∧ h.IsList a q.1.1) ∧ (h.IsListIter i2 b (i + 1) ∧ h.IsList b q.1.2) ∧ T ≠ z ∧ T ≠ TO ∧ T ≠ i1 ∧ T ≠ i2)
  (by simp) (fun b hb => by simp at hb ⊢; rcases hb with rfl | rfl | rfl | rfl <;> simp) (fun A q hh => ?_) (fun A i s Q E st q => wpAny_pyIter_zip st.1 q) (fun i h st b hb => ?_) (fun i h h' st kp => ?_) ?_ (fun q i h st => ⟨st.1, st.2.1, st.2.2.1, st.2.2.2.1.1, st.2.2.2.2.1⟩)
 ·have := hqP (prog := P) (w := w) (A := A) hh (fun B hB => Draws.list (prog := P) (w := w) (A := B) hB i1 a h1 q.1.1) (fun B hB => Draws.list (prog := P) (w := w) (A := B) hB i2 b h2 q.1.2) ap
  rw [q.2.1, q.2.2] at this
  exact this
 ·obtain ⟨hz, hI, ⟨u, v, hO⟩, ⟨o1, e1, c1, d1⟩, o2, e2, c2, d2⟩ := st
  simp only [List.mem_cons, List.not_mem_nil, or_false] at hb
  rcases hb with rfl | rfl | rfl | rfl | rfl
  ·exact ⟨_, hz, fun v z => by cases z⟩
  ·exact ⟨_, hO, fun v z => by cases z⟩
  ·exact ⟨o1, e1, fun v z => by rw [d1] at z; cases z⟩
  ·exact ⟨o2, e2, fun v z => by rw [d2] at z; cases z⟩
  ·exact ⟨_, hI, fun v z => by cases z⟩
 ·obtain ⟨hz, hI, ⟨u, v, hO⟩, ⟨o1, e1, r1⟩, o2, e2, r2⟩ := st
  exact ⟨kp z (by simp) _ hz, kp TI (by simp) _ hI, ⟨u, v, kp TO (by simp) _ hO⟩, ⟨o1, kp i1 (by simp) _ e1, r1⟩, o2, kp i2 (by simp) _ e2, r2⟩
 ·intro X hP hw hK i pins s σ H J hf st hok
  subst hP hw hK
  obtain ⟨l1, rv1, p1, hz1⟩ := J.list hok.1
  obtain ⟨l2, rv2, p2, hz2⟩ := J.list hok.2
  refine ⟨⟨(l1.toArray, l2.toArray), by have := rv1.length; simp; omega, by have := rv2.length; simp; omega⟩, ⟨st.1, st.2.1, st.2.2.1, ⟨st.2.2.2.1, p1.isList⟩, st.2.2.2.2, p2.isList⟩, ?_⟩
  rintro vals ⟨x, y, hx, hy, rfl⟩
  have hx' : l1[i]? = some x := by simpa using hx
  have hy' : l2[i]? = some y := by simpa using hy
  have hi : i < xs.length := by have := rv1.length; have := (List.getElem?_eq_some_iff.mp hx').1; omega
  have hj : i < ys.length := by have := rv2.length; have := (List.getElem?_eq_some_iff.mp hy').1; omega
  obtain ⟨u, hu, ru⟩ := rv1.get (List.getElem?_eq_getElem hi)
  obtain ⟨v, hv, rv⟩ := rv2.get (List.getElem?_eq_getElem hj)
  rw [hx'] at hu
  rw [hy'] at hv
  cases hu
  cases hv
  exact ⟨[xs[i], ys[i]], (show 2 ≤ sizeLine by decide), .cons ru (.cons rv .nil), xs[i], ys[i], List.getElem?_eq_getElem hi, List.getElem?_eq_getElem hj, rfl⟩
section
variable {X : Cx} {K : PySem.W.Frag} {elts : List Expr} {kk : Nat} {tpos : Pos}
def iZipL (K : PySem.W.Frag) (ta : TA) : TI := fun σ H R => ta σ H fun vs H1 => ∃ a b xs ys, vs = [.ref a, .ref b] ∧ SqL K H1 a xs ∧ SqL K H1 b ys ∧ R (ItZL K a b xs ys) H1
theorem kqD {a b : Expr} {ta : TA} {p pos : Pos} (h : X.K = K) (hg : Gl X "zip") (hm : X.mg "zip" = none) (ha : PA X [a, b] ta) (hs : starEach [a, b] X.env = [(false, eval a X.env), (false, eval b X.env)] := by rfl) (hs2 : starEach [b] X.env = [(false, eval b X.env)] := by rfl) : PI X (.Tuple elts kk tpos) (.Call (.Name "zip" p) [a, b] [] pos) (iZipL K ta) := by
 subst h
 intro pins s σ H R I q
 refine Call_ (eqE I hg hm boot_zip (PyProof.Rows.callWith_type1 (thn (ha pos pins s σ H _ I q) fun us s1 W' => ?_) (by rw [hs, hs2]) (by rw [hs2]; rfl)))
 obtain ⟨vs, H1, I1, r1, q1⟩ := W'
 obtain ⟨a, b, xs, ys, e, hq1, hq2, q⟩ := q1
 subst e
 obtain ⟨u, v, rfl, ru, rv⟩ := vals2 r1
 cases ru
 cases rv
 obtain ⟨l1, rv1, p1, hz1⟩ := I1.list hq1
 obtain ⟨l2, rv2, p2, hz2⟩ := I1.list hq2
 refine iqb p1.isList p2.isList fun h' he hI hO hi hj hk => ?_
 refine wpAny_pyIter_zip (s := { s1 with heap := h' }) he ?_
 have hal : a < s1.heap.objs.size := by obtain ⟨o, _, ho, _⟩ := p1; exact Heap.lt_size ho
 have hbl : b < s1.heap.objs.size := by obtain ⟨o, _, ho, _⟩ := p2; exact Heap.lt_size ho
 have hkept : Inv X pins σ H1 { s1 with heap := h' } := I1.kept (t' := s1.toks) hk
 refine ⟨s1.heap.objs.size + 4, [s1.heap.objs.size + 4, s1.heap.objs.size + 3, s1.heap.objs.size, s1.heap.objs.size + 1, s1.heap.objs.size + 2], _, _, H1, rfl, hkept, iqk xs ys (kqU hal hbl) (Nat.ne_of_lt hal) (Nat.ne_of_lt (Nat.lt_succ_of_lt hbl)), ⟨he, hI, ⟨_, _, hO⟩, hi, hj⟩, fun b hb => ?_, q⟩
 simp only [List.mem_cons, List.not_mem_nil, or_false] at hb
 have hb' : s1.heap.objs.size ≤ b := by
  rcases hb with rfl | rfl | rfl | rfl | rfl
  ·exact Nat.le_add_right _ _
  ·exact Nat.le_add_right _ _
  ·exact Nat.le_refl _
  ·exact Nat.le_add_right _ _
  ·exact Nat.le_add_right _ _
 exact I1.fpOk hb' (I1.hok.fresh hb')
variable {σ : St} {H : Hp} {D : Ends} {g : TG} {tb : TS} {aa : TA}
theorem iq7 : (tFor (iZipL K aa) g tb D σ H) = (aa σ H fun vs H1 => ∃ a b xs ys, vs = [.ref a, .ref b] ∧ SqL K H1 a xs ∧ SqL K H1 b ys ∧ LoopI (ItZL K a b xs ys) g tb D σ H1) := rfl
variable {p : Addr} {fv : St} {tt : TT} {te : TE} {Q : VK} {H1 : Hp} {fr : List Nat}
theorem hqd : (tComp2 K (iZipL K aa) fr tt te σ H Q) = (aa σ H fun vs H1 => ∃ a b xs ys, vs = [.ref a, .ref b] ∧ SqL K H1 a xs ∧ SqL K H1 b ys ∧ ∀ p, H1 p = none → CompI2 K (ItZL K a b xs ys) p (frV σ fr) tt te Q H1) := rfl
end
section
variable {K : PySem.W.Frag} {p : Addr} {fv : St} {te : TE} {Q : VK} {H1 : Hp}
theorem gq4 {a b : Addr} {xs ys : List V} (J : Nat → List V → Hp → Prop) (hm : ∀ i ws H H', Same H H' → J i ws H → J i ws H') (hlen : xs.length ≤ sizeLine) (h0 : J 0 [] (upd H1 p (.lst []))) (hS : ∀ i ws H2, J i ws H2 → SqL K H2 a xs ∧ SqL K H2 b ys)
  (he : ∀ (i : Nat) (x y : V) (ws : List V) (H2 : Hp) (T : VK), xs[i]? = some x → ys[i]? = some y → J i ws H2 → H2 p = some (.lst ws) → (∀ z H3, H3 p = some (.lst ws) → J (i + 1) (ws ++ [z]) (upd H3 p (.lst (ws ++ [z]))) → T z H3) → te (some x :: some y :: fv) H2 T)
  (hQ : ∀ ws H2, J (min xs.length ys.length) ws H2 → H2 p = some (.lst ws) → Q (.ref p) H2) : CompI2 K (ItZL K a b xs ys) p fv tYes te Q H1 := by
 refine ⟨fun i m ws H2 => m = min xs.length ys.length - i ∧ i ≤ min xs.length ys.length ∧ ws.length = i ∧ H2 p = some (.lst ws) ∧ J i ws H2, ⟨min xs.length ys.length, by simp, Nat.zero_le _, rfl, aqn, h0⟩, ?_⟩
 rintro i m ws H2 ⟨rfl, hi, hwl, hp2, hJ⟩
 refine ⟨hp2, ?_⟩
 obtain ⟨qx, qy⟩ := hS _ _ _ hJ
 by_cases hlt : i < min xs.length ys.length
 ·refine .inr ⟨⟨hlt, qx, qy⟩, by omega, fun x H3 y => ?_⟩
  obtain ⟨T, vs, rfl, hT, rfl, x, y, hx, hy, rfl⟩ := y
  have s3 : Same H2 (upd H2 T (.tup [x, y])) := fun b o e => by rw [aqp (aqj e hT)]; exact e
  refine ⟨T, x, y, rfl, .inl (.inl aqn), ?_⟩
  unfold tYes
  dsimp only
  rw [if_pos rfl]
  exact he i x y ws _ _ hx hy (hm _ _ _ _ s3 hJ) (s3 _ _ hp2) fun z H5 hp5 hJ5 => ⟨hp5, min xs.length ys.length - (i + 1), by omega, rfl, hlt, by rw [List.length_append, hwl]; rfl, aqn, hJ5⟩
 ·have e : i = min xs.length ys.length := by omega
  subst e
  exact .inl ⟨⟨rfl, qx, qy⟩, hQ ws H2 hJ hp2⟩
end
section
variable {prog : Program} {w : World} {A : Around} {E : Value → Shared → Prop} {s : Shared}
end
def ItEL (K : PySem.W.Frag) (a : Addr) (xs : List V) : It := ItW xs.length (fun H => SqL K H a xs) fun i _ ys => ∃ v, xs[i]? = some v ∧ ys = [.int (i : Int), v]
section
variable {X : Cx} {K : PySem.W.Frag} {elts : List Expr} {kk : Nat} {tpos : Pos}
def iEnumL (K : PySem.W.Frag) (ta : TA) : TI := fun σ H R => ta σ H fun vs H1 => ∃ a xs, vs = [.ref a] ∧ SqL K H1 a xs ∧ R (ItEL K a xs) H1
variable {σ : St} {H : Hp} {D : Ends} {g : TG} {tb : TS} {aa : TA}
theorem iqC : (tFor (iEnumL K aa) g tb D σ H) = (aa σ H fun vs H1 => ∃ a xs, vs = [.ref a] ∧ SqL K H1 a xs ∧ LoopI (ItEL K a xs) g tb D σ H1) := rfl
variable {p : Addr} {fv : St} {tt : TT} {te : TE} {Q : VK} {H1 : Hp} {fr : List Nat}
theorem gq1 : (tComp2 K (iEnumL K aa) fr tt te σ H Q) = (aa σ H fun vs H1 => ∃ a xs, vs = [.ref a] ∧ SqL K H1 a xs ∧ ∀ p, H1 p = none → CompI2 K (ItEL K a xs) p (frV σ fr) tt te Q H1) := rfl
theorem gqV : (tComp2 K (iEnum K aa) fr tt te σ H Q) = (aa σ H fun vs H1 => ∃ a xs, vs = [.ref a] ∧ SqT K H1 a xs ∧ ∀ p, H1 p = none → CompI2 K (ItE K a xs) p (frV σ fr) tt te Q H1) := rfl
end
section
variable {X : Cx}
def rStart1 : V → List V → Hp → VK → Prop := fun x vs H Q => ∃ z y : List Nat, x = .str ⟨z.toArray⟩ ∧ vs = [.str ⟨y.toArray⟩] ∧ Q (.bl (decide (z.take y.length = y))) H
def rEnd1 : V → List V → Hp → VK → Prop := fun x vs H Q => ∃ z y : List Nat, x = .str ⟨z.toArray⟩ ∧ vs = [.str ⟨y.toArray⟩] ∧ Q (.bl (decide (z.drop (z.length - y.length) = y))) H
theorem lqP {i j : Nat} {ta : TA} {D : Ends} {σ : St} {H : Hp} : (tPar i j ta D σ H) = (ta σ H fun vs H1 => ∃ v w, vs = [v, w] ∧ D.nx ((σ.set i (some v)).set j (some w)) H1) := rfl
theorem kqJ {z y : List Nat} {H : Hp} {Q : VK} : rStart1 (.str ⟨z.toArray⟩) [.str ⟨y.toArray⟩] H Q ↔ Q (.bl (decide (z.take y.length = y))) H :=
 ⟨fun ⟨z', y', e1, e2, h⟩ => by
  injection e1 with e1; injection e1 with e1
  injection e2 with e2; injection e2 with e2; injection e2 with e2
  have h1 : z = z' := by simpa using congrArg Array.toList e1
  have h2 : y = y' := by simpa using congrArg Array.toList e2
  subst h1 h2; exact h, fun h => ⟨z, y, rfl, rfl, h⟩⟩
theorem kqo {z y : List Nat} {H : Hp} {Q : VK} : rEnd1 (.str ⟨z.toArray⟩) [.str ⟨y.toArray⟩] H Q ↔ Q (.bl (decide (z.drop (z.length - y.length) = y))) H :=
 ⟨fun ⟨z', y', e1, e2, h⟩ => by
  injection e1 with e1; injection e1 with e1
  injection e2 with e2; injection e2 with e2; injection e2 with e2
  have h1 : z = z' := by simpa using congrArg Array.toList e1
  have h2 : y = y' := by simpa using congrArg Array.toList e2
  subst h1 h2; exact h, fun h => ⟨z, y, rfl, rfl, h⟩⟩
end
end L2
namespace L2
open PySem
section
variable {p : Addr} {fv : St} {tt : TT} {te : TE} {Q : VK} {H1 : Hp} {K : PySem.W.Frag}
end
end L2
namespace Wm
open PySem L2
inductive Pc
 | step (s : List Nat)
 | part (h n t : List Nat)
 | num (n : List Nat)
 | word (n : List Nat)
 | gap (n : List Nat)
 | rest (n : List Nat)
abbrev tV (l : List Nat) : V := .str ⟨l.toArray⟩
def Pc.kw : Pc → Str
 | .step _ => Str.ofString "step"
 | .part .. => Str.ofString "part"
 | .num _ => Str.ofString "number"
 | .word _ => Str.ofString "word"
 | .gap _ => Str.ofString "gap"
 | .rest _ => Str.ofString "rest"
def Pc.tl : Pc → List V
 | .step s => [tV s]
 | .part h n t => [tV h, tV n, tV t]
 | .num n => [tV n]
 | .word n => [tV n]
 | .gap n => [tV n]
 | .rest n => [tV n]
def Pc.vals (c : Pc) : List V := .str c.kw :: c.tl
def Pc.name : Pc → List Nat
 | .step _ => []
 | .part _ n _ => n
 | .num n => n
 | .word n => n
 | .gap n => n
 | .rest n => n
def Pc.head : Pc → List Nat | .part h _ _ => h | _ => []
def Pc.tail : Pc → List Nat | .part _ _ t => t | _ => []
def Pc.isStep : Pc → Bool | .step _ => true | _ => false
def Pc.isPart : Pc → Bool | .part .. => true | _ => false
def Pc.isRest : Pc → Bool | .rest _ => true | _ => false
theorem Pc.at0 (c : Pc) : atI c.vals 0 = some (.str c.kw) := aqf (j := 0) rfl
theorem kqr (c : Pc) : decide (c.kw = Str.ofString "step") = c.isStep := by cases c <;> first | exact decide_eq_true rfl | exact decide_eq_false (show ¬ (Str.ofString _ = Str.ofString _) by decide +kernel)
theorem kqI (c : Pc) : decide (c.kw = Str.ofString "part") = c.isPart := by cases c <;> first | exact decide_eq_true rfl | exact decide_eq_false (show ¬ (Str.ofString _ = Str.ofString _) by decide +kernel)
theorem kqd (c : Pc) : decide (c.kw = Str.ofString "rest") = c.isRest := by cases c <;> first | exact decide_eq_true rfl | exact decide_eq_false (show ¬ (Str.ofString _ = Str.ofString _) by decide +kernel)
def isSma (c : Nat) : Bool := decide (97 ≤ c ∧ c ≤ 122)
inductive Vl
 | txt (l : List Nat)
 | int (i : Int)
 | lst (ls : List (List Nat))
def VlV (H : Hp) : Vl → V → Prop
 | .txt l, v => v = tV l
 | .int i, v => v = .int i
 | .lst ls, v => ∃ p, v = .ref p ∧ H p = some (.lst (ls.map tV))
inductive PcAll (K : PySem.W.Frag) (H : Hp) : List Pc → List V → Prop
 | nil : PcAll K H [] []
 | cons {c : Pc} {p : Addr} {cs : List Pc} {xs : List V} : SqT K H p c.vals → PcAll K H cs xs → PcAll K H (c :: cs) (.ref p :: xs)
theorem PcAll.mono {K : PySem.W.Frag} {H H' : Hp} (s : Same H H') : ∀ {cs : List Pc} {xs : List V}, PcAll K H cs xs → PcAll K H' cs xs
 | _, _, .nil => .nil
 | _, _, .cons h r => .cons (s.tup h) (PcAll.mono s r)
theorem PcAll.length {K : PySem.W.Frag} {H : Hp} : ∀ {cs : List Pc} {xs : List V}, PcAll K H cs xs → xs.length = cs.length
 | _, _, .nil => rfl
 | _, _, .cons _ r => by simp [PcAll.length r]
theorem PcAll.get {K : PySem.W.Frag} {H : Hp} : ∀ {cs : List Pc} {xs : List V}, PcAll K H cs xs → ∀ {i : Nat} {v : V}, xs[i]? = some v → ∃ c p, cs[i]? = some c ∧ v = .ref p ∧ SqT K H p c.vals
 | _, _, .nil, i, v, e => by simp at e
 | _, _, .cons h r, 0, v, e => by cases e; exact ⟨_, _, rfl, rfl, h⟩
 | _, _, .cons h r, i + 1, v, e => by simp only [List.getElem?_cons_succ] at e ⊢; exact r.get e
def smaL : List Nat := (Str.ofString "abcdefghijklmnopqrstuvwxyz").cps.toList
theorem hq8 : ∀ c, c < 128 → (c ∈ smaL ↔ isSma c = true) := by decide +kernel
theorem gqH : ∀ c ∈ smaL, c < 128 := by decide +kernel
theorem jqY (l : List Nat) : l.all isSma = l.all fun c => decide (c ∈ smaL) := by
 congr 1
 funext c
 by_cases h : c < 128
 ·rw [Bool.eq_iff_iff, decide_eq_true_eq]; exact (hq8 c h).symm
 ·have h1 : ¬ c ∈ smaL := fun z => h (gqH c z)
  rw [decide_eq_false h1]
  unfold isSma
  exact decide_eq_false (by omega)
inductive BndV (H : Hp) (l : Addr) : List (List Nat × Vl) → List V → Prop
 | nil : BndV H l [] []
 | cons {n : List Nat} {x : Vl} {p : Addr} {v : V} {bs : List (List Nat × Vl)} {ys : List V} : H p = some (.tup [tV n, v]) → VlV H x v → (∀ q, v = .ref q → q ≠ l) → BndV H l bs ys → BndV H l ((n, x) :: bs) (.ref p :: ys)
theorem iqq (xs : List V) (i : Nat) : cutV xs (some (i : Int)) none = xs.drop i := by
 unfold cutV
 rw [HT.sIx_none, HT.sIx_nat]
 by_cases h : i ≤ xs.length
 ·rw [Nat.min_eq_left h, List.take_of_length_le (by rw [List.length_drop]; omega)]
 ·rw [Nat.min_eq_right (by omega), List.drop_of_length_le (Nat.le_refl _), List.drop_of_length_le (by omega)]
  simp
theorem jqp (i : Int) : ∃ c, atI smaL (i % 26) = some c ∧ isSma c = true := by
 have h1 := Int.emod_nonneg i (show (26 : Int) ≠ 0 by decide)
 have h2 := Int.emod_lt_of_pos i (show (0 : Int) < 26 by decide)
 have hl : smaL.length = 26 := by decide +kernel
 have h3 : (i % 26).toNat < smaL.length := by omega
 refine ⟨smaL[(i % 26).toNat], ?_, (hq8 _ (gqH _ (List.getElem_mem h3))).mp (List.getElem_mem h3)⟩
 have := aqf (List.getElem?_eq_getElem h3)
 rw [Int.toNat_of_nonneg h1] at this
 exact this
def PcOk : Pc → Prop
 | .step s => 0 < s.length ∧ s.length ≤ 100 ∧ (∀ c ∈ s, isSg c = true) ∧ isDot s = false
 | .part h _ t => h.length ≤ 100 ∧ t.length ≤ 100 ∧ (∀ c ∈ h, isSg c = true) ∧ (∀ c ∈ t, isSg c = true) ∧ h ++ t ≠ []
 | _ => True
theorem hqq (s : Stp) : inV (sV s) [sV [], sV sStay, sV sUp] = (decide (s = []) || isDot s) := by
 have e : ∀ a : Stp, eqV (sV a) (sV s) = decide (s = a) := fun a => by
  show ((⟨a.toArray⟩ : Str) == ⟨s.toArray⟩) = decide (s = a)
  rw [Bool.eq_iff_iff, beq_iff_eq, decide_eq_true_eq, fq0]
  exact ⟨Eq.symm, Eq.symm⟩
 have h := kqm s
 unfold inV at h ⊢
 rw [List.any_cons, h, e]
theorem iqS (l : List Nat) (d : Nat) (h : d ≠ 46) : isDot (l ++ [d]) = false := by
 refine gqn.mpr ⟨fun z => ?_, fun z => ?_⟩
 ·have : (l ++ [d]).getLast? = sUp.getLast? := by rw [z]
  rw [List.getLast?_append] at this
  exact h (by simpa [sUp] using this)
 ·have : (l ++ [d]).getLast? = sStay.getLast? := by rw [z]
  rw [List.getLast?_append] at this
  exact h (by simpa [sStay] using this)
theorem layL {n : Nat} {ds : List PyData} (h : ∀ d ∈ ds, LayAt n d) : LayAt (n + 1) (.list ds) := by
 obtain ⟨h1, h2⟩ := layAll h
 exact ⟨by simp only [PyData.canLay0, h1], by simp only [PyData.depth]; omega⟩
theorem lq9 {l : List Nat} (h : l.all isSma = true) : ∀ c ∈ l, isSg c = true := fun c hc => by
 have := List.all_eq_true.mp h c hc
 simp only [isSma, decide_eq_true_eq] at this
 simp only [isSg, Bool.and_eq_true, decide_eq_true_eq, Bool.not_eq_true', decide_eq_false_iff_not]
 omega
def PatOk (ps : List Pc) : Prop := (∀ c ∈ ps, PcOk c) ∧ ∀ i c, ps[i]? = some c → c.isRest = true → i + 1 = ps.length
def NmAt (X : Int) (a k : Nat) (n : List Nat) : Prop := ∃ d, n[a]? = some d ∧ atI smaL ((X + (k : Int)) % 26) = some d
theorem NmAt.app {X : Int} {a k : Nat} {n m : List Nat} (h : NmAt X a k n) : NmAt X a k (n ++ m) := by
 obtain ⟨d, h1, h2⟩ := h
 exact ⟨d, by rw [List.getElem?_append_left (List.getElem?_eq_some_iff.mp h1).1]; exact h1, h2⟩
theorem kqu : ∀ i, i < 26 → ∀ j, j < 26 → smaL[i]? = smaL[j]? → i = j := by decide +kernel
theorem iqR {X : Int} {a : Nat} {ns : List (List Nat)} (h : ∀ (k : Nat) (n : List Nat), ns[k]? = some n → NmAt X a k n) (hl : ns.length ≤ 26) : ns.Nodup := by
 rw [List.nodup_iff_pairwise_ne, List.pairwise_iff_getElem]
 intro i j hi hj hij e
 obtain ⟨d, h1, h2⟩ := h i _ (List.getElem?_eq_getElem hi)
 obtain ⟨d', h3, h4⟩ := h j _ (List.getElem?_eq_getElem hj)
 rw [e, h3] at h1
 cases h1
 have m1 := Int.emod_nonneg (X + (i : Int)) (show (26 : Int) ≠ 0 by decide)
 have m2 := Int.emod_lt_of_pos (X + (i : Int)) (show (0 : Int) < 26 by decide)
 have m3 := Int.emod_nonneg (X + (j : Int)) (show (26 : Int) ≠ 0 by decide)
 have m4 := Int.emod_lt_of_pos (X + (j : Int)) (show (0 : Int) < 26 by decide)
 have at_get : ∀ {z : Int}, 0 ≤ z → z < 26 → atI smaL z = smaL[z.toNat]? := fun {z} z0 z1 => by
  obtain ⟨n, rfl⟩ := Int.eq_ofNat_of_zero_le z0
  have hl : smaL.length = 26 := by decide +kernel
  have hn : n < smaL.length := by omega
  rw [aqf (List.getElem?_eq_getElem hn), ← List.getElem?_eq_getElem hn]
  rfl
 rw [at_get m1 m2] at h2
 rw [at_get m3 m4] at h4
 have := kqu _ (by omega) _ (by omega) (h2.trans h4.symm)
 omega
inductive PcT (H : Hp) : List Pc → List V → Prop
 | nil : PcT H [] []
 | cons {c : Pc} {p : Addr} {cs : List Pc} {xs : List V} : H p = some (.tup c.vals) → PcT H cs xs → PcT H (c :: cs) (.ref p :: xs)
theorem PcT.mono {H H' : Hp} (s : SameT H H') : ∀ {cs : List Pc} {xs : List V}, PcT H cs xs → PcT H' cs xs
 | _, _, .nil => .nil
 | _, _, .cons h r => .cons (s _ _ h) (PcT.mono s r)
theorem PcT.length {H : Hp} : ∀ {cs : List Pc} {xs : List V}, PcT H cs xs → xs.length = cs.length
 | _, _, .nil => rfl
 | _, _, .cons _ r => by simp [PcT.length r]
theorem PcT.append {H : Hp} {ds : List Pc} {ys : List V} (h2 : PcT H ds ys) : ∀ {cs : List Pc} {xs : List V}, PcT H cs xs → PcT H (cs ++ ds) (xs ++ ys)
 | _, _, .nil => h2
 | _, _, .cons h r => .cons h (PcT.append h2 r)
theorem PcT.take {H : Hp} : ∀ {cs : List Pc} {xs : List V} (n : Nat), PcT H cs xs → PcT H (cs.take n) (xs.take n)
 | _, _, 0, _ => .nil
 | _, _, _ + 1, .nil => .nil
 | _, _, n + 1, .cons h r => .cons h (PcT.take n r)
def pcD (c : Pc) : PyData := .tuple (.str c.kw :: match c with
 | .step s => [st s]
 | .part h n t => [st h, st n, st t]
 | .num n => [st n]
 | .word n => [st n]
 | .gap n => [st n]
 | .rest n => [st n])
theorem PcT.isT {H : Hp} : ∀ {cs : List Pc} {xs : List V}, PcT H cs xs → IsTAll H (cs.map pcD) xs
 | _, _, .nil => .nil
 | c :: _, _, .cons h r => by
  refine .cons ?_ (PcT.isT r)
  cases c with
  | step s => exact .tup h (.cons (.str _) (.cons (.str _) .nil))
  | part a b d => exact .tup h (.cons (.str _) (.cons (.str _) (.cons (.str _) (.cons (.str _) .nil))))
  | num n => exact .tup h (.cons (.str _) (.cons (.str _) .nil))
  | word n => exact .tup h (.cons (.str _) (.cons (.str _) .nil))
  | gap n => exact .tup h (.cons (.str _) (.cons (.str _) .nil))
  | rest n => exact .tup h (.cons (.str _) (.cons (.str _) .nil))
def PcSg (c : Pc) : Prop := (∀ l, c = .step l → ∀ x ∈ l, isSg x = true) ∧ (∀ h n t, c = .part h n t → (∀ x ∈ h, isSg x = true) ∧ ∀ x ∈ t, isSg x = true) ∧ ∀ x ∈ c.name, isSg x = true
theorem jq0 {c : Pc} (h : PcSg c) : LayAt 1 (pcD c) := by
 have kwl : ∀ s : Str, s ∈ [Str.ofString "step", Str.ofString "part", Str.ofString "number", Str.ofString "word", Str.ofString "gap", Str.ofString "rest"] → LayAt 0 (PyData.str s) := fun s hs => by
  have all : ∀ s ∈ [Str.ofString "step", Str.ofString "part", Str.ofString "number", Str.ofString "word", Str.ofString "gap", Str.ofString "rest"], ∀ x ∈ s.cps.toList, isSg x = true := by decide +kernel
  exact LayAt.st (l := s.cps.toList) (all s hs)
 have one : ∀ (k : Str) (l : List Nat), k ∈ [Str.ofString "step", Str.ofString "part", Str.ofString "number", Str.ofString "word", Str.ofString "gap", Str.ofString "rest"] → (∀ x ∈ l, isSg x = true) → LayAt 1 (.tuple [.str k, st l]) := fun k l hk hl => LayAt.tup (n := 0) fun d hd => by
  simp only [List.mem_cons, List.not_mem_nil, or_false] at hd
  rcases hd with rfl | rfl
  ·exact kwl k hk
  ·exact LayAt.st hl
 cases c with
 | step s => exact one _ s (by simp [Pc.kw]) (h.1 s rfl)
 | part a b d =>
  obtain ⟨h1, h2⟩ := h.2.1 a b d rfl
  refine LayAt.tup (n := 0) fun x hx => ?_
  simp only [List.mem_cons, List.not_mem_nil, or_false] at hx
  rcases hx with rfl | rfl | rfl | rfl
  ·exact kwl _ (by simp [Pc.kw])
  ·exact LayAt.st h1
  ·exact LayAt.st h.2.2
  ·exact LayAt.st h2
 | num n => exact one _ n (by simp [Pc.kw]) h.2.2
 | word n => exact one _ n (by simp [Pc.kw]) h.2.2
 | gap n => exact one _ n (by simp [Pc.kw]) h.2.2
 | rest n => exact one _ n (by simp [Pc.kw]) h.2.2
theorem gqO {cs : List Pc} (h : ∀ c ∈ cs, PcSg c) : LayAt 2 (.list (cs.map pcD)) := layL fun d hd => by
 obtain ⟨c, hc, rfl⟩ := List.mem_map.mp hd
 exact jq0 (h c hc)
end Wm
namespace L2
open PySem PySem.Spec PyProof.Rows
section
variable {p : Addr} {fv : St} {tt : TT} {te : TE} {Q : VK} {H H1 : Hp} {K : PySem.W.Frag}
theorem lqo {l b : Addr} : rExtend (.ref l) [.ref b] H Q ↔ ∃ xs zs, H l = some (.lst xs) ∧ H b = some (.lst zs) ∧ xs.length + zs.length ≤ sizeLine ∧ Q .non (upd H l (.lst (xs ++ zs))) := by
 constructor
 ·rintro ⟨l', b', xs, zs, h1, h2, h3⟩
  cases h1; cases h2
  exact ⟨xs, zs, h3⟩
 ·rintro ⟨xs, zs, h⟩
  exact ⟨l, b, xs, zs, rfl, rfl, h⟩
theorem hqG {tl : TE} {fr : List Nat} {σ : St} : (tComp2 K (iList K tl) fr tt te σ H Q) = (tl σ H fun x H1 => ∃ a, x = .ref a ∧ (∃ xs, SqL K H1 a xs) ∧ ∀ p, H1 p = none → CompI2 K (Itl K a) p (frV σ fr) tt te Q H1) := rfl
theorem gqU {a : Addr} {xs : List V} (t : Nat → Bool) (g : Nat → V) (hxs : SqT K H1 a xs) (hlen : xs.length ≤ sizeLine) (hp : H1 p = none)
  (ht : ∀ (i : Nat) (x : V), xs[i]? = some x → ∀ (H' : Hp) (R : Bool → Hp → Prop), Same H1 H' → (∀ H'', Same H' H'' → R (t i) H'') → tt (some x :: fv) H' R)
  (he : ∀ (i : Nat) (x : V), xs[i]? = some x → t i = true → ∀ (H' : Hp) (T : VK), Same H1 H' → (∀ H'', Same H' H'' → T (g i) H'') → te (some x :: fv) H' T)
  (hQ : ∀ H', Same H1 H' → H' p = some (.lst (((List.range xs.length).filter t).map g)) → Q (.ref p) H') : CompI (Itt K a) p fv tt te Q H1 := by
 refine ⟨fun i m ys H2 => m = xs.length - i ∧ i ≤ xs.length ∧ ys = ((List.range i).filter t).map g ∧ H2 p = some (.lst ys) ∧ Same H1 H2, ⟨xs.length, by simp, Nat.zero_le _, by simp, aqn, fun b o e => by rw [aqp (aqj e hp)]; exact e⟩, ?_⟩
 rintro i m ys H2 ⟨rfl, hi, rfl, hp2, sm⟩
 refine ⟨hp2, ?_⟩
 have q := sm.tup hxs
 by_cases hlt : i < xs.length
 ·refine .inr ⟨⟨xs, xs[i], q, by simp [hlt]⟩, ?_, fun x H3 y => ?_⟩
  ·rw [List.length_map]
   have := List.length_filter_le t (List.range i)
   rw [List.length_range] at this
   omega
  ·obtain ⟨rfl, y⟩ := y
   have hc := y xs q
   refine ht i x hc _ _ sm fun H4 s4 => ?_
   by_cases hf : t i = true
   ·rw [if_pos hf]
    refine he i x hc hf _ _ (sm.trans s4) fun H5 s5 => ⟨(s4.trans s5) _ _ hp2, xs.length - (i + 1), by omega, rfl, hlt, ?_, aqn, fun b o e => ?_⟩
    ·rw [List.range_succ, List.filter_append, List.map_append]; simp [hf]
    ·rw [aqp (aqj e hp)]; exact (s4.trans s5) _ _ (sm _ _ e)
   ·rw [if_neg hf]
    refine ⟨xs.length - (i + 1), by omega, rfl, hlt, ?_, s4 _ _ hp2, sm.trans s4⟩
    rw [List.range_succ, List.filter_append, List.map_append]; simp [hf]
 ·have e : i = xs.length := by omega
  subst e
  exact .inl ⟨⟨xs, q, Nat.le_refl _⟩, hQ H2 sm hp2⟩
end
end L2
namespace Wm
open PySem L2
theorem dq1 {α β : Type} (f : α → Bool) (g : α → β) (d : β) : ∀ (l : List α), ((List.range l.length).filter fun i => (l[i]?.map f).getD false).map (fun i => (l[i]?.map g).getD d) = (l.filter f).map g
 | [] => rfl
 | a :: l => by
  have ih := dq1 f g d l
  have e2 : ((((List.range l.length).map Nat.succ).filter fun i => (((a :: l)[i]?).map f).getD false).map fun i => (((a :: l)[i]?).map g).getD d) = (l.filter f).map g := by
   rw [List.filter_map, List.map_map, ← ih]
   rfl
  rw [List.length_cons, List.range_succ_eq_map, List.filter_cons]
  by_cases hf : f a = true
  ·rw [if_pos (by simp [hf]), List.map_cons, e2, List.filter_cons, if_pos hf, List.map_cons]
   rfl
  ·rw [if_neg (by simp [hf]), e2, List.filter_cons, if_neg hf]
def canD : PyData → Bool
 | .str s => s.cps.toList.all isSg && decide (0 < s.length) && !isDot s.cps.toList
 | _ => false
inductive VlsV (H : Hp) : List (List Nat × PyData) → List V → Prop
 | nil : VlsV H [] []
 | cons {n : List Nat} {d : PyData} {p : Addr} {v : V} {vs : List (List Nat × PyData)} {xs : List V} : H p = some (.tup [tV n, v]) → Is H d v → VlsV H vs xs → VlsV H ((n, d) :: vs) (.ref p :: xs)
def gapsM (cs : List Pc) : List (List Nat) := (cs.filter fun c => !c.isStep).map Pc.name
def named (vs : List (List Nat × PyData)) (n : List Nat) : List PyData := (vs.filter fun p => decide (p.1 = n)).map (·.2)
end Wm
namespace L2
open PySem
end L2
namespace Wm
open PySem L2
theorem jqm (cs : List Pc) : (gapsM cs).length ≤ cs.length := by
 unfold gapsM
 rw [List.length_map]
 exact List.length_filter_le _ _
theorem eq1 {ns : List (List Nat)} (hn : ns.Nodup) : ∀ {cs : List Pc} (k : Nat), (∀ (i : Nat) (c : Pc), cs[i]? = some c → c.isStep = false → ns[k + i]? = some c.name) → (gapsM cs).Nodup ∧ ∀ n ∈ gapsM cs, ∃ j, k ≤ j ∧ ns[j]? = some n
 | [], _, _ => ⟨List.nodup_nil, fun n h => by cases h⟩
 | c :: cs, k, h => by
  obtain ⟨i1, i2⟩ := eq1 hn (cs := cs) (k + 1) fun i d hd hs => by
   have := h (i + 1) d (by simpa using hd) hs
   rw [← this]; congr 1; omega
  have e : gapsM (c :: cs) = (if c.isStep then [] else [c.name]) ++ gapsM cs := by
   unfold gapsM
   rw [List.filter_cons]
   cases c.isStep <;> rfl
  rw [e]
  cases hs : c.isStep with
  | true => exact ⟨i1, fun n hn' => by obtain ⟨j, h1, h2⟩ := i2 n hn'; exact ⟨j, by omega, h2⟩⟩
  | false =>
   have h0 : ns[k]? = some c.name := h 0 c rfl hs
   refine ⟨?_, fun n hn' => ?_⟩
   ·show (c.name :: gapsM cs).Nodup
    rw [List.nodup_cons]
    refine ⟨fun z => ?_, i1⟩
    obtain ⟨j, h1, h2⟩ := i2 _ z
    obtain ⟨a1, a2⟩ := List.getElem?_eq_some_iff.mp h0
    obtain ⟨b1, b2⟩ := List.getElem?_eq_some_iff.mp h2
    rw [List.nodup_iff_pairwise_ne, List.pairwise_iff_getElem] at hn
    exact hn k j a1 b1 (by omega) (a2.trans b2.symm)
   ·rcases List.mem_cons.mp (show n ∈ c.name :: gapsM cs from hn') with rfl | z
    ·exact ⟨k, Nat.le_refl _, h0⟩
    ·obtain ⟨j, h1, h2⟩ := i2 n z; exact ⟨j, by omega, h2⟩
theorem dqd : ∀ {ds : List PyData}, (∀ d ∈ ds, PyData.eqv d d = true) → PyData.eqvAll ds ds = true
 | [], _ => by simp [PyData.eqvAll]
 | d :: ds, h => by
  have h1 := h d (List.mem_cons_self ..)
  have h2 := dqd (ds := ds) fun x hx => h x (List.mem_cons_of_mem _ hx)
  simp [PyData.eqvAll, h1, h2]
theorem iqn {ds : List PyData} (h : ∀ d ∈ ds, PyData.eqv d d = true) : PyData.eqv (.list ds) (.list ds) = true := by
 simp [PyData.eqv, dqd h]
theorem jq5 {ds : List PyData} (h : ∀ d ∈ ds, PyData.eqv d d = true) : PyData.eqv (.tuple ds) (.tuple ds) = true := by
 simp [PyData.eqv, dqd h]
theorem jqO (i : Int) : PyData.eqv (.int i) (.int i) = true := by simp [PyData.eqv]
theorem iq2 (b : Bool) : PyData.eqv (.bool b) (.bool b) = true := by simp [PyData.eqv]
theorem mqs {α : Type} (xs : List α) (a b : Nat) : (cutA xs (some (a : Int)) (some (b : Int))).length ≤ b - a := by
 unfold cutA
 rw [HT.sIx_nat, HT.sIx_nat, List.length_take, List.length_drop]
 omega
theorem gqP (xs : List V) (i : Nat) : cutV xs none (some (i : Int)) = xs.take i := by
 unfold cutV
 rw [HT.sIx_none, HT.sIx_nat, List.drop_zero, Nat.sub_zero]
 by_cases h : i ≤ xs.length
 ·rw [Nat.min_eq_left h]
 ·rw [Nat.min_eq_right (by omega), List.take_length, List.take_of_length_le (by omega)]
end Wm
namespace L2
open PySem PySem.Spec PyProof.Rows
section
variable {X : Cx}
def rSplit : V → List V → Hp → VK → Prop := fun x vs H Q => ∃ (z : Str) (c : Nat), x = .str z ∧ vs = [.str ⟨#[c]⟩] ∧ z.length ≤ 100000 ∧ ∀ p, H p = none → Q (.ref p) (upd H p (.lst ((Txt.split z ⟨#[c]⟩).map V.str)))
end
theorem jqR {z : Str} {c : Nat} {H : Hp} {Q : VK} : rSplit (.str z) [.str ⟨#[c]⟩] H Q ↔ z.length ≤ 100000 ∧ ∀ p, H p = none → Q (.ref p) (upd H p (.lst ((Txt.split z ⟨#[c]⟩).map V.str))) := by
 constructor
 ·rintro ⟨z', c', e1, e2, h⟩
  cases e1
  cases e2
  exact h
 ·exact fun h => ⟨z, c, rfl, rfl, h⟩
section
variable {prog : Program} {w : World} {A : Around} {E : Value → Shared → Prop} {s : Shared}
end
def ItES (x : Str) : It := ItW x.cps.size (fun _ => True) fun i _ ys => ∃ c, x.cps[i]? = some c ∧ ys = [.int (i : Int), .str ⟨#[c]⟩]
section
variable {X : Cx} {elts : List Expr} {kk : Nat} {tpos : Pos}
def iEnumS (ta : TA) : TI := fun σ H R => ta σ H fun vs H1 => ∃ x : Str, vs = [.str x] ∧ (x.cps.all fun c => decide (c < 128)) = true ∧ R (ItES x) H1
variable {σ : St} {H : Hp} {D : Ends} {g : TG} {tb : TS} {aa : TA}
theorem iqB : (tFor (iEnumS aa) g tb D σ H) = (aa σ H fun vs H1 => ∃ x : Str, vs = [.str x] ∧ (x.cps.all fun c => decide (c < 128)) = true ∧ LoopI (ItES x) g tb D σ H1) := rfl
end
section
variable {κ : Type} [DecidableEq κ]
end
section
variable {P : Program} {w : World} {H : Hp} {h : Heap} {a : Addr}
theorem mqw {u : HO} (ok : HOk P w H h) (e : Rd H a u) : ObjOk P w H h a u := e.ok ok
theorem mqD {kvs : List (Key × V)} (ok : HOk P w H h) (e : Rd H a (.dK kvs)) : kvs.length ≤ sizeLine ∧ (a == sysModules) = false ∧ ∃ vs, KV kvs vs ∧ h.DictOf (mixKind P w) a vs :=
 show ObjOk P w H h a (.dK kvs) from mqw ok e
theorem kqA {kvs : List (Key × V)} (ok : HOk P w H h) (e : H a = some (.dK kvs)) : kvs.length ≤ sizeLine ∧ (a == sysModules) = false ∧ ∃ vs, KV kvs vs ∧ h.DictOf (mixKind P w) a vs := mqD ok (.inl e)
end
section
variable {X : Cx} {pins : List (Addr × Obj)} {σ : St} {H : Hp} {s : Shared} {a : Addr} {y v : V} {u r : Value} {o : Option V} {A : Around} {E : Value → Shared → Prop}
theorem Inv.big (I : Inv X pins σ H s) : sysModules < s.heap.objs.size := by
 have h : mainGlobals < s.heap.objs.size := (I.mod.glob.keeps I.bk).lt
 exact Nat.lt_trans (by decide) h
end
section
variable {X : Cx} {pins : List (Addr × Obj)} {σ : St} {H : Hp} {s : Shared} {a : Addr} {kvs : List (Key × V)} {k : Key} {u : Value} {A : Around} {E : Value → Shared → Prop}
end
section
variable {X : Cx} {o i e value : Expr} {pos pos' tpos : Pos} {td ty tv : TE}
end
theorem iqO {P : Program} {w : World} {H : Hp} (h : Heap) (hb : sysModules < h.objs.size) : ObjOk P w H (h.push { cls := .type "dict", data := .dict #[] }) h.objs.size (.dK []) :=
 ⟨Nat.zero_le _, beq_eq_false_iff_ne.mpr (Ne.symm (Nat.ne_of_lt hb)), [], .nil, Heap.DictOf.new h⟩
def tDNewK : TE := fun _ H Q => ∀ p, H p = none → Q (.ref p) (upd H p (.dK []))
section
variable {X : Cx} {pos : Pos}
theorem iqL : PE X (.Dict [] [] pos) tDNewK := fun pins s σ H Q I h =>
 wpAny_Dict_empty ⟨.ref s.heap.objs.size, _, I.laid (a := s.heap.objs.size) (o := .dK []) (t' := s.toks) (fun _ _ q => Heap.get?_push_of_some _ q) (Nat.le_refl _) (iqO s.heap I.big), rfl, h _ (I.hok.fresh (Nat.le_refl _))⟩
end
structure M1 (X : Cx) (o : Expr) (m : Str) (apos : Pos) (e : Expr) (cpos : Pos) : Prop where
 base : attributeBase o m X.env (eval o X.env) = eval o X.env
 few : ((backTo cpos (starEach [e] X.env)).all (fun x => !x.1) && (backToKw cpos (keywordEach [] X.env)).all (fun x => x.1.isSome)
  && decide (([e] : List Expr).length + ([] : List Keyword).length + (if ([] : List Keyword).isEmpty then 0 else 1) < 30)) = true
 line : (apos.endLine == cpos.line) = true
 trees : backTo cpos (starEach [e] X.env) = [(false, eval e X.env)]
structure M2 (X : Cx) (o : Expr) (m : Str) (apos : Pos) (e f : Expr) (cpos : Pos) : Prop where
 base : attributeBase o m X.env (eval o X.env) = eval o X.env
 few : ((backTo cpos (starEach [e, f] X.env)).all (fun x => !x.1) && (backToKw cpos (keywordEach [] X.env)).all (fun x => x.1.isSome)
  && decide (([e, f] : List Expr).length + ([] : List Keyword).length + (if ([] : List Keyword).isEmpty then 0 else 1) < 30)) = true
 line : (apos.endLine == cpos.line) = true
 trees : backTo cpos (starEach [e, f] X.env) = [(false, eval e X.env), (false, eval f X.env)]
section
variable {X : Cx} {pins : List (Addr × Obj)} {σ : St} {H : Hp} {s : Shared} {a : Addr} {y d : V} {u r : Value} {o : Option V} {A : Around} {E : Value → Shared → Prop}
end
section
variable {X : Cx} {o e f : Expr} {apos cpos : Pos} {td ty tx : TE}
end
section
variable {X : Cx} {pins : List (Addr × Obj)} {σ : St} {H : Hp} {s : Shared} {a : Addr} {kvs : List (Key × V)} {A : Around} {E : Value → Shared → Prop}
end
section
variable {X : Cx} {pins : List (Addr × Obj)} {σ : St} {H : Hp} {s : Shared} {a : Addr} {y : V} {u : Value} {A : Around} {E : Value → Shared → Prop}
end
end L2
namespace PySem
open PyProof.Rows
section
variable {K : Type} [DecidableEq K]
def fstU (l : List K) : List K := l.foldl (fun acc k => if k ∈ acc then acc else acc ++ [k]) []
theorem eqh (l : List K) (k : K) : fstU (l ++ [k]) = if k ∈ fstU l then fstU l else fstU l ++ [k] := by
 unfold fstU; rw [List.foldl_append]; rfl
theorem fqf : ∀ (n : Nat) (l : List K), l.length = n → ∀ k, k ∈ fstU l ↔ k ∈ l
 | 0, l, h, k => by rw [List.length_eq_zero_iff.mp h]; exact Iff.rfl
 | n + 1, l, h, k => by
  obtain ⟨l', x, rfl⟩ : ∃ l' x, l = l' ++ [x] := ⟨l.dropLast, l.getLast (fun z => by rw [z] at h; cases h), (List.dropLast_concat_getLast _).symm⟩
  have ih := fqf n l' (by rw [List.length_append, List.length_singleton] at h; omega)
  rw [eqh, List.mem_append, List.mem_singleton]
  split
  ·next hx =>
   rw [ih k]
   exact ⟨.inl, fun z => by rcases z with z | rfl; exact z; exact (ih _).mp hx⟩
  ·rw [List.mem_append, List.mem_singleton, ih k]
theorem cqQ : ∀ (n : Nat) (l : List K), l.length = n → ((fstU l).length ≤ l.length ∧ ((fstU l).length = l.length ↔ l.Nodup))
 | 0, l, h => by rw [List.length_eq_zero_iff.mp h]; simp [fstU]
 | n + 1, l, h => by
  obtain ⟨l', x, rfl⟩ : ∃ l' x, l = l' ++ [x] := ⟨l.dropLast, l.getLast (fun z => by rw [z] at h; cases h), (List.dropLast_concat_getLast _).symm⟩
  have hl : l'.length = n := by rw [List.length_append, List.length_singleton] at h; omega
  obtain ⟨i1, i2⟩ := cqQ n l' hl
  have im := fqf n l' hl x
  have hp : (l' ++ [x]).Nodup ↔ x ∉ l' ∧ l'.Nodup := by
   rw [← List.nodup_cons]
   exact (List.perm_append_singleton x l').nodup_iff
  rw [hp, eqh, List.length_append, List.length_singleton]
  split
  ·next hx =>
   refine ⟨by omega, fun z => ?_, fun z => absurd (im.mp hx) z.1⟩
   exact absurd z (by omega)
  ·next hx =>
   rw [List.length_append, List.length_singleton]
   refine ⟨by omega, fun z => ⟨fun y => hx (im.mpr y), i2.mp (by omega)⟩, fun z => by rw [i2.mpr z.2]⟩
end
section
variable {prog : Program} {w : World} {K : Type} [DecidableEq K] {knd : KeyKind prog w K} {A : Around} {R : Result → Shared → Prop} {h0 : Heap} {d it l : Addr} {items : Array Value} {ks : List K}
theorem gqQ {h : Heap} {S S' : K → Bool} {n n' : Nat} (e : ∀ k, S k = S' k) (en : n = n') (hs : h.SetOf knd d S n) : h.SetOf knd d S' n' := by
 subst en
 rw [← (funext e : S = S')]
 exact hs
theorem iqY (hd0 : h0.get? d = none) (hi0 : h0.get? it = none) (hdi : d ≠ it) (hl : h0.IsList l items) (hp : ∀ (i : Nat) (x : Value), items[i]? = some x → ∃ k, ks[i]? = some k ∧ knd.is k x = true ∧ x.scannable = true) (hn : items.size = ks.length) (hsz : ks.length + 1 < scanBound) (hh : A.in1.handled = none) :
  ∀ (k i : Nat) (s : Shared), items.size - i = k → i ≤ items.size → (∀ b o, h0.get? b = some o → s.heap.get? b = some o) → s.heap.IsListIter it l i → s.heap.SetOf knd d (fun k => decide (k ∈ ks.take i)) (fstU (ks.take i)).length →
  (∀ (h' : Heap) (n : Nat), (∀ b o, h0.get? b = some o → h'.get? b = some o) → h'.SetOf knd d (fun k => decide (k ∈ ks)) (fstU ks).length → R (.ok (.ret .none)) { s with heap := h', toks := n }) →
  codeAny (model prog w) A (.builtin "set.update.loop" ⟨[.ref d, .ref it], []⟩) R s := by
 intro k
 induction k with
 | zero =>
  intro i s hk hi sm hit hd hR
  have hin : i = items.size := Nat.le_antisymm hi (by omega)
  obtain ⟨o, ho, r⟩ := hl
  refine codeAny_builtin F.entry_set_update_loop ?_
  rw [Around.under_plainId F.plain_set_update_loop _]
  show wpAny _ A.in1 (pyNext (.ref it) >>= _) _ _ s
  refine wpAny_bind (wpAny_pyNext_list_end hh hit ⟨o, sm _ _ ho, r⟩ (by rw [hin]; simp) fun h' he => ?_)
  rw [hin, hn, List.take_length] at hd
  refine wpAny_pure (hR h' s.toks (fun b o e => he b o (fun z => by rw [z, hi0] at e; cases e) (sm b o e)) ?_)
  obtain ⟨o, es, ep, t, h1, h2⟩ := hd
  exact ⟨o, es, ep, t, he d o hdi h1, h2⟩
 | succ k ih =>
  intro i s hk hi sm hit hd hR
  have hlt : i < items.size := Nat.lt_of_sub_pos (by omega)
  obtain ⟨key, hkv, hkey, hsc⟩ := hp i items[i] (Array.getElem?_eq_getElem hlt)
  obtain ⟨ol, hol, rl⟩ := id hl
  refine codeAny_builtin F.entry_set_update_loop ?_
  rw [Around.under_plainId F.plain_set_update_loop _]
  show wpAny _ A.in1 (pyNext (.ref it) >>= _) _ _ s
  refine wpAny_bind (wpAny_pyNext_list_item hit ⟨ol, sm _ _ hol, rl⟩ (x := items[i]) (Array.getElem?_eq_getElem hlt) fun h1 hit1 hs1 => ?_)
  have sm1 : ∀ b o, h0.get? b = some o → h1.get? b = some o := fun b o e => by
   rw [hs1.2 b (fun z => by rw [z, hi0] at e; cases e)]
   exact sm b o e
  have hd1 : h1.SetOf knd d (fun k => decide (k ∈ ks.take i)) (fstU (ks.take i)).length := by
   obtain ⟨o, es, ep, t, e1, e2⟩ := hd
   exact ⟨o, es, ep, t, by rw [hs1.2 d hdi]; exact e1, e2⟩
  have hml := (cqQ _ (ks.take i) rfl).1
  have hfm := fqf _ (ks.take i) rfl
  rw [List.length_take] at hml
  refine wpAny_bind (wpAny_holding ?_)
  unfold setAdd
  refine wpAny_holding (wpAny_bind (knd.pyHash hkey ?_))
  refine wpAny_setAddHashed_of (s := { s with heap := h1, toks := _ }) hkey hsc hd1 (by omega) fun h2 hs2 hd2 => ?_
  have sm2 : ∀ b o, h0.get? b = some o → h2.get? b = some o := fun b o e => by
   rw [hs2.2 b (fun z => by rw [z, hd0] at e; cases e)]
   exact sm1 b o e
  have hit2 : h2.IsListIter it l (i + 1) := by
   obtain ⟨o, e1, e2⟩ := hit1
   exact ⟨o, by rw [hs2.2 it (Ne.symm hdi)]; exact e1, e2⟩
  have et : ks.take (i + 1) = ks.take i ++ [key] := by rw [List.take_add_one, hkv]; rfl
  refine wpAny_pure ⟨plainId_quiet F.plain_set_update_loop _, ?_⟩
  refine ih (i + 1) _ (by omega) (by omega) sm2 hit2 (gqQ (fun k => ?_) ?_ hd2) (fun h' n e1 e2 => hR h' n e1 e2)
  ·rw [et]
   by_cases h1 : k ∈ ks.take i
   ·rw [decide_eq_true h1, decide_eq_true (List.mem_append_left _ h1)]; rfl
   ·by_cases h2 : k = key
    ·rw [decide_eq_true h2, decide_eq_true (List.mem_append_right _ (List.mem_singleton.mpr h2)), Bool.or_true]
    ·rw [decide_eq_false h1, decide_eq_false h2, decide_eq_false (fun z => by rcases List.mem_append.mp z with y | y; exact h1 y; exact h2 (List.mem_singleton.mp y))]; rfl
  ·rw [et, eqh]
   by_cases h1 : key ∈ ks.take i
   ·rw [if_pos (decide_eq_true h1), if_pos ((hfm _).mpr h1)]
   ·rw [if_neg (by rw [decide_eq_false h1]; decide), if_neg (fun z => h1 ((hfm _).mp z)), List.length_append]; rfl
end
section
variable {prog : Program} {w : World} {K : Type} [DecidableEq K] {knd : KeyKind prog w K} {A : Around} {E : Value → Shared → Prop} {s : Shared} {l : Addr} {items : Array Value} {ks : List K} {Q : Value → Shared → Prop}
theorem hqm (hl : s.heap.IsList l items) (hp : ∀ (i : Nat) (x : Value), items[i]? = some x → ∃ k, ks[i]? = some k ∧ knd.is k x = true ∧ x.scannable = true) (hn : items.size = ks.length) (hsz : ks.length + 1 < scanBound) (hA : A.handled = none)
  (h : ∀ (h' : Heap) (n : Nat), (∀ b o, s.heap.get? b = some o → h'.get? b = some o) → h'.SetOf knd s.heap.objs.size (fun k => decide (k ∈ ks)) (fstU ks).length → Q (.ref s.heap.objs.size) { s with heap := h', toks := n }) :
  wpAny (model prog w) A (call (.type "set") [.ref l]) Q E s := by
 obtain ⟨c, tl, hmro⟩ := F.called_set.mro
 have hmade := F.called_set.made
 have hsub := F.called_set.sub
 have h1 := F.called_set.notType
 have h2 := F.called_set.canCreate
 refine wpAny_call (codeAny_of_tree (wpAny_pure ⟨Code.quiet_builtin _ (by decide +kernel), codeAny_builtin F.entry_type_call ?_⟩))
 rw [Around.under_plain (weight_type_call_type "set" [.ref l] []) rfl]
 unfold Builtin.«type.__call__»
 refine wpAny_ite_false (by rw [h1]; rfl) ?_
 refine wpAny_ite_false (by rw [h2]; rfl) ?_
 refine wpAny_bind (wpAny_of_eq (F.typeCall_set_1 _) ?_)
 refine wpAny_bind (wpAny_of_eq hmro ?_)
 refine wpAny_ite_false rfl ?_
 refine wpAny_bind (wpAny_of_eq hmade ?_)
 refine wpAny_bind (wpAny_pure ?_)
 show wpAny _ _ (holding [Value.builtin "set.__new__"] (call (Value.builtin "set.__new__") [.type "set", .ref l] []) >>= _) _ _ _
 refine wpAny_bind (wpAny_holding (wpAny_call (codeAny_mono (code_set_new_1 (E := E) (Q₁ := fun x s₁ => ∃ led, x = .ref s.heap.objs.size ∧ s₁ = { s with heap := s.heap.push { cls := .type "set", data := .set #[] 0 (SetTable.fresh 0 0 led) } }) (.ref l) fun led => ⟨led, rfl, rfl⟩) fun r s₁ hr => ?_)))
 cases r with
 | error e => exact hr
 | ok fl =>
  cases fl with
  | next => exact hr
  | brk => exact hr
  | cont => exact hr
  | ret v =>
   obtain ⟨led, rfl, rfl⟩ := hr
   have ns : (s.heap.push { cls := .type "set", data := .set #[] 0 (SetTable.fresh 0 0 led) }).get? s.heap.objs.size = some { cls := .type "set", data := .set #[] 0 (SetTable.fresh 0 0 led) } := Heap.get?_push_size _ rfl
   have ty : ({ s with heap := s.heap.push { cls := .type "set", data := .set #[] 0 (SetTable.fresh 0 0 led) } } : Shared).TypeIs (.ref s.heap.objs.size) "set" := ⟨_, ns, rfl⟩
   refine wpAny_bind (wpAny_isInstance ty hsub ?_)
   refine wpAny_ite_false rfl ?_
   refine wpAny_bind (wpAny_holding ?_)
   unfold callSpecial?
   refine wpAny_bind (wpAny_specialOf ty F.called_set.init.lookup ?_)
   refine wpAny_holding (wpAny_bind (wpAny_of_eq (F.called_set.init.bind _) ?_))
   refine wpAny_bind (wpAny_call (codeAny_mono (R := wants (fun r s₂ => r = Value.none ∧ Q (.ref s.heap.objs.size) s₂) E) (codeAny_call_builtin F.called_set.init.plain F.entry_set_init (check_set_init_1 ty ?_)) fun r₂ s₂ hr₂ => ?_))
   rotate_left
   ·cases r₂ with
    | error e => exact hr₂
    | ok fl =>
     cases fl with
     | next => exact hr₂
     | brk => exact hr₂
     | cont => exact hr₂
     | ret v =>
      obtain ⟨rfl, hq⟩ := hr₂
      exact wpAny_pure (wpAny_ite_false rfl (wpAny_pure hq))
   have sm0 : ∀ b o, s.heap.get? b = some o → (s.heap.push { cls := .type "set", data := .set #[] 0 (SetTable.fresh 0 0 led) }).get? b = some o := fun b o e => Heap.get?_push_of_some _ e
   obtain ⟨ol, hol, rl⟩ := id hl
   have hl1 : (s.heap.push { cls := .type "set", data := .set #[] 0 (SetTable.fresh 0 0 led) }).IsList l items := ⟨ol, sm0 _ _ hol, rl⟩
   have tl1 : ({ s with heap := s.heap.push { cls := .type "set", data := .set #[] 0 (SetTable.fresh 0 0 led) } } : Shared).TypeIs (.ref l) "list" := ⟨ol, sm0 _ _ hol, rl.1⟩
   have hsub1 := F.sub_list_set
   have hsub2 := F.sub_list_frozenset
   generalize hG : s.heap.push { cls := .type "set", data := .set #[] 0 (SetTable.fresh 0 0 led) } = G at ns ty sm0 hl1 tl1 ⊢
   unfold Builtin.«set.__init__»
   wp_walk using wpAny_pyIter_list hl1
   have out : ∀ b, s.heap.objs.size ≤ b → s.heap.get? b = none := fun b hb => by
    cases e : s.heap.get? b with
    | none => rfl
    | some o => exact absurd (Heap.lt_size e) (Nat.not_lt.mpr hb)
   have hlt : s.heap.objs.size < G.objs.size := Heap.lt_size ns
   have hs0 : (G.push { cls := .type "list_iterator", data := .fields #[.ref l, .int 0 0] }).SetOf knd s.heap.objs.size (fun k => decide (k ∈ ks.take 0)) (fstU (ks.take 0)).length := by
    letI : BEq K := instBEqOfDecidableEq
    refine gqQ (S := fun _ => false) (fun k => ?_) rfl ((setObjOf_fresh (knd := knd) led).setOf (Heap.get?_push_of_some _ ns) (by decide))
    rw [List.take_zero, decide_eq_false List.not_mem_nil]
   exact @iqY prog w K _ knd A.in1.in1 _ s.heap s.heap.objs.size G.objs.size l items ks (out _ (Nat.le_refl _)) (out _ (Nat.le_of_lt hlt)) (Nat.ne_of_lt hlt) hl hp hn hsz hA items.size 0
    { s with heap := G.push { cls := .type "list_iterator", data := .fields #[.ref l, .int 0 0] } } rfl (Nat.zero_le _) (fun b o e => Heap.get?_push_of_some _ (sm0 b o e)) ⟨_, Heap.get?_push_size _ rfl, rfl, rfl⟩ hs0 (fun h' n e1 e2 => wpAny_pure (wpAny_pure ⟨rfl, h h' n e1 e2⟩))
end
end PySem
namespace L2
open PySem PySem.Spec PyProof.Rows
section
variable {X : Cx}
theorem fq8 : ∀ {ss : List Str} {its : List Value}, Vals (ss.map V.str) its → its.length = ss.length ∧ ∀ (i : Nat) (x : Value), its[i]? = some x → ∃ z t, ss[i]? = some z ∧ x = .str z t
 | [], _, h => by cases h; exact ⟨rfl, fun i x h => by simp at h⟩
 | z :: ss, _, h => by
  cases h with
  | cons r rs =>
   obtain ⟨h1, h2⟩ := fq8 rs
   obtain ⟨t, rfl⟩ := r
   refine ⟨by simp [h1], fun i x hx => ?_⟩
   cases i with
   | zero => cases hx; exact ⟨z, t, rfl, rfl⟩
   | succ i => exact h2 i x (by simpa using hx)
def tLenSet (ta : TA) : TE := fun σ H Q => ta σ H fun vs H1 => ∃ (l : Addr) (ss : List Str), vs = [.ref l] ∧ H1 l = some (.lst (ss.map V.str)) ∧ ss.length ≤ 1000 ∧ Q (.int ((fstU ss).length : Nat)) H1
theorem hqW {a : Expr} {ta : TA} {p p' pos pos' : Pos} (hc : X.calm = true) (hg : Gl X "set") (hm : X.mg "set" = none) (hl : Gl X "len") (hlm : X.mg "len" = none) (hb : bootBuiltins "len" = some (.builtin "len")) (ha : PA X [a] ta)
  (hs : starEach [a] X.env = [(false, eval a X.env)] := by rfl)
  (hs' : starEach [.Call (.Name "set" p) [a] [] pos] X.env = [(false, eval (.Call (.Name "set" p) [a] [] pos) X.env)] := by rfl) :
  PE X (.Call (.Name "len" p') [.Call (.Name "set" p) [a] [] pos] [] pos') (tLenSet ta) := by
 intro pins s σ H Q I h
 refine wpAny_Call_Name_kw (eqE I hl hlm hb (PyProof.Rows.callWith_builtin1 ?_ hs' rfl) (by decide) (by decide))
 rw [hs']
 refine Calls.spliced_cons ?_
 refine wpAny_Call_Name_kw (eqE I hg hm boot_set (PyProof.Rows.callWith_type1 (thn (ha pos pins s σ H _ I h) fun us s1 W' => ?_) hs rfl) (by decide) (by decide))
 obtain ⟨vs, H1, I1, r1, q1⟩ := W'
 obtain ⟨l, ss, e, hls, hz, q⟩ := q1
 subst e
 obtain ⟨u, rfl, r⟩ := vals1 r1
 cases r
 obtain ⟨z, its, n, rv, e⟩ := I1.hok l _ hls
 obtain ⟨v1, v2⟩ := fq8 rv
 have hfn := (cqQ _ ss rfl).1
 refine hqm (knd := PySem.strKind X.prog X.w) (ks := ss) (items := its.toArray) ⟨_, e, rfl, _, rfl⟩ (fun i x hx => ?_) (by rw [List.size_toArray]; exact v1) (by show ss.length + 1 < 4096; omega) (I1.ok.hd hc) fun h' t' sm hset => ?_
 ·obtain ⟨y, t, h1, rfl⟩ := v2 i x (by simpa using hx)
  exact ⟨y, h1, PySem.strKind_is _ _ _ _, rfl⟩
 have I2 : Inv X pins σ H1 { s1 with heap := h', toks := t' } := I1.kept sm
 refine Calls.spliced_nil ?_
 obtain ⟨o, es, ep, tt, g1, g2, g3, g4, g5, g6, g7, g8⟩ := hset
 refine call_len_set (s := { s1 with heap := h', toks := t' }) g1 g2 g3 g7 (by rw [g8]; omega) ?_
 rw [g8]
 refine ⟨.int _, H1, I1.kept (t' := t' + 1 + 1) sm, ⟨_, rfl⟩, q⟩
end
theorem iqe {ta : TA} {σ : St} {H : Hp} {Q : VK} : (tLenSet ta σ H Q) = (ta σ H fun vs H1 => ∃ (l : Addr) (ss : List Str), vs = [.ref l] ∧ H1 l = some (.lst (ss.map V.str)) ∧ ss.length ≤ 1000 ∧ Q (.int ((fstU ss).length : Nat)) H1) := rfl
end L2
namespace L2
open PySem PySem.Spec PySem.W PyProof.Rows
theorem iqc {prog : Program} {w : World} {A : Around} {E : Value → Shared → Prop} {s : Shared} {id : String} {a b : Addr} {Q : Bool → Shared → Prop} {oa ob : Obj} {ea eb : Nat}
  (ga : s.heap.get? a = some oa) (da : oa.data = .dict #[] ea) (gb : s.heap.get? b = some ob) (db : ob.data = .dict #[] eb) (na : (a == sysModules) = false) (nb : (b == sysModules) = false) (h : Q true s) :
  wpAny (model prog w) A (Builtin.Dict.samePairs id a b) Q E s := by
 obtain ⟨hp, g, d, tk, os⟩ := s
 obtain ⟨oac, oad, oada, oas⟩ := oa
 obtain ⟨obc, obd, obda, obs⟩ := ob
 dsimp only at da db
 subst da db
 unfold Builtin.Dict.samePairs
 simp only [Std.Legacy.Range.forIn_eq_forIn_range']
 wp_walk
 exact h
theorem kqz (a b : Addr) : Meets (Builtin.«dict.__eq__» ⟨[.ref a, .ref b], []⟩) (fun _ R s =>
  (∃ o ep, s.heap.get? a = some o ∧ o.ExactDict ∧ o.data = .dict #[] ep) ∧ (∃ o ep, s.heap.get? b = some o ∧ o.ExactDict ∧ o.data = .dict #[] ep) ∧ (a == sysModules) = false ∧ (b == sysModules) = false ∧ R (.ok (.ret (.bool true))) s) :=
 .of_wp fun prog w A R s h => by
  obtain ⟨⟨oa, ea, ga, xa, da⟩, ⟨ob, eb, gb, xb, db⟩, na, nb, h⟩ := h
  have hs : isSubtype (.type "dict") (.type "dict") = pure true := by with_unfolding_all rfl
  obtain ⟨hp, g, d, tk, os⟩ := s
  obtain ⟨obc, obd, obda, obs⟩ := ob
  dsimp only at db
  subst db
  obtain rfl : obc = .type "dict" := xb.1
  wp_walk using iqc ga da gb rfl na nb
  exact ⟨_, rfl, h⟩
def rEqDD : R2 := fun x y H Q => rEqD x y H Q ∨ ∃ a b, x = .ref a ∧ y = .ref b ∧ H a = some (.dK []) ∧ H b = some (.dK []) ∧ Q (.bl true) H
theorem jqU {X : Cx} (hu : X.A.units + 64 < cLine) : OpR X (compareOp .Eq) rEqDD := by
 intro pins s σ H x y v u Q I rx ry h
 rcases h with h | ⟨a, b, rfl, rfl, ha, hb, q⟩
 ·exact jqq hu pins s σ H x y v u Q I rx ry h
 ·cases rx
  cases ry
  have key : ∀ {c : Addr}, H c = some (.dK []) → (c == sysModules) = false ∧ ∃ o ep, s.heap.get? c = some o ∧ o.ExactDict ∧ o.data = .dict #[] ep := fun {c} hc => by
   obtain ⟨_, nc, vs, r, o, es, ep, g, x, d, _, p, _⟩ := kqA I.hok hc
   cases r
   refine ⟨nc, o, ep, g, x, ?_⟩
   have : es.toList = [] := by cases h : es.toList with
    | nil => rfl
    | cons e l => rw [h] at p; cases p
   rw [d, show es = #[] from Array.toList_eq_nil_iff.mp this]
  obtain ⟨na, oa, ea, ga, xa, da⟩ := key ha
  obtain ⟨nb, ob, eb, gb, xb, db⟩ := key hb
  have ta : s.TypeIs (.ref a) "dict" := by obtain ⟨_, _, vs, _, dd⟩ := kqA I.hok ha; exact dd.typeIs
  have tb : s.TypeIs (.ref b) "dict" := by obtain ⟨_, _, vs, _, dd⟩ := kqA I.hok hb; exact dd.typeIs
  show wpAny _ _ (richCompare .Eq _ _) _ _ _
  refine wpAny_richCompare_same_room ta tb F.slot_dict_eq ?_ (by omega)
  refine call_meets F.slot_dict_eq ta F.entry_dict_eq (F.args_dict_eq_2 _ _) (kqz a b) ?_
  exact ⟨⟨oa, ea, ga, xa, da⟩, ⟨ob, eb, gb, xb, db⟩, na, nb, by decide, .bl true, H, I, rfl, q⟩
end L2
namespace Wm
open PySem L2
abbrev mkS (l : List Nat) : Str := ⟨l.toArray⟩
theorem cqU (z : Str) : mkS z.cps.toList = z := by cases z; simp
def nameD : PyData → Bool
 | .str s => decide (1 ≤ s.length ∧ s.length ≤ 8) && s.cps.toList.all isSma
 | _ => false
def endsD : PyData → PyData → Bool
 | .str a, .str b => a.cps.toList.all isSg && b.cps.toList.all isSg && !decide (a.cps.toList ++ b.cps.toList = [])
 | _, _ => false
def NmOk (n : List Nat) : Prop := (1 ≤ n.length ∧ n.length ≤ 8) ∧ n.all isSma = true
inductive PcW : Pc → List Nat → Prop
 | step {s w : List Nat} : WrT frS s w → s ≠ [] → PcW (.step s) w
 | part {h n t a b : List Nat} : WrT frS h a → WrT frS t b → h ++ t ≠ [] → NmOk n → PcW (.part h n t) (a ++ 123 :: (n ++ 125 :: b))
 | gap {n : List Nat} : NmOk n → PcW (.gap n) (123 :: (n ++ [125]))
 | num {n : List Nat} : NmOk n → PcW (.num n) (123 :: (n ++ 58 :: ([110, 117, 109, 98, 101, 114] ++ [125])))
 | word {n : List Nat} : NmOk n → PcW (.word n) (123 :: (n ++ 58 :: ([119, 111, 114, 100] ++ [125])))
 | rest {n : List Nat} : NmOk n → PcW (.rest n) (123 :: (n ++ 58 :: ([114, 101, 115, 116] ++ [125])))
theorem jqD {n : List Nat} (h : n.all isSma = true) : ∀ c ∈ n, 97 ≤ c ∧ c ≤ 122 := fun c hc => by
 have := List.all_eq_true.mp h c hc
 unfold isSma at this
 simpa using this
def kwN : List Str := [Str.ofString "number", Str.ofString "word", Str.ofString "gap", Str.ofString "rest"]
def stepD : List PyData → Bool
 | [x] => canD x
 | _ => false
def partD : List PyData → Bool
 | [h, n, t] => nameD n && endsD h t
 | _ => false
def namD : List PyData → Bool
 | [n] => nameD n
 | _ => false
def pieceK (k : Str) (r : List PyData) : Bool := if k = Str.ofString "step" then stepD r else if k = Str.ofString "part" then partD r else decide (k ∈ kwN) && namD r
def pieceD : PyData → Bool
 | .tuple (.str k :: r) => pieceK k r
 | _ => false
def pcOne (k : Str) (a : List Nat) : Pc := if k = Str.ofString "step" then .step a else if k = Str.ofString "number" then .num a else if k = Str.ofString "word" then .word a else if k = Str.ofString "gap" then .gap a else .rest a
def pcOf : PyData → Pc
 | .tuple [.str k, .str a] => pcOne k a.cps.toList
 | .tuple [_, .str h, .str n, .str t] => .part h.cps.toList n.cps.toList t.cps.toList
 | _ => .step []
def restsL (cs : List Pc) : Bool := cs.dropLast.all fun c => !c.isRest
def piecesD (ds : List PyData) : Bool := decide (ds.length ≤ 12) && (ds.all pieceD && (restsL (ds.map pcOf) && decide ((gapsM (ds.map pcOf)).Nodup)))
def patD : PyData → Bool
 | .tuple [.tuple ds, .bool e] => piecesD ds && (e || decide (0 < ds.length))
 | _ => false
theorem kqE : Str.ofString "number" ≠ Str.ofString "step" ∧ Str.ofString "word" ≠ Str.ofString "step" ∧ Str.ofString "gap" ≠ Str.ofString "step" ∧ Str.ofString "rest" ≠ Str.ofString "step" ∧ Str.ofString "part" ≠ Str.ofString "step" ∧ Str.ofString "number" ≠ Str.ofString "part" ∧ Str.ofString "word" ≠ Str.ofString "part" ∧ Str.ofString "gap" ≠ Str.ofString "part" ∧ Str.ofString "rest" ≠ Str.ofString "part" ∧ Str.ofString "word" ≠ Str.ofString "number" ∧ Str.ofString "gap" ≠ Str.ofString "number" ∧ Str.ofString "rest" ≠ Str.ofString "number" ∧ Str.ofString "gap" ≠ Str.ofString "word" ∧ Str.ofString "rest" ≠ Str.ofString "word" ∧ Str.ofString "rest" ≠ Str.ofString "gap" := by decide +kernel
theorem eqx (z : Str) : st z.cps.toList = .str z := congrArg PyData.str (cqU z)
theorem gqG {x : PyData} (hx : nameD x = true) : ∃ s : Str, x = .str s ∧ NmOk s.cps.toList := by
 cases x with
 | str s =>
  simp only [nameD, Bool.and_eq_true, decide_eq_true_eq] at hx
  exact ⟨s, rfl, ⟨hx.1, hx.2⟩⟩
 | _ => cases hx
theorem iqT {r : List PyData} (h : stepD r = true) : ∃ s : Str, r = [.str s] := by
 cases r with
 | nil => cases h
 | cons a r =>
  cases r with
  | nil =>
   cases a with
   | str s => exact ⟨s, rfl⟩
   | _ => cases h
  | cons b r => cases h
theorem kqM {r : List PyData} (h : namD r = true) : ∃ s : Str, r = [.str s] ∧ NmOk s.cps.toList := by
 cases r with
 | nil => cases h
 | cons a r =>
  cases r with
  | nil => obtain ⟨s, rfl, hs⟩ := gqG (show nameD a = true from h); exact ⟨s, rfl, hs⟩
  | cons b r => cases h
theorem jqe {r : List PyData} (h : partD r = true) : ∃ a s b : Str, r = [.str a, .str s, .str b] ∧ NmOk s.cps.toList := by
 match r, h with
 | [x, y, z], h =>
  have h : (nameD y && endsD x z) = true := h
  rw [Bool.and_eq_true] at h
  obtain ⟨s, rfl, hs⟩ := gqG h.1
  cases x with
  | str a =>
   cases z with
   | str b => exact ⟨a, s, b, rfl, hs⟩
   | _ => cases h.2
  | _ => cases h.2
theorem gq5 {d : PyData} (h : pieceD d = true) : d = pcD (pcOf d) ∧ ((pcOf d).isStep = false → NmOk (pcOf d).name) := by
 obtain ⟨n1, n2, n3, n4, n5, n6, n7, n8, n9, n10, n11, n12, n13, n14, n15⟩ := kqE
 cases d with
 | tuple l =>
  cases l with
  | nil => cases h
  | cons a r =>
   cases a with
   | str k =>
    have h : pieceK k r = true := h
    unfold pieceK at h
    by_cases h1 : k = Str.ofString "step"
    ·rw [if_pos h1] at h
     obtain ⟨s, rfl⟩ := iqT h
     have ep : pcOf (.tuple [.str k, .str s]) = .step s.cps.toList := by
      show pcOne k s.cps.toList = _
      unfold pcOne
      rw [if_pos h1]
     rw [ep, h1]
     refine ⟨?_, fun z => by cases z⟩
     show _ = PyData.tuple [.str (Str.ofString "step"), st s.cps.toList]
     rw [eqx]
    ·rw [if_neg h1] at h
     by_cases h2 : k = Str.ofString "part"
     ·rw [if_pos h2] at h
      obtain ⟨a, s, b, rfl, hs⟩ := jqe h
      refine ⟨?_, fun _ => hs⟩
      show _ = PyData.tuple [.str (Str.ofString "part"), st a.cps.toList, st s.cps.toList, st b.cps.toList]
      rw [eqx, eqx, eqx, h2]
     ·rw [if_neg h2, Bool.and_eq_true] at h
      obtain ⟨hk, h⟩ := h
      obtain ⟨s, rfl, hs⟩ := kqM h
      have hk := of_decide_eq_true hk
      unfold kwN at hk
      simp only [List.mem_cons, List.not_mem_nil, or_false] at hk
      have e : ∀ (kk : Str) (c : Pc), pcOf (.tuple [.str kk, .str s]) = c → pcD c = .tuple [.str kk, st s.cps.toList] → c.name = s.cps.toList → PyData.tuple [.str kk, .str s] = pcD (pcOf (.tuple [.str kk, .str s])) ∧ ((pcOf (.tuple [.str kk, .str s])).isStep = false → NmOk (pcOf (.tuple [.str kk, .str s])).name) := fun kk c e1 e2 e3 => by
       rw [e1, e2, e3, eqx]
       exact ⟨rfl, fun _ => hs⟩
      rcases hk with rfl | rfl | rfl | rfl
      ·exact e _ (.num s.cps.toList) (by show pcOne _ _ = _; unfold pcOne; rw [if_neg h1, if_pos rfl]) rfl rfl
      ·exact e _ (.word s.cps.toList) (by show pcOne _ _ = _; unfold pcOne; rw [if_neg h1, if_neg n10, if_pos rfl]) rfl rfl
      ·exact e _ (.gap s.cps.toList) (by show pcOne _ _ = _; unfold pcOne; rw [if_neg h1, if_neg n11, if_neg n13, if_pos rfl]) rfl rfl
      ·exact e _ (.rest s.cps.toList) (by show pcOne _ _ = _; unfold pcOne; rw [if_neg h1, if_neg n12, if_neg n14, if_neg n15]) rfl rfl
   | _ => cases h
 | _ => cases h
theorem bqz {c : Pc} (ok : PcOk c) (hn : c.isStep = false → NmOk c.name) : pieceD (pcD c) = true ∧ pcOf (pcD c) = c := by
 obtain ⟨n1, n2, n3, n4, n5, n6, n7, n8, n9, n10, n11, n12, n13, n14, n15⟩ := kqE
 have nm : ∀ {n : List Nat}, NmOk n → nameD (st n) = true := fun {n} h => by
  show (decide (1 ≤ (mkS n).length ∧ (mkS n).length ≤ 8) && n.all isSma) = true
  rw [fqN, decide_eq_true h.1, h.2]
  rfl
 cases c with
 | step s =>
  obtain ⟨o1, o2, o3, o4⟩ := ok
  refine ⟨?_, ?_⟩
  ·show pieceK (Str.ofString "step") _ = true
   unfold pieceK
   rw [if_pos rfl]
   show (s.all isSg && decide (0 < (mkS s).length) && !isDot s) = true
   rw [fqN, decide_eq_true o1, o4, List.all_eq_true.mpr o3]
   rfl
  ·show pcOne (Str.ofString "step") _ = _
   unfold pcOne
   rw [if_pos rfl]
 | part h n t =>
  obtain ⟨o1, o2, o3, o4, o5⟩ := ok
  refine ⟨?_, rfl⟩
  show pieceK (Str.ofString "part") _ = true
  unfold pieceK
  rw [if_neg n5, if_pos rfl]
  show (nameD (st n) && endsD (st h) (st t)) = true
  rw [show nameD (st n) = true from nm (hn rfl), Bool.true_and]
  show (h.all isSg && t.all isSg && !decide (h ++ t = [])) = true
  rw [List.all_eq_true.mpr o3, List.all_eq_true.mpr o4, decide_eq_false o5]
  rfl
 | num n =>
  refine ⟨?_, ?_⟩
  ·show pieceK (Str.ofString "number") _ = true
   unfold pieceK
   rw [if_neg n1, if_neg n6, decide_eq_true (by unfold kwN; simp), show namD [st n] = true from nm (hn rfl)]
   rfl
  ·show pcOne (Str.ofString "number") _ = _
   unfold pcOne
   rw [if_neg n1, if_pos rfl]
 | word n =>
  refine ⟨?_, ?_⟩
  ·show pieceK (Str.ofString "word") _ = true
   unfold pieceK
   rw [if_neg n2, if_neg n7, decide_eq_true (by unfold kwN; simp), show namD [st n] = true from nm (hn rfl)]
   rfl
  ·show pcOne (Str.ofString "word") _ = _
   unfold pcOne
   rw [if_neg n2, if_neg n10, if_pos rfl]
 | gap n =>
  refine ⟨?_, ?_⟩
  ·show pieceK (Str.ofString "gap") _ = true
   unfold pieceK
   rw [if_neg n3, if_neg n8, decide_eq_true (by unfold kwN; simp), show namD [st n] = true from nm (hn rfl)]
   rfl
  ·show pcOne (Str.ofString "gap") _ = _
   unfold pcOne
   rw [if_neg n3, if_neg n11, if_neg n13, if_pos rfl]
 | rest n =>
  refine ⟨?_, ?_⟩
  ·show pieceK (Str.ofString "rest") _ = true
   unfold pieceK
   rw [if_neg n4, if_neg n9, decide_eq_true (by unfold kwN; simp), show namD [st n] = true from nm (hn rfl)]
   rfl
  ·show pcOne (Str.ofString "rest") _ = _
   unfold pcOne
   rw [if_neg n4, if_neg n12, if_neg n14, if_neg n15]
theorem bqg {n : Nat} {ds : List PyData} : tupN (n : Int) (.tuple ds) = true ↔ ds.length = n := by
 show decide ((ds.length : Int) = (n : Int)) = true ↔ _
 rw [decide_eq_true_iff]
 omega
theorem eqz {K : PySem.W.Frag} {H : Hp} : ∀ {ss : List Str} {xs : List V}, IsKAll K H (ss.map PyData.str) xs → xs = ss.map V.str
 | [], _, .nil => rfl
 | s :: ss, _, .cons h r => by cases h; rw [eqz r]; rfl
theorem iq9 {K : PySem.W.Frag} {H : Hp} {ss : List Str} {p : Addr} (h : IsK K H (.tuple (ss.map PyData.str)) (.ref p)) : SqT K H p (ss.map V.str) := by
 cases h with
 | tup hp r => rw [← eqz r]; exact hp
theorem gqD (k : Str) : ∀ ss : List Str, inV (.str k) (ss.map V.str) = decide (k ∈ ss)
 | [] => rfl
 | s :: ss => by
  have ih := gqD k ss
  have e : eqV (.str s) (.str k) = decide (k = s) := by
   show (s == k) = decide (k = s)
   rw [Bool.eq_iff_iff, beq_iff_eq, decide_eq_true_eq]
   exact ⟨Eq.symm, Eq.symm⟩
  unfold inV at ih ⊢
  rw [List.map_cons, List.any_cons, ih, e, Bool.eq_iff_iff, Bool.or_eq_true, decide_eq_true_eq, decide_eq_true_eq, decide_eq_true_eq, List.mem_cons]
theorem iqU (xs : List V) : cutV xs none (some (-1)) = xs.dropLast := hqi xs
theorem gqI {H : Hp} : ∀ {ds : List PyData} {xs : List V}, IsAll H ds xs → ∀ {i : Nat} {x : V}, xs[i]? = some x → ∃ d, ds[i]? = some d ∧ Is H d x
 | _, _, .nil, i, x, h => by simp at h
 | _, _, .cons q t, 0, x, h => by simp at h; subst h; exact ⟨_, rfl, q⟩
 | _, _, .cons _ t, i + 1, x, h => by
  obtain ⟨d, h1, h2⟩ := gqI t (i := i) (by simpa using h)
  exact ⟨d, by simpa using h1, h2⟩
theorem dqU {H : Hp} : ∀ {ds : List PyData} {xs : List V}, IsAll H ds xs → xs.length = ds.length
 | _, _, .nil => rfl
 | _, _, .cons _ t => by rw [List.length_cons, List.length_cons, dqU t]
theorem fqU {H : Hp} : ∀ {l : List (List Nat)} {xs : List V}, IsAll H (l.map st) xs → xs = l.map tV
 | [], _, .nil => rfl
 | a :: l, _, .cons h r => by cases h; rw [fqU r]; rfl
theorem mqN {H : Hp} {c : Pc} {x : V} (h : Is H (pcD c) x) : ∃ p, x = .ref p ∧ H p = some (.tup c.vals) := by
 have key : ∀ (k : Str) (l : List (List Nat)), Is H (.tuple (.str k :: l.map st)) x → ∃ p, x = .ref p ∧ H p = some (.tup (.str k :: l.map tV)) := fun k l h => by
  cases h with
  | tup hp r =>
   cases r with
   | cons h1 r =>
    cases h1
    have e := fqU r
    subst e
    exact ⟨_, rfl, hp⟩
 cases c with
 | step s => exact key _ [s] h
 | part a n t => exact key _ [a, n, t] h
 | num n => exact key _ [n] h
 | word n => exact key _ [n] h
 | gap n => exact key _ [n] h
 | rest n => exact key _ [n] h
theorem fqi {K : PySem.W.Frag} {H : Hp} : ∀ {ds : List PyData} {xs : List V}, IsAll H ds xs → ds.all pieceD = true → PcAll K H (ds.map pcOf) xs
 | _, _, .nil, _ => .nil
 | d :: ds, _, .cons h t, ha => by
  rw [List.all_cons, Bool.and_eq_true] at ha
  have hb := (gq5 ha.1).1
  rw [hb] at h
  obtain ⟨p, rfl, hp⟩ := mqN h
  exact .cons (.of hp) (fqi t ha.2)
theorem hqJ {l : List (List Nat)} : (l.map mkS).Nodup ↔ l.Nodup := by
 constructor
 ·intro h
  rw [List.nodup_iff_pairwise_ne] at h ⊢
  rw [List.pairwise_map] at h
  exact h.imp fun a b => a (congrArg mkS b)
 ·intro h
  rw [List.nodup_iff_pairwise_ne] at h ⊢
  rw [List.pairwise_map]
  exact h.imp fun a b => a (fq0.mp b)
inductive PcWs : List Pc → List (List Nat) → Prop
 | nil : PcWs [] []
 | cons {c : Pc} {w : List Nat} {cs : List Pc} {ws : List (List Nat)} : PcW c w → PcWs cs ws → PcWs (c :: cs) (w :: ws)
theorem jqh {cs : List Pc} {e : Bool} (ok : PatOk cs) (hn : ∀ c ∈ cs, c.isStep = false → NmOk c.name) (nd : (gapsM cs).Nodup) (hl : cs.length ≤ 12) (he : cs = [] → e = true) : patD (.tuple [.tuple (cs.map pcD), .bool e]) = true := by
 have eb : (cs.map pcD).map pcOf = cs := by
  rw [List.map_map]
  conv => rhs; rw [← List.map_id cs]
  exact List.map_congr_left fun c hc => (bqz (ok.1 c hc) (hn c hc)).2
 show (piecesD (cs.map pcD) && (e || decide (0 < (cs.map pcD).length))) = true
 unfold piecesD
 rw [eb, List.length_map, decide_eq_true hl, decide_eq_true nd]
 have h1 : (cs.map pcD).all pieceD = true := List.all_eq_true.mpr fun d hd => by
  obtain ⟨c, hc, rfl⟩ := List.mem_map.mp hd
  exact (bqz (ok.1 c hc) (hn c hc)).1
 have h2 : restsL cs = true := List.all_eq_true.mpr fun c hc => by
  obtain ⟨i, hi, ei⟩ := List.getElem_of_mem hc
  rw [List.length_dropLast] at hi
  rw [List.getElem_dropLast] at ei
  cases er : c.isRest with
  | false => rfl
  | true =>
   have := ok.2 i c (List.getElem?_eq_some_iff.mpr ⟨by omega, ei⟩) er
   omega
 rw [h1, h2]
 cases cs with
 | nil => rw [he rfl]; rfl
 | cons a b => simp
structure Gd (n : Nat) (d : PyData) : Prop where
 lay : LayAt n d
 sm : smallD d = true
 eq : PyData.eqv d d = true
theorem Gd.le {n m : Nat} {d : PyData} (h : Gd n d) (l : n ≤ m) : Gd m d := ⟨h.lay.le l, h.sm, h.eq⟩
theorem aqq {n : Nat} {ds : List PyData} (h : ∀ d ∈ ds, Gd n d) (l : ds.length ≤ 1000) : Gd (n + 1) (.tuple ds) := ⟨LayAt.tup fun d hd => (h d hd).lay, cqH (by omega) (cqe fun d hd => (h d hd).sm), jq5 fun d hd => (h d hd).eq⟩
theorem fqB {n : Nat} {ds : List PyData} (h : ∀ d ∈ ds, Gd n d) (l : ds.length ≤ 1000) : Gd (n + 1) (.list ds) := ⟨layL fun d hd => (h d hd).lay, fqV (by omega) (cqe fun d hd => (h d hd).sm), iqn fun d hd => (h d hd).eq⟩
theorem cq6 {n : Nat} : Gd n .none := ⟨⟨rfl, Nat.zero_le _⟩, rfl, by simp [PyData.eqv]⟩
theorem bq4 {n : Nat} (b : Bool) : Gd n (.bool b) := ⟨⟨rfl, Nat.zero_le _⟩, rfl, iq2 b⟩
theorem eqt {n : Nat} (i : Int) : Gd n (.int i) := ⟨⟨rfl, Nat.zero_le _⟩, rfl, jqO i⟩
theorem bql {n : Nat} {s : Str} (h : (s.cps.toList.all fun c => decide (c < 128)) = true) (l : s.length ≤ 1000) : Gd n (.str s) := by
 refine ⟨⟨?_, Nat.zero_le _⟩, decide_eq_true (by omega), by simp [PyData.eqv]⟩
 rw [← cqU s]
 simp only [PyData.canLay0, PyData.strOk, List.all_toArray, List.all_eq_true, decide_eq_true_eq]
 intro c hc
 have := of_decide_eq_true (List.all_eq_true.mp h c hc)
 omega
theorem gqC {n : Nat} : Gd (n + 1) (.tuple []) := aqq (fun x hx => absurd hx List.not_mem_nil) (by simp)
theorem kqC {n : Nat} {l : List Nat} (h : ∀ c ∈ l, c < 128) (hl : l.length ≤ 1000) : Gd n (st l) := bql (s := mkS l) (List.all_eq_true.mpr fun c hc => decide_eq_true (h c hc)) (by rw [fqN]; exact hl)
theorem fqo {n : Nat} {l : List Nat} (h : NmOk l) : Gd n (st l) := kqC (fun c hc => by have := jqD h.2 c hc; omega) (by have := h.1.2; omega)
theorem gd1 {n : Nat} {d : PyData} {ds : List PyData} (h1 : Gd n d) (h2 : ∀ d ∈ ds, Gd n d) : ∀ x ∈ d :: ds, Gd n x := List.forall_mem_cons.mpr ⟨h1, h2⟩
theorem gd0 {n : Nat} : ∀ x ∈ ([] : List PyData), Gd n x := fun x hx => absurd hx List.not_mem_nil
theorem mqq {n : Nat} {c : Pc} (o : PcOk c) (hn : c.isStep = false → NmOk c.name) : Gd (n + 1) (pcD c) := by
 have sg : ∀ {l : List Nat}, (∀ c ∈ l, isSg c = true) → l.length ≤ 100 → Gd n (st l) := fun h hl => kqC (fun c hc => by have := hqX (h c hc); omega) (by omega)
 have kw : ∀ k : String, ((Str.ofString k).cps.toList.all fun c => decide (c < 128)) = true → (Str.ofString k).length ≤ 1000 → Gd n (.str (Str.ofString k)) := fun k h1 h2 => bql h1 h2
 cases c with
 | step s => exact aqq (gd1 (kw "step" (by decide +kernel) (by decide +kernel)) (gd1 (sg o.2.2.1 o.2.1) gd0)) (by simp)
 | part h n t => exact aqq (gd1 (kw "part" (by decide +kernel) (by decide +kernel)) (gd1 (sg o.2.2.1 o.1) (gd1 (fqo (hn rfl)) (gd1 (sg o.2.2.2.1 o.2.1) gd0)))) (by simp)
 | num n => exact aqq (gd1 (kw "number" (by decide +kernel) (by decide +kernel)) (gd1 (fqo (hn rfl)) gd0)) (by simp)
 | word n => exact aqq (gd1 (kw "word" (by decide +kernel) (by decide +kernel)) (gd1 (fqo (hn rfl)) gd0)) (by simp)
 | gap n => exact aqq (gd1 (kw "gap" (by decide +kernel) (by decide +kernel)) (gd1 (fqo (hn rfl)) gd0)) (by simp)
 | rest n => exact aqq (gd1 (kw "rest" (by decide +kernel) (by decide +kernel)) (gd1 (fqo (hn rfl)) gd0)) (by simp)
abbrev sd (s : String) : PyData := .str (Str.ofString s)
def nameL (n0 : List Nat) : List PyData := [.str ⟨#[]⟩, sd "abcdefghi", sd "aB", sd "a1", .none, .int 7, st (n0 ++ [32]), sd "A", .tuple [sd "a"]]
def textL : List PyData := [.str ⟨#[]⟩, sd ".", sd "..", .none, .int 5, sd "a\nb", .list [sd "a"], sd "\t"]
def oddPL (nm tx : PyData) (n0 : List Nat) : List PyData := [.tuple [sd "step", tx], .tuple [sd "part", .str ⟨#[]⟩, st n0, .str ⟨#[]⟩], .tuple [sd "part", sd "a", nm, sd "b"], .tuple [sd "part", tx, st n0, .int 3],
 .tuple [sd "number", nm], .tuple [sd "word", nm], .tuple [sd "gap", nm], .tuple [sd "many", st n0], .tuple [sd "step"], .list [sd "gap", st n0],
 .tuple [sd "gap", st n0, sd "a"], .tuple [sd "gap", st n0, .int 1], .none, sd "gap", .tuple [.int 5, st n0], .tuple [sd "part", sd "a", st n0]]
def oddI (c : Int) (m : Int) : Nat := (c % m).toNat
def oddPc (c : Int) (n0 : List Nat) : PyData := ((oddPL (((nameL n0)[oddI (c / 16) 9]?).getD .none) ((textL[oddI (c / 16) 8]?).getD .none) n0)[oddI c 16]?).getD .none
theorem bq1 (c : Int) {m : Nat} (h : 0 < m) : oddI c m < m ∧ c % (m : Int) = (oddI c m : Int) := by
 have h1 := Int.emod_nonneg c (show (m : Int) ≠ 0 by omega)
 have h2 := Int.emod_lt_of_pos c (show 0 < (m : Int) by omega)
 unfold oddI
 exact ⟨by omega, by omega⟩
theorem iqM {n0 : List Nat} : ∀ d ∈ nameL n0, nameD d = false := by
 refine List.forall_mem_cons.mpr ⟨by decide +kernel, List.forall_mem_cons.mpr ⟨by decide +kernel, List.forall_mem_cons.mpr ⟨by decide +kernel, List.forall_mem_cons.mpr ⟨by decide +kernel, List.forall_mem_cons.mpr ⟨rfl, List.forall_mem_cons.mpr ⟨rfl, List.forall_mem_cons.mpr ⟨?_, List.forall_mem_cons.mpr ⟨by decide +kernel, List.forall_mem_cons.mpr ⟨rfl, fun x hx => absurd hx List.not_mem_nil⟩⟩⟩⟩⟩⟩⟩⟩⟩
 have e : (n0 ++ [32]).all isSma = false := List.all_eq_false.mpr ⟨32, by simp, by decide⟩
 show (decide (1 ≤ (mkS (n0 ++ [32])).length ∧ (mkS (n0 ++ [32])).length ≤ 8) && (n0 ++ [32]).all isSma) = false
 rw [e, Bool.and_false]
theorem kqq {n0 : List Nat} (h : NmOk n0) : ∀ d ∈ nameL n0, Gd 1 d := by
 refine gd1 (bql (by decide) (by decide)) (gd1 (bql (by decide +kernel) (by decide +kernel)) (gd1 (bql (by decide +kernel) (by decide +kernel)) (gd1 (bql (by decide +kernel) (by decide +kernel)) (gd1 cq6 (gd1 (eqt _) (gd1 (kqC (fun c hc => ?_) ?_) (gd1 (bql (by decide +kernel) (by decide +kernel)) (gd1 (aqq (gd1 (bql (by decide +kernel) (by decide +kernel)) gd0) (by simp)) gd0))))))))
 ·rcases List.mem_append.mp hc with z | z
  ·have := jqD h.2 c z; omega
  ·rw [List.mem_singleton.mp z]; decide
 ·rw [List.length_append]; have := h.1.2; simp; omega
theorem iq4 : ∀ d ∈ textL, canD d = false := by
 refine List.forall_mem_cons.mpr ⟨by decide +kernel, List.forall_mem_cons.mpr ⟨by decide +kernel, List.forall_mem_cons.mpr ⟨by decide +kernel, List.forall_mem_cons.mpr ⟨rfl, List.forall_mem_cons.mpr ⟨rfl, List.forall_mem_cons.mpr ⟨by decide +kernel, List.forall_mem_cons.mpr ⟨rfl, List.forall_mem_cons.mpr ⟨by decide +kernel, fun x hx => absurd hx List.not_mem_nil⟩⟩⟩⟩⟩⟩⟩⟩
theorem kqF : ∀ d ∈ textL, Gd 1 d := gd1 (bql (by decide) (by decide)) (gd1 (bql (by decide +kernel) (by decide +kernel)) (gd1 (bql (by decide +kernel) (by decide +kernel)) (gd1 cq6 (gd1 (eqt _) (gd1 (bql (by decide +kernel) (by decide +kernel)) (gd1 (fqB (gd1 (bql (by decide +kernel) (by decide +kernel)) gd0) (by simp)) (gd1 (bql (by decide +kernel) (by decide +kernel)) gd0)))))))
theorem gq2 {nm tx : PyData} {n0 : List Nat} (hn : nameD nm = false) (ht : canD tx = false) : ∀ d ∈ oddPL nm tx n0, pieceD d = false := by
 obtain ⟨n1, n2, n3, n4, n5, n6, n7, n8, n9, n10, n11, n12, n13, n14, n15⟩ := kqE
 have named : ∀ (k : Str) (d : PyData), k ≠ Str.ofString "step" → k ≠ Str.ofString "part" → nameD d = false → pieceD (.tuple [.str k, d]) = false := fun k d h1 h2 h3 => by
  show pieceK k [d] = false
  unfold pieceK
  rw [if_neg h1, if_neg h2]
  show (_ && nameD d) = false
  rw [h3, Bool.and_false]
 have part : ∀ a b c : PyData, (nameD b = false ∨ endsD a c = false) → pieceD (.tuple [sd "part", a, b, c]) = false := fun a b c h => by
  show pieceK (Str.ofString "part") [a, b, c] = false
  unfold pieceK
  rw [if_neg n5, if_pos rfl]
  show (nameD b && endsD a c) = false
  rcases h with h | h
  ·rw [h, Bool.false_and]
  ·rw [h, Bool.and_false]
 refine List.forall_mem_cons.mpr ⟨?_, List.forall_mem_cons.mpr ⟨part _ _ _ (.inr (by decide +kernel)), List.forall_mem_cons.mpr ⟨part _ _ _ (.inl hn), List.forall_mem_cons.mpr ⟨part _ _ _ (.inr (by cases tx <;> rfl)), List.forall_mem_cons.mpr ⟨named _ _ n1 n6 hn, List.forall_mem_cons.mpr ⟨named _ _ n2 n7 hn, List.forall_mem_cons.mpr ⟨named _ _ n3 n8 hn, List.forall_mem_cons.mpr ⟨?_, List.forall_mem_cons.mpr ⟨by decide +kernel, List.forall_mem_cons.mpr ⟨rfl, List.forall_mem_cons.mpr ⟨?_, List.forall_mem_cons.mpr ⟨?_, List.forall_mem_cons.mpr ⟨rfl, List.forall_mem_cons.mpr ⟨rfl, List.forall_mem_cons.mpr ⟨rfl, List.forall_mem_cons.mpr ⟨?_, fun x hx => absurd hx List.not_mem_nil⟩⟩⟩⟩⟩⟩⟩⟩⟩⟩⟩⟩⟩⟩⟩⟩
 ·show pieceK (Str.ofString "step") [tx] = false
  unfold pieceK
  rw [if_pos rfl]
  exact ht
 ·show pieceK (Str.ofString "many") [st n0] = false
  unfold pieceK
  rw [if_neg (by decide +kernel), if_neg (by decide +kernel), show decide (Str.ofString "many" ∈ kwN) = false by decide +kernel, Bool.false_and]
 ·show pieceK (Str.ofString "gap") [st n0, sd "a"] = false
  unfold pieceK
  rw [if_neg n3, if_neg n8]
  show (_ && false) = false
  rw [Bool.and_false]
 ·show pieceK (Str.ofString "gap") [st n0, .int 1] = false
  unfold pieceK
  rw [if_neg n3, if_neg n8]
  show (_ && false) = false
  rw [Bool.and_false]
 ·show pieceK (Str.ofString "part") [sd "a", st n0] = false
  unfold pieceK
  rw [if_neg n5, if_pos rfl]
  rfl
theorem jq3 {nm tx : PyData} {n0 : List Nat} (hn : Gd 1 nm) (ht : Gd 1 tx) (h0 : NmOk n0) : ∀ d ∈ oddPL nm tx n0, Gd 2 d := by
 have c : ∀ {n : Nat} {s : String}, ((Str.ofString s).cps.toList.all fun c => decide (c < 128)) = true → (Str.ofString s).length ≤ 1000 → Gd n (sd s) := fun h1 h2 => bql h1 h2
 have g0 : Gd 1 (st n0) := fqo h0
 have e0 : Gd 1 (.str ⟨#[]⟩) := bql (by decide) (by decide)
 refine gd1 (aqq (gd1 (c (by decide +kernel) (by decide +kernel)) (gd1 ht gd0)) (by simp)) (gd1 (aqq (gd1 (c (by decide +kernel) (by decide +kernel)) (gd1 e0 (gd1 g0 (gd1 e0 gd0)))) (by simp)) (gd1 (aqq (gd1 (c (by decide +kernel) (by decide +kernel)) (gd1 (c (by decide +kernel) (by decide +kernel)) (gd1 hn (gd1 (c (by decide +kernel) (by decide +kernel)) gd0)))) (by simp)) (gd1 (aqq (gd1 (c (by decide +kernel) (by decide +kernel)) (gd1 ht (gd1 g0 (gd1 (eqt _) gd0)))) (by simp)) ?_)))
 refine gd1 (aqq (gd1 (c (by decide +kernel) (by decide +kernel)) (gd1 hn gd0)) (by simp)) (gd1 (aqq (gd1 (c (by decide +kernel) (by decide +kernel)) (gd1 hn gd0)) (by simp)) (gd1 (aqq (gd1 (c (by decide +kernel) (by decide +kernel)) (gd1 hn gd0)) (by simp)) (gd1 (aqq (gd1 (c (by decide +kernel) (by decide +kernel)) (gd1 g0 gd0)) (by simp)) (gd1 (aqq (gd1 (c (by decide +kernel) (by decide +kernel)) gd0) (by simp)) (gd1 (fqB (gd1 (c (by decide +kernel) (by decide +kernel)) (gd1 g0 gd0)) (by simp)) ?_)))))
 exact gd1 (aqq (gd1 (c (by decide +kernel) (by decide +kernel)) (gd1 g0 (gd1 (c (by decide +kernel) (by decide +kernel)) gd0))) (by simp)) (gd1 (aqq (gd1 (c (by decide +kernel) (by decide +kernel)) (gd1 g0 (gd1 (eqt _) gd0))) (by simp)) (gd1 cq6 (gd1 (c (by decide +kernel) (by decide +kernel)) (gd1 (aqq (gd1 (eqt _) (gd1 g0 gd0)) (by simp)) (gd1 (aqq (gd1 (c (by decide +kernel) (by decide +kernel)) (gd1 (c (by decide +kernel) (by decide +kernel)) (gd1 g0 gd0))) (by simp)) gd0)))))
theorem fqu (c : Int) (n0 : List Nat) : ∃ nm tx, nm ∈ nameL n0 ∧ tx ∈ textL ∧ (nameL n0)[oddI (c / 16) 9]? = some nm ∧ textL[oddI (c / 16) 8]? = some tx ∧ (oddPL nm tx n0)[oddI c 16]? = some (oddPc c n0) := by
 obtain ⟨l1, _⟩ := bq1 (c / 16) (m := 9) (by decide)
 obtain ⟨l2, _⟩ := bq1 (c / 16) (m := 8) (by decide)
 obtain ⟨l3, _⟩ := bq1 c (m := 16) (by decide)
 obtain ⟨nm, h1⟩ : ∃ nm, (nameL n0)[oddI (c / 16) 9]? = some nm := ⟨_, List.getElem?_eq_getElem (show _ < 9 from l1)⟩
 obtain ⟨tx, h2⟩ : ∃ tx, textL[oddI (c / 16) 8]? = some tx := ⟨_, List.getElem?_eq_getElem (show _ < 8 from l2)⟩
 obtain ⟨d, h3⟩ : ∃ d, (oddPL nm tx n0)[oddI c 16]? = some d := ⟨_, List.getElem?_eq_getElem (show _ < 16 from l3)⟩
 refine ⟨nm, tx, List.mem_of_getElem? h1, List.mem_of_getElem? h2, h1, h2, ?_⟩
 unfold oddPc
 rw [h1, h2]
 show _ = some (((oddPL nm tx n0)[oddI c 16]?).getD .none)
 rw [h3]
 rfl
theorem hql {c : Int} {n0 : List Nat} : pieceD (oddPc c n0) = false := by
 obtain ⟨nm, tx, h1, h2, _, _, h3⟩ := fqu c n0
 exact gq2 (iqM nm h1) (iq4 tx h2) _ (List.mem_of_getElem? h3)
theorem iq3 {c : Int} {n0 : List Nat} (h : NmOk n0) : Gd 2 (oddPc c n0) := by
 obtain ⟨nm, tx, h1, h2, _, _, h3⟩ := fqu c n0
 exact jq3 (kqq h nm h1) (kqF tx h2) h _ (List.mem_of_getElem? h3)
def ppD (ps : List Pc) : List PyData := ps.map pcD
def lastL : List PyData := [.none, .bool true, sd "/a", .dict [], .int 5, .tuple [], .tuple [sd "step", sd "a"], .tuple [.tuple [], .none], .list [.tuple [.tuple [], .bool true]]]
def spoD (ps : List Pc) (e : Bool) (w c : Int) (n0 n1 : List Nat) : PyData :=
 if w < 12 then .tuple [.tuple (((ppD ps).take (oddI c (ps.length + 1 : Nat)) ++ [oddPc (c / 13) n0]) ++ (ppD ps).drop (oddI c (ps.length + 1 : Nat) + 1)), .bool e]
 else if w = 12 then .list [.tuple (ppD ps), .bool e]
 else if w = 13 then .tuple [.list (ppD ps), .bool e]
 else if w = 14 then .tuple [.tuple (ppD ps), .int (if e then 1 else 0)]
 else if w = 15 then .tuple [.tuple (ppD ps), .bool e, .none]
 else if w = 16 then .tuple [.tuple [], .bool false]
 else if w = 17 then .tuple [.tuple (List.replicate (13 + oddI c (4 : Nat)) (.tuple [sd "step", sd "a"])), .bool e]
 else if w = 18 then .tuple [.tuple (([.tuple [sd "gap", st n1]] ++ (ppD ps).take 9) ++ [.tuple [sd "number", st n1]]), .bool e]
 else if w = 19 then .tuple [.tuple [.tuple [sd "rest", st n1], .tuple [sd "step", sd "a"]], .bool e]
 else if w = 20 then .tuple [.tuple (ppD ps)]
 else (lastL[oddI c 9]?).getD .none
theorem hqx {ds : List PyData} {e : Bool} {d : PyData} (h : d ∈ ds) (hb : pieceD d = false) : patD (.tuple [.tuple ds, .bool e]) = false := by
 show (piecesD ds && _) = false
 unfold piecesD
 rw [show ds.all pieceD = false from List.all_eq_false.mpr ⟨d, h, by rw [hb]; decide⟩, Bool.false_and, Bool.and_false, Bool.false_and]
theorem kqs {ps : List Pc} {e : Bool} {w c : Int} {n0 n1 : List Nat} (ok : ∀ p ∈ ps, PcOk p ∧ (p.isStep = false → NmOk p.name)) (h1 : NmOk n1) : patD (spoD ps e w c n0 n1) = false := by
 unfold spoD
 split
 ·exact hqx (d := oddPc (c / 13) n0) (by simp) hql
 split
 ·rfl
 split
 ·rfl
 split
 ·rfl
 split
 ·rfl
 split
 ·decide +kernel
 split
 ·show (piecesD _ && _) = false
  unfold piecesD
  rw [List.length_replicate, decide_eq_false (by omega), Bool.false_and, Bool.false_and]
 split
 ·show (piecesD _ && _) = false
  have e1 : (([PyData.tuple [sd "gap", st n1]] ++ (ppD ps).take 9) ++ [PyData.tuple [sd "number", st n1]]).map pcOf = .gap n1 :: (ps.take 9 ++ [.num n1]) := by
   rw [List.map_append, List.map_append]
   unfold ppD
   rw [← List.map_take, List.map_map]
   have : List.map (pcOf ∘ pcD) (ps.take 9) = ps.take 9 := by
    conv => rhs; rw [← List.map_id (ps.take 9)]
    exact List.map_congr_left fun c hc => (bqz (ok c (List.mem_of_mem_take hc)).1 (ok c (List.mem_of_mem_take hc)).2).2
   rw [this]
   have g1 := (bqz (c := .gap n1) trivial fun _ => h1).2
   have g2 := (bqz (c := .num n1) trivial fun _ => h1).2
   show [pcOf (pcD (.gap n1))] ++ _ ++ [pcOf (pcD (.num n1))] = _
   rw [g1, g2]
   rfl
  unfold piecesD
  rw [e1, show decide ((gapsM (Pc.gap n1 :: (ps.take 9 ++ [.num n1]))).Nodup) = false from decide_eq_false (by
   have : gapsM (Pc.gap n1 :: (ps.take 9 ++ [.num n1])) = n1 :: (gapsM (ps.take 9) ++ [n1]) := by
    unfold gapsM
    simp [List.filter_append, Pc.isStep, Pc.name]
   rw [this]
   intro z
   exact (List.nodup_cons.mp z).1 (by simp)), Bool.and_false, Bool.and_false, Bool.and_false, Bool.false_and]
 split
 ·show (piecesD _ && _) = false
  have g1 := (bqz (c := .rest n1) trivial fun _ => h1).2
  have e1 : restsL ([PyData.tuple [sd "rest", st n1], .tuple [sd "step", sd "a"]].map pcOf) = false := by
   rw [List.map_cons, show pcOf (.tuple [sd "rest", st n1]) = .rest n1 from g1]
   rfl
  unfold piecesD
  rw [e1, Bool.false_and, Bool.and_false, Bool.and_false, Bool.false_and]
 split
 ·rfl
 ·cases h : lastL[oddI c 9]? with
  | none => rfl
  | some d =>
   have key : ∀ d ∈ lastL, patD d = false := List.forall_mem_cons.mpr ⟨rfl, List.forall_mem_cons.mpr ⟨rfl, List.forall_mem_cons.mpr ⟨rfl, List.forall_mem_cons.mpr ⟨rfl, List.forall_mem_cons.mpr ⟨rfl, List.forall_mem_cons.mpr ⟨rfl, List.forall_mem_cons.mpr ⟨rfl, List.forall_mem_cons.mpr ⟨rfl, List.forall_mem_cons.mpr ⟨rfl, fun x hx => absurd hx List.not_mem_nil⟩⟩⟩⟩⟩⟩⟩⟩⟩
   exact key d (List.mem_of_getElem? h)
theorem lq1 {ps : List Pc} {e : Bool} {w c : Int} {n0 n1 : List Nat} (ok : ∀ p ∈ ps, PcOk p ∧ (p.isStep = false → NmOk p.name)) (hl : ps.length ≤ 12) (h0 : NmOk n0) (h1 : NmOk n1) : Gd 5 (spoD ps e w c n0 n1) ∨ spoD ps e w c n0 n1 = .dict [] := by
 have cc : ∀ {n : Nat} {s : String}, ((Str.ofString s).cps.toList.all fun c => decide (c < 128)) = true → (Str.ofString s).length ≤ 1000 → Gd n (sd s) := fun h1 h2 => bql h1 h2
 have pp : ∀ d ∈ ppD ps, Gd 3 d := fun d hd => by
  obtain ⟨c, hc, rfl⟩ := List.mem_map.mp hd
  exact mqq (ok c hc).1 (ok c hc).2
 have pl : (ppD ps).length ≤ 12 := by unfold ppD; rw [List.length_map]; exact hl
 have pt : Gd 4 (.tuple (ppD ps)) := aqq pp (by omega)
 have two : ∀ (k : String) (d : PyData), ((Str.ofString k).cps.toList.all fun c => decide (c < 128)) = true → (Str.ofString k).length ≤ 1000 → Gd 2 d → Gd 3 (.tuple [sd k, d]) := fun k d a b g => aqq (gd1 (cc a b) (gd1 g gd0)) (by simp)
 have st2 : Gd 3 (.tuple [sd "step", sd "a"]) := two _ _ (by decide +kernel) (by decide +kernel) (cc (by decide +kernel) (by decide +kernel))
 have app : ∀ {A B : List PyData}, (∀ d ∈ A, Gd 3 d) → (∀ d ∈ B, Gd 3 d) → ∀ d ∈ A ++ B, Gd 3 d := fun ha hb d hd => (List.mem_append.mp hd).elim (ha d) (hb d)
 unfold spoD
 split
 ·refine .inl (aqq (gd1 (aqq (app (app (fun d hd => pp d (List.mem_of_mem_take hd)) (gd1 ((iq3 h0).le (by decide)) gd0)) fun d hd => pp d (List.mem_of_mem_drop hd)) ?_) (gd1 (bq4 _) gd0)) (by simp))
  simp only [List.length_append, List.length_take, List.length_drop, List.length_cons, List.length_nil]
  omega
 split
 ·exact .inl (fqB (gd1 pt (gd1 (bq4 _) gd0)) (by simp))
 split
 ·exact .inl (aqq (gd1 (fqB pp (by omega)) (gd1 (bq4 _) gd0)) (by simp))
 split
 ·exact .inl (aqq (gd1 pt (gd1 (eqt _) gd0)) (by simp))
 split
 ·exact .inl (aqq (gd1 pt (gd1 (bq4 _) (gd1 cq6 gd0))) (by simp))
 split
 ·exact .inl (aqq (gd1 gqC (gd1 (bq4 _) gd0)) (by simp))
 split
 ·refine .inl (aqq (gd1 (aqq (fun d hd => by rw [List.eq_of_mem_replicate hd]; exact st2) ?_) (gd1 (bq4 _) gd0)) (by simp))
  have := (bq1 c (m := 4) (by decide)).1
  rw [List.length_replicate]
  omega
 split
 ·refine .inl (aqq (gd1 (aqq (app (app (gd1 (two _ _ (by decide +kernel) (by decide +kernel) (fqo h1)) gd0) (fun d hd => pp d (List.mem_of_mem_take hd))) (gd1 (two _ _ (by decide +kernel) (by decide +kernel) (fqo h1)) gd0)) ?_) (gd1 (bq4 _) gd0)) (by simp))
  simp only [List.length_append, List.length_take, List.length_cons, List.length_nil]
  omega
 split
 ·exact .inl (aqq (gd1 (aqq (gd1 (two _ _ (by decide +kernel) (by decide +kernel) (fqo h1)) (gd1 st2 gd0)) (by simp)) (gd1 (bq4 _) gd0)) (by simp))
 split
 ·exact .inl (aqq (gd1 pt gd0) (by simp))
 ·cases h : lastL[oddI c 9]? with
  | none => exact .inl cq6
  | some d =>
   have key : ∀ d ∈ lastL, Gd 5 d ∨ d = PyData.dict [] := List.forall_mem_cons.mpr ⟨.inl cq6, List.forall_mem_cons.mpr ⟨.inl (bq4 _), List.forall_mem_cons.mpr ⟨.inl (cc (by decide +kernel) (by decide +kernel)), List.forall_mem_cons.mpr ⟨.inr rfl, List.forall_mem_cons.mpr ⟨.inl (eqt _), List.forall_mem_cons.mpr ⟨.inl gqC, List.forall_mem_cons.mpr ⟨.inl (st2.le (by decide)), List.forall_mem_cons.mpr ⟨.inl (aqq (gd1 gqC (gd1 cq6 gd0)) (by simp)), List.forall_mem_cons.mpr ⟨.inl (fqB (gd1 (aqq (n := 3) (gd1 gqC (gd1 (bq4 _) gd0)) (by simp)) gd0) (by simp)), fun x hx => absurd hx List.not_mem_nil⟩⟩⟩⟩⟩⟩⟩⟩⟩
   exact key d (List.mem_of_getElem? h)
def top (i : Nat) : Stmt := PySem.Challenge.pw_waymark_k50_what_is_a_pattern.main.body.getD i (.Pass ⟨0, 0, 0, 0⟩)
abbrev dqx : Stmt := top 4
abbrev cqT : Stmt := top 6
abbrev eqc : Stmt := top 11
abbrev aqN : Stmt := top 23
abbrev dq9 : Stmt := top 26
abbrev dqp : Stmt := top 27
abbrev bqb : Stmt := top 29
abbrev bqP : Stmt := top 30
abbrev bqK : Stmt := top 31
abbrev aqY : Stmt := top 36
abbrev dqF : Stmt := top 3
abbrev dqs : Stmt := top 22
abbrev cqY : Stmt := top 25
abbrev cqj : Stmt := top 32
abbrev bqc : Stmt := top 37
abbrev aqX : Stmt := top 7
abbrev aqK : Stmt := top 21
abbrev aqH : Stmt := top 24
abbrev cqh : Stmt := top 33
abbrev cqW : Stmt := top 20
abbrev bqV : Stmt := top 34
abbrev bqM : Stmt := top 19
abbrev bqj : Stmt := top 35
abbrev bqJ : Stmt := top 18
abbrev iqx : Stmt := top 38
abbrev kq5 : V := .str (Str.ofString " !\"#$&'()*+,-./0123456789:;<=>?@ABCDEFGHIJKLMNOPQRSTUVWXYZ[\\]^_`abcdefghijklmnopqrstuvwxyz{|}~")
abbrev cqA : V := .str (Str.ofString "abcdefghijklmnopqrstuvwxyz")
abbrev lqW : V := .str (Str.ofString ".")
abbrev k_UP : V := .str (Str.ofString "..")
abbrev eq4 : V := .int 0
abbrev gqz : V := .int 1
abbrev eq7 : V := .int 12
abbrev eqM : V := .int 8
set_option genInjectivity false
set_option genSizeOf false
set_option genSizeOfSpec false
structure G (K : W.Frag) (mg : Str → Option Value) where
 dqE : Addr
 cqK : FuncData
 dqG : Fun K "made_of" "made_of" dqx dqE cqK
 eqf : mg "made_of" = some (.ref dqE)
 eqo : Binds K cqK ["text", "signs"] []
 cqV : Addr
 cqf : FuncData
 bqy : Fun K "is_tuple" "is_tuple" cqT cqV cqf
 bq8 : mg "is_tuple" = some (.ref cqV)
 bq9 : Binds K cqf ["thing", "count"] []
 eqd : Addr
 dqm : FuncData
 fqr : Fun K "is_dot" "is_dot" eqc eqd dqm
 gqB : mg "is_dot" = some (.ref eqd)
 gqx : Binds K dqm ["step"] []
 aqI : Addr
 aqD : FuncData
 aq9 : Fun K "rests_stand_last" "rests_stand_last" aqN aqI aqD
 bqU : mg "rests_stand_last" = some (.ref aqI)
 bqZ : Binds K aqD ["pieces"] []
 eqb : Addr
 dqh : FuncData
 fqt : Fun K "is_gap" "is_gap" dq9 eqb dqh
 gqw : mg "is_gap" = some (.ref eqb)
 gqN : Binds K dqh ["piece"] []
 dqo : Addr
 cqJ : FuncData
 eql : Fun K "name_of" "name_of" dqp dqo cqJ
 fqJ : mg "name_of" = some (.ref dqo)
 fqQ : Binds K cqJ ["gap"] []
 bqk : Addr
 aq2 : FuncData
 aqV : Fun K "_law_cell_at" "_law_cell_at" bqb bqk aq2
 bqf : mg "_law_cell_at" = some (.ref bqk)
 bqh : Binds K aq2 ["_law_script", "_law_k"] []
 bqW : Addr
 bqq : FuncData
 cqz : Fun K "_law_names" "_law_names" bqP bqW bqq
 dqX : mg "_law_names" = some (.ref bqW)
 dq2 : Binds K bqq ["_law_cell", "_law_many"] []
 bqQ : Addr
 bqs : FuncData
 cqx : Fun K "_law_signs" "_law_signs" bqK bqQ bqs
 dq4 : mg "_law_signs" = some (.ref bqQ)
 dqY : Binds K bqs [] []
 aq0 : Addr
 aqT : FuncData
 bqp : Fun K "_law_odd_piece" "_law_odd_piece" aqY aq0 aqT
 cqn : mg "_law_odd_piece" = some (.ref aq0)
 cqp : Binds K aqT ["_law_piece_here", "_law_cell", "_law_names_here"] []
 dqj : Addr
 cqM : FuncData
 cqG : Fun K "is_text" "is_text" dqF dqj cqM
 dqr : mg "is_text" = some (.ref dqj)
 dqv : Binds K cqM ["thing"] []
 dqw : Addr
 cqS : FuncData
 dqy : Fun K "is_name" "is_name" dqs dqw cqS
 eqC : mg "is_name" = some (.ref dqw)
 eqD : Binds K cqS ["thing"] []
 cqR : Addr
 cql : FuncData
 dqT : Fun K "names_of" "names_of" cqY cqR cql
 eqS : mg "names_of" = some (.ref cqR)
 eqR : Binds K cql ["pieces"] []
 cqc : Addr
 bqN : FuncData
 bqG : Fun K "_law_text" "_law_text" cqj cqc bqN
 cqk : mg "_law_text" = some (.ref cqc)
 cqd : Binds K bqN ["_law_cell"] []
 bqd : Addr
 aq3 : FuncData
 bqi : Fun K "_law_spoiled" "_law_spoiled" bqc bqd aq3
 bq5 : mg "_law_spoiled" = some (.ref bqd)
 bq2 : Binds K aq3 ["_law_pattern_here", "_law_way", "_law_cell", "_law_names_here"] []
 aqZ : Addr
 aqU : FuncData
 bqo : Fun K "is_filled_text" "is_filled_text" aqX aqZ aqU
 cqq : mg "is_filled_text" = some (.ref aqZ)
 cqo : Binds K aqU ["thing"] []
 aqM : Addr
 aqE : FuncData
 aq4 : Fun K "are_ends_of_part" "are_ends_of_part" aqK aqM aqE
 bqO : mg "are_ends_of_part" = some (.ref aqM)
 bqR : Binds K aqE ["head", "tail"] []
 aqJ : Addr
 aqF : FuncData
 aq6 : Fun K "names_are_unlike" "names_are_unlike" aqH aqJ aqF
 bqX : mg "names_are_unlike" = some (.ref aqJ)
 bqL : Binds K aqF ["pieces"] []
 cqi : Addr
 bqI : FuncData
 cq3 : Fun K "_law_step" "_law_step" cqh cqi bqI
 equ : mg "_law_step" = some (.ref cqi)
 eqr : Binds K bqI ["_law_cell"] []
 cqI : Addr
 cqa : FuncData
 dqJ : Fun K "is_piece" "is_piece" cqW cqI cqa
 eq0 : mg "is_piece" = some (.ref cqI)
 eqT : Binds K cqa ["thing"] []
 bqS : Addr
 bqw : FuncData
 cqv : Fun K "_law_piece" "_law_piece" bqV bqS bqw
 dq0 : mg "_law_piece" = some (.ref bqS)
 dq5 : Binds K bqw ["_law_cell", "_law_name"] []
 bqT : Addr
 bqt : FuncData
 cqr : Fun K "are_pieces" "are_pieces" bqM bqT bqt
 dq6 : mg "are_pieces" = some (.ref bqT)
 dq3 : Binds K bqt ["things"] []
 bqe : Addr
 bqa : FuncData
 bq3 : Fun K "_law_pattern" "_law_pattern" bqj bqe bqa
 cq1 : mg "_law_pattern" = some (.ref bqe)
 cq0 : Binds K bqa ["_law_cell", "_law_names_here", "_law_cells"] []
 bq0 : Addr
 bqr : FuncData
 bqY : Fun K "is_pattern" "is_pattern" bqJ bq0 bqr
 cqt : mg "is_pattern" = some (.ref bq0)
 cqE : Binds K bqr ["thing"] []
 iqQ : Addr
 fqF : FuncData
 lqX : Fun K "law" "law" iqx iqQ fqF
 mqO : mg "law" = some (.ref iqQ)
 mqI : Binds K fqF ["_law_script"] []
 eqy : Tok
 hqw : mg "SIGNS" = some (.str (Str.ofString " !\"#$&'()*+,-./0123456789:;<=>?@ABCDEFGHIJKLMNOPQRSTUVWXYZ[\\]^_`abcdefghijklmnopqrstuvwxyz{|}~") eqy)
 aqP : Tok
 cqs : mg "SMALL_LETTERS" = some (.str (Str.ofString "abcdefghijklmnopqrstuvwxyz") aqP)
 fqG : Tok
 jqB : mg "STAY" = some (.str (Str.ofString ".") fqG)
 t_UP : Tok
 c_UP : mg "UP" = some (.str (Str.ofString "..") t_UP)
 dqA : Tok
 eqa : mg "PIECES" = some (.int 0 dqA)
 dqg : Tok
 fqa : mg "CLOSES" = some (.int 1 dqg)
 aq7 : Tok
 dqu : mg "MOST_PIECES" = some (.int 12 aq7)
 aqW : Tok
 cq2 : mg "LONGEST_NAME" = some (.int 8 aqW)
 bqv : Addr
 dqz : mg "NAMED_WORDS" = some (.ref bqv)
 dqk : ∀ H, IsK K H (.tuple [.str (Str.ofString "number"), .str (Str.ofString "word"), .str (Str.ofString "gap"), .str (Str.ofString "rest")]) (.ref bqv)
 iqo : mg "all" = none
 dqR : mg "len" = none
 aqB : mg "isinstance" = none
 dqL : mg "tuple" = none
 dqQ : mg "range" = none
 hqk : mg "list" = none
 iq5 : mg "str" = none
 lqR : mg "int" = none
 lqi : mg "set" = none
 lqv : mg "zip" = none
 jqA : mg "bool" = none
def hqg : Sp := fun vs H Q _ => ∃ x y : Str, vs = [.str x, .str y] ∧ x.length ≤ 100000 ∧ ∀ H', Same H H' → Q (.bl (x.cps.toList.all fun c => decide (c ∈ y.cps.toList))) H'
def gqt : Sp := fun vs H Q _ => ∃ (d : PyData) (v : V) (n : Int), vs = [v, .int n] ∧ (Is H d v ∨ ∃ a, d = .dict [] ∧ v = .ref a ∧ H a = some (.dK [])) ∧ Q (.bl (tupN n d)) H
def hq6 : Sp := fun vs H Q _ => ∃ s : Stp, vs = [sV s] ∧ Q (.bl (isDot s)) H
def cq9 (K : W.Frag) : Sp := fun vs H Q _ => ∃ (cs : List Pc) (xs : List V) (q : Addr), vs = [.ref q] ∧ H q = some (.tup xs) ∧ PcAll K H cs xs ∧ cs.length ≤ 1000 ∧ ∀ H', Same H H' → Q (.bl (restsL cs)) H'
def hqE (K : W.Frag) : Sp := fun vs H Q _ => ∃ (c : Pc) (p : Addr), vs = [.ref p] ∧ SqT K H p c.vals ∧ Q (.bl (!c.isStep)) H
def gqY (K : W.Frag) : Sp := fun vs H Q _ => ∃ (c : Pc) (p : Addr), vs = [.ref p] ∧ SqT K H p c.vals ∧ c.isStep = false ∧ Q (tV c.name) H
def eqi (K : W.Frag) : Sp := fun vs H Q _ => ∃ (a : Addr) (ns : List Int) (k : Nat), vs = [.ref a, .int (k : Int)] ∧ SqL K H a (ns.map V.int) ∧ Q (.int (ns.getD k 0)) H
def fqe (K : W.Frag) : Sp := fun vs H Q _ => ∃ (c : Int) (m : Nat), vs = [.int c, .int (m : Int)] ∧ m ≤ 26 ∧ ∀ (ns : List (List Nat)) (p : Addr) (H' : Hp), ns.length = m → (∀ n ∈ ns, 0 < n.length ∧ n.length ≤ 8 ∧ n.all isSma = true) → ns.Nodup → Same H H' → H' p = some (.lst (ns.map tV)) → Q (.ref p) H'
def dqC : Sp := fun vs H Q _ => vs = [] ∧ Q (.str ⟨SG.toArray⟩) H
def dqH (K : W.Frag) : Sp := fun vs H Q _ => ∃ (c : Int) (p q : Addr) (n0 : List Nat) (nm : List (List Nat)), vs = [.ref p, .int c, .ref q] ∧ H p = some (.tup [.str (Str.ofString "gap"), tV n0]) ∧ H q = some (.lst (nm.map tV)) ∧ nm[0]? = some n0 ∧ NmOk n0 ∧ ∀ (v : V) (H' : Hp), Same H H' → Is H' (oddPc c n0) v → Q v H'
def gqT : Sp := fun vs H Q _ => ∃ (d : PyData) (v : V), vs = [v] ∧ Is H d v ∧ smallD d = true ∧ ∀ H', Same H H' → Q (.bl (tx d)) H'
def gqZ : Sp := fun vs H Q _ => ∃ (d : PyData) (v : V), vs = [v] ∧ Is H d v ∧ smallD d = true ∧ ∀ H', Same H H' → Q (.bl (nameD d)) H'
def fq9 (K : W.Frag) : Sp := fun vs H Q _ => ∃ (cs : List Pc) (xs : List V) (q : Addr), vs = [.ref q] ∧ SqT K H q xs ∧ PcAll K H cs xs ∧ cs.length ≤ 1000 ∧ ∀ (p : Addr) (H' : Hp), Same H H' → H' p = some (.lst ((gapsM cs).map tV)) → Q (.ref p) H'
def fqP (K : W.Frag) : Sp := fun vs H Q _ => ∃ c : Int, vs = [.int c] ∧ ∀ (l : List Nat) (H' : Hp), l.length ≤ 4 → (∀ c ∈ l, isSg c = true) → Same H H' → Q (tV l) H'
def bqB (K : W.Frag) : Sp := fun vs H Q _ => ∃ (ps : List Pc) (e : Bool) (w c : Int) (p q r : Addr) (xs : List V) (n0 n1 : List Nat) (nm : List (List Nat)), vs = [.ref p, .int w, .int c, .ref r] ∧ H p = some (.tup [.ref q, .bl e]) ∧ H q = some (.tup xs) ∧ PcT H ps xs ∧ ps.length ≤ 12 ∧ H r = some (.lst (nm.map tV)) ∧ nm[0]? = some n0 ∧ nm[1]? = some n1 ∧ NmOk n0 ∧ NmOk n1 ∧ ∀ (v : V) (H' : Hp), Same H H' → (Is H' (spoD ps e w c n0 n1) v ∨ ∃ a, spoD ps e w c n0 n1 = .dict [] ∧ v = .ref a ∧ H' a = some (.dK [])) → Q v H'
def dqM : Sp := fun vs H Q _ => ∃ (d : PyData) (v : V), vs = [v] ∧ Is H d v ∧ smallD d = true ∧ ∀ H', Same H H' → Q (.bl (ftx d)) H'
def dqe : Sp := fun vs H Q _ => ∃ (d e : PyData) (v u : V), vs = [v, u] ∧ Is H d v ∧ Is H e u ∧ smallD d = true ∧ smallD e = true ∧ ∀ H', Same H H' → Q (.bl (endsD d e)) H'
def cq5 (K : W.Frag) : Sp := fun vs H Q _ => ∃ (cs : List Pc) (xs : List V) (q : Addr), vs = [.ref q] ∧ H q = some (.tup xs) ∧ PcAll K H cs xs ∧ cs.length ≤ 1000 ∧ ∀ H', Same H H' → Q (.bl (decide ((gapsM cs).Nodup))) H'
def fqL (K : W.Frag) : Sp := fun vs H Q _ => ∃ c : Int, vs = [.int c] ∧ ∀ (l : List Nat) (H' : Hp), 0 < l.length → l.length ≤ 5 → (∀ c ∈ l, isSg c = true) → isDot l = false → Same H H' → Q (tV l) H'
def gqu (K : W.Frag) : Sp := fun vs H Q _ => ∃ (d : PyData) (v : V), vs = [v] ∧ Is H d v ∧ smallD d = true ∧ ∀ H', Same H H' → Q (.bl (pieceD d)) H'
def fqs (K : W.Frag) : Sp := fun vs H Q _ => ∃ (c : Int) (n : List Nat), vs = [.int c, tV n] ∧ ∀ (pc : Pc) (p : Addr) (H' : Hp), PcOk pc → pc.isRest = false → (pc.isStep = false → pc.name = n) → Same H H' → H' p = some (.tup pc.vals) → Q (.ref p) H'
def eq8 (K : W.Frag) : Sp := fun vs H Q _ => ∃ (ds : List PyData) (xs : List V) (q : Addr), vs = [.ref q] ∧ H q = some (.tup xs) ∧ IsAll H ds xs ∧ smallD (.tuple ds) = true ∧ ∀ H', Same H H' → Q (.bl (piecesD ds)) H'
def eqH (K : W.Frag) : Sp := fun vs H Q _ => ∃ (c : Int) (pn pc : Addr) (ns : List (List Nat)) (cs : List Int), vs = [.int c, .ref pn, .ref pc] ∧ H pn = some (.lst (ns.map tV)) ∧ SqL K H pc (cs.map V.int) ∧ cs.length ≤ ns.length ∧ ns.length ≤ 100 ∧ (∀ n ∈ ns, ∀ x ∈ n, isSg x = true) ∧ ∀ (ps : List Pc) (e : Bool) (p q : Addr) (xs : List V) (H' : Hp), PatOk ps → ps.length = cs.length → (∀ (i : Nat) (c : Pc), ps[i]? = some c → c.isStep = false → ns[i]? = some c.name) → (ps = [] → e = true) → Same H H' → H' q = some (.tup xs) → PcT H' ps xs → H' p = some (.tup [.ref q, .bl e]) → Q (.ref p) H'
def fqm (K : W.Frag) : Sp := fun vs H Q _ => ∃ (d : PyData) (v : V), vs = [v] ∧ ((Is H d v ∧ smallD d = true) ∨ ∃ a, d = .dict [] ∧ v = .ref a ∧ H a = some (.dK [])) ∧ ∀ H', Same H H' → Q (.bl (patD d)) H'
def gqF (K : W.Frag) : Sp := fun vs H Q _ => ∃ (a : Addr) (ns : List Int), vs = [.ref a] ∧ SqL K H a (ns.map V.int) ∧ ns.length ≤ 63 ∧ ∀ H', Q (.bl true) H'
section
variable {H : Hp} {Q : VK} {E : XK} {K : W.Frag}
theorem jqJ : dqC [] H Q E ↔ Q (.str ⟨SG.toArray⟩) H := ⟨fun h => h.2, fun h => ⟨rfl, h⟩⟩
end
section
variable {P : Program} {w : World} {K : W.Frag} {mg : Str → Option Value} {base : Heap}
seal PE PA PT PS PSs PG PI PF PO PW
local macro_rules | `(tactic| walk_at "rd") => `(tactic| simp only [L2.start, List.map_cons, List.map_nil, List.length_cons, List.length_nil, Nat.reduceAdd, Nat.reduceSub, Nat.zero_add, List.replicate_succ, List.replicate_zero, L2.mqg, L2.rd_C, L2.lqU, L2.lqF, L2.iq1, L2.lqz, L2.kqi, L2.lqk, L2.kqb, L2.mqi, L2.lqV, L2.kqY, L2.mqy, L2.kqN, L2.rd_B, L2.lqA, L2.mqL, L2.lqJ, L2.kqK, L2.lqC, L2.jqG, L2.mqC, L2.jqd, L2.lqQ, L2.jqT, L2.mqh, L2.mqk, L2.kqv, L2.kqQ, L2.kqH, L2.iqh, L2.jqZ, L2.kqp, L2.jqH, L2.iqE, L2.kqa, L2.mqM, L2.mqE, L2.mql, L2.mqK, L2.hqt, L2.jqV, L2.jqc, L2.rd_I, L2.mqH, L2.kqg, L2.fqn, L2.kqn, L2.kqP, L2.gqk, L2.jq2, L2.kqS, L2.kqT, L2.iqP, L2.kq2, L2.jqQ, L2.iqw, L2.lqe, L2.lqq, L2.lqZ, L2.mqj, L2.lqr, L2.kqX, L2.cqN, L2.dqP, L2.cqL, L2.cqZ, L2.iqi, L2.iqv, L2.iqN, L2.hqK, L2.hqh, L2.dqW, L2.dq8, L2.dq7, L2.dqN, L2.dqB, L2.fqy, L2.fqT, L2.fqA, L2.eq6, L2.eqK, L2.fqC, L2.gqb, L2.gqs, L2.fq5, L2.fqw, L2.fqR, L2.gqf, L2.gql, L2.fq6, L2.fqd, L2.fqz, L2.fqO, L2.fqH, L2.fqc, L2.eqJ, L2.eqN, L2.fqk, L2.fqx, L2.eqL, L2.eqp, L2.kqW, L2.jqP, L2.jqk, L2.jqN, L2.kq3, L2.cx_K, L2.kq6, L2.lq8, L2.lqS, L2.mqd, L2.mqa, L2.lqh, L2.mqf, L2.mqu, L2.lqY, L2.hqT, L2.mqG, L2.mqF, L2.mqA, L2.iq8, L2.iqG, L2.kqk, L2.jqi, Option.getD_some, L2.mqp, L2.mqx, L2.rd_U, L2.lqf, L2.jqX, L2.iqu, L2.kqj, L2.iqd, L2.kql, L2.lq7, L2.lqx, L2.kqh, L2.kq1, L2.kqV, L2.kqt, List.getElem?_cons_zero, List.getElem?_cons_succ, List.set_cons_zero, List.set_cons_succ, List.nil_append, List.cons_append, List.append_nil, Option.some.injEq, exists_eq_left, exists_eq_left', true_and, and_true, L2.V.bl.injEq, L2.V.int.injEq, L2.V.str.injEq, L2.V.ref.injEq, List.cons.injEq, reduceCtorEq, false_and, and_false, exists_false, false_or, or_false, decide_eq_true_eq, Bool.not_true, Bool.not_false, ↓reduceIte, if_true, if_false, not_true_eq_false, not_false_eq_true, decide_true, decide_false, Bool.false_eq_true, jqJ, L2.iqr, L2.jq9, L2.iqD, L2.iqt, L2.lq4, lqT, L2.lqD, L2.iqJ, L2.mqJ, L2.jqM, L2.iqX, L2.jqf, L2.iqz, L2.mqB, L2.hqF, L2.jqL, L2.lqE, L2.iql, L2.lqN, L2.mqc, L2.kq4, L2.lqg, L2.lqt, L2.lqb, L2.kqO, L2.kqx, L2.kqc, L2.kqe, L2.kqR, L2.hq0, L2.hqQ, L2.iq7, L2.hqd, L2.iqC, L2.gq1, L2.gqV, L2.kqJ, L2.kqo, L2.lqP, L2.lqo, L2.hqG, L2.jqR, L2.iqB, L2.iqe, mqr, iqV, hqR, fqN, jqS, jqI, List.drop_succ_cons, List.drop_zero, L2.iqZ, L2.lq0, L2.lqu, L2.lqw, Bool.not_eq_true', decide_eq_false_iff_not])
theorem gq7 : FnScope ["text", "signs"] ["text", "signs"] (defScope dqx) := ⟨rfl, rfl, rfl, by decide +kernel, rfl, by decide +kernel, by decide +kernel⟩
theorem gqo : FnScope ["thing", "count"] ["thing", "count"] (defScope cqT) := ⟨rfl, rfl, rfl, by decide +kernel, rfl, by decide +kernel, by decide +kernel⟩
theorem hqn : FnScope ["step"] ["step"] (defScope eqc) := ⟨rfl, rfl, rfl, by decide +kernel, rfl, by decide +kernel, by decide +kernel⟩
theorem dqf : FnScope ["pieces"] ["pieces"] (defScope aqN) := ⟨rfl, rfl, rfl, by decide +kernel, rfl, by decide +kernel, by decide +kernel⟩
theorem hqI : FnScope ["piece"] ["piece"] (defScope dq9) := ⟨rfl, rfl, rfl, by decide +kernel, rfl, by decide +kernel, by decide +kernel⟩
theorem hqa : FnScope ["gap"] ["gap"] (defScope dqp) := ⟨rfl, rfl, rfl, by decide +kernel, rfl, by decide +kernel, by decide +kernel⟩
theorem eqk : FnScope ["_law_script", "_law_k"] ["_law_script", "_law_k"] (defScope bqb) := ⟨rfl, rfl, rfl, by decide +kernel, rfl, by decide +kernel, by decide +kernel⟩
theorem aqo : FnScope ["_law_cell", "_law_many", "_law_letters", "_law_size", "_law_at", "_law_names_here", "_law_k", "_law_name", "_law_j", "_law_step_here"] ["_law_cell", "_law_many"] (defScope bqP) := ⟨rfl, rfl, rfl, by decide +kernel, rfl, by decide +kernel, by decide +kernel⟩
theorem dqn : FnScope ["_law_some"] [] (defScope bqK) := ⟨rfl, rfl, rfl, by decide +kernel, rfl, by decide +kernel, by decide +kernel⟩
theorem aqv : FnScope ["_law_piece_here", "_law_cell", "_law_names_here", "_law_name", "_law_text_here", "_law_some"] ["_law_piece_here", "_law_cell", "_law_names_here"] (defScope aqY) := ⟨rfl, rfl, rfl, by decide +kernel, rfl, by decide +kernel, by decide +kernel⟩
theorem gq6 : FnScope ["thing"] ["thing"] (defScope dqF) := ⟨rfl, rfl, rfl, by decide +kernel, rfl, by decide +kernel, by decide +kernel⟩
theorem gq0 : FnScope ["thing"] ["thing"] (defScope dqs) := ⟨rfl, rfl, rfl, by decide +kernel, rfl, by decide +kernel, by decide +kernel⟩
theorem gqd : FnScope ["pieces"] ["pieces"] (defScope cqY) := ⟨rfl, rfl, rfl, by decide +kernel, rfl, by decide +kernel, by decide +kernel⟩
theorem bqm : FnScope ["_law_cell", "_law_pool", "_law_text_here", "_law_k"] ["_law_cell"] (defScope cqj) := ⟨rfl, rfl, rfl, by decide +kernel, rfl, by decide +kernel, by decide +kernel⟩
theorem aqQ : FnScope ["_law_pattern_here", "_law_way", "_law_cell", "_law_names_here", "_law_pieces", "_law_ends", "_law_at", "_law_odd"] ["_law_pattern_here", "_law_way", "_law_cell", "_law_names_here"] (defScope bqc) := ⟨rfl, rfl, rfl, by decide +kernel, rfl, by decide +kernel, by decide +kernel⟩
theorem dqV : FnScope ["thing"] ["thing"] (defScope aqX) := ⟨rfl, rfl, rfl, by decide +kernel, rfl, by decide +kernel, by decide +kernel⟩
theorem cq7 : FnScope ["head", "tail"] ["head", "tail"] (defScope aqK) := ⟨rfl, rfl, rfl, by decide +kernel, rfl, by decide +kernel, by decide +kernel⟩
theorem bqE : FnScope ["pieces", "names"] ["pieces"] (defScope aqH) := ⟨rfl, rfl, rfl, by decide +kernel, rfl, by decide +kernel, by decide +kernel⟩
theorem cqD : FnScope ["_law_cell", "_law_text_here"] ["_law_cell"] (defScope cqh) := ⟨rfl, rfl, rfl, by decide +kernel, rfl, by decide +kernel, by decide +kernel⟩
theorem gqg : FnScope ["thing"] ["thing"] (defScope cqW) := ⟨rfl, rfl, rfl, by decide +kernel, rfl, by decide +kernel, by decide +kernel⟩
theorem bqx : FnScope ["_law_cell", "_law_name", "_law_head", "_law_tail"] ["_law_cell", "_law_name"] (defScope bqV) := ⟨rfl, rfl, rfl, by decide +kernel, rfl, by decide +kernel, by decide +kernel⟩
theorem fqq : FnScope ["things"] ["things"] (defScope bqM) := ⟨rfl, rfl, rfl, by decide +kernel, rfl, by decide +kernel, by decide +kernel⟩
theorem cqw : FnScope ["_law_cell", "_law_names_here", "_law_cells", "_law_pieces"] ["_law_cell", "_law_names_here", "_law_cells"] (defScope bqj) := ⟨rfl, rfl, rfl, by decide +kernel, rfl, by decide +kernel, by decide +kernel⟩
theorem eq3 : FnScope ["thing"] ["thing"] (defScope bqJ) := ⟨rfl, rfl, rfl, by decide +kernel, rfl, by decide +kernel, by decide +kernel⟩
theorem eqY : FnScope ["_law_script", "_law_names_here", "_law_pattern_here", "_law_cell", "_law_odd", "_law_k"] ["_law_script"] (defScope iqx) := ⟨rfl, rfl, rfl, by decide +kernel, rfl, by decide +kernel, by decide +kernel⟩
theorem eqX (g : G K mg) : FnOk P w K mg base CX0 1 g.dqE g.cqK ["text", "signs"] hqg := by
 refine g.dqG.ok gq7 (fun vs H Q E h => ?_) (fun cdv A outer s H vs Q E hr h => ?_)
 ·obtain ⟨x, y, rfl, _⟩ := h; rfl
 ·obtain ⟨x, y, rfl, hx, k⟩ := h
  refine ⟨_, (aqe (aqm (aqs (eqs (K := K) rfl rfl) rfl g.iqo PyProof.Rows.boot_all (aqa (eqn (fx := ["signs"]) (fr := [1]) rfl rfl (by decide +kernel) rfl (by decide +kernel) rfl (by decide +kernel) rfl (.cons rfl rfl rfl rfl .nil) rfl (lqH (pv 0)) (fun _ _ _ => fqE) (fun _ _ _ => (aq8 kq7 (pv 0) (pv 1) (by with_unfolding_all rfl)))) aqb)))), ?_⟩
  walk_at "rd"
  intro p hp
  refine iq6 (z := x) (aqy hx) hp (fun c => .bl (decide (c ∈ y.cps.toList))) (fun c hc H' R hR => ?_) (fun H' sm hp' => ?_)
  ·walk_at "rd"
   exact hR H' (Same.refl _)
  ·refine iqd.mpr ⟨x.cps.toList.map fun c => decide (c ∈ y.cps.toList), SqL.of (by rw [hp', List.map_map]; rfl), ?_⟩
   rw [List.all_map]
   exact k H' sm
theorem cqb (g : G K mg) : FnOk P w K mg base CX0 1 g.cqV g.cqf ["thing", "count"] gqt := by
 refine g.bqy.ok gqo (fun vs H Q E h => ?_) (fun cdv A outer s H vs Q E hr h => ?_)
 ·obtain ⟨d, v, n, rfl, _⟩ := h; rfl
 ·obtain ⟨d, v, n, rfl, hv, k⟩ := h
  refine ⟨_, (aqe (aqm (bqC (aqs gqv rfl g.aqB aqw (aqa (pv 0) (aqa (dqb (v := .ty "tuple") rfl g.dqL dqi rfl) aqb))) (bq7 (aq8 bqF (aqs (aqR (K := K) rfl) rfl g.dqR PySem.boot_len (aqa (pv 0) aqb)) (pv 1) (nomark _)))))), ?_⟩
  walk_at "rd"
  have kt : ∀ T, T ∈ ["NoneType", "bool", "int", "str", "list"] → W.kitOne K (.type T) (.type "tuple") = some false := fun T hT => by
   simp only [List.mem_cons, List.not_mem_nil, or_false] at hT
   rcases hT with rfl | rfl | rfl | rfl | rfl
   ·exact dqa K "NoneType" (by decide) "tuple" (by decide)
   ·exact dqa K "bool" (by decide) "tuple" (by decide)
   ·exact dqa K "int" (by decide) "tuple" (by decide)
   ·exact dqa K "str" (by decide) "tuple" (by decide)
   ·exact dqa K "list" (by decide) "tuple" (by decide)
  rcases hv with hv | ⟨a, rfl, rfl, ha⟩
  rotate_left
  ·exact ⟨_, _, _, false, rfl, .dK ha, by with_unfolding_all kernel_rfl, _, rfl, ite2 (fun z => by cases z) (fun _ => k)⟩
  cases hv with
  | tup hp r =>
   refine ⟨_, _, _, _, rfl, .tup hp, dqa K "tuple" (by decide) "tuple" (by decide), _, rfl, ite2 (fun _ => ?_) (fun z => absurd rfl z)⟩
   walk_at "rd"
   refine ⟨_, .inr (SqT.of hp), ?_⟩
   rw [← r.length]
   exact k
  | lst hp r => exact ⟨_, _, _, _, rfl, .lst hp, kt "list" (by decide), _, rfl, ite2 (fun z => by cases z) (fun _ => k)⟩
  | non => exact ⟨_, _, _, _, rfl, .non, kt "NoneType" (by decide), _, rfl, ite2 (fun z => by cases z) (fun _ => k)⟩
  | bl b => exact ⟨_, _, _, _, rfl, .bl _, kt "bool" (by decide), _, rfl, ite2 (fun z => by cases z) (fun _ => k)⟩
  | int i => exact ⟨_, _, _, _, rfl, .int _, kt "int" (by decide), _, rfl, ite2 (fun z => by cases z) (fun _ => k)⟩
  | str x => exact ⟨_, _, _, _, rfl, .str _, kt "str" (by decide), _, rfl, ite2 (fun z => by cases z) (fun _ => k)⟩
theorem hqV (g : G K mg) : FnOk P w K mg base CX0 1 g.eqd g.dqm ["step"] hq6 := by
 refine g.fqr.ok hqn (fun vs H Q E h => ?_) (fun cdv A outer s H vs Q E hr h => ?_)
 ·obtain ⟨s, rfl, _⟩ := h; rfl
 ·obtain ⟨s, rfl, k⟩ := h
  refine ⟨_, (aqe (aqm (kqG (aq8 bqF (pv 0) (bqn (v := lqW) rfl g.jqB ⟨_, rfl⟩) (nomark _)) (bq7 (aq8 bqF (pv 0) (bqn (v := k_UP) rfl g.c_UP ⟨_, rfl⟩) (nomark _)))))), ?_⟩
  have d1 : Str.ofString ".." = ⟨sUp.toArray⟩ := by decide +kernel
  have d2 : Str.ofString "." = ⟨sStay.toArray⟩ := by decide +kernel
  walk_at "rd"
  rw [d1, d2]
  simp only [fq0]
  by_cases h2 : s = sStay
  ·rw [if_pos h2]
   rw [show isDot s = true by simp [isDot, h2]] at k
   exact k
  ·rw [if_neg h2]
   rw [show isDot s = decide (s = sUp) by simp [isDot, h2]] at k
   exact k
theorem cq8 (g : G K mg) : FnOk P w K mg base CX0 1 g.aqI g.aqD ["pieces"] (cq9 K) := by
 refine g.aq9.ok dqf (fun vs H Q E h => ?_) (fun cdv A outer s H vs Q E hr h => ?_)
 ·obtain ⟨cs, xs, q, rfl, _⟩ := h; rfl
 ·obtain ⟨cs, xs, q, rfl, hq, hx, hl, k⟩ := h
  refine ⟨_, (aqe (aqm (aqs (eqs (K := K) rfl rfl) rfl g.iqo PyProof.Rows.boot_all (aqa (eqn (fx := []) (fr := []) rfl rfl (by decide +kernel) rfl (by decide +kernel) rfl (by decide +kernel) rfl .nil rfl (gqh (K := K) rfl (dqt fqv (pv 0) fqh (dqI (lqB jqs aqc)))) (fun _ _ _ => fqE) (fun _ _ _ => (aq8 jqK (aqz (aqi (K := K) rfl) (pv 0) aqc (fun _ _ => rfl)) aqd (nomark _)))) aqb)))), ?_⟩
  walk_at "rd"
  have hxl := hx.length
  refine ⟨_, hq, fun p1 H1 s1 h1 => ?_⟩
  rw [iqU] at h1
  refine ⟨⟨_, .of h1⟩, fun p2 n2 => ?_⟩
  refine fqY (xs := xs.dropLast) (fun i ys H' => Same H1 H' ∧ ys = ((cs.dropLast.take i).map fun c => !c.isRest).map V.bl) (aqy (by rw [List.length_dropLast]; omega)) ⟨aq5 n2, rfl⟩ (fun i ys H2 hJ => .of (hJ.1 _ _ h1)) (fun i x ys H2 T hxi hJ h2 hT => ?_) (fun ys H2 hJ h2 => ?_)
  ·obtain ⟨s2, rfl⟩ := hJ
   have hi := (List.getElem?_eq_some_iff.mp hxi).1
   rw [List.length_dropLast] at hi
   rw [List.dropLast_eq_take, List.getElem?_take_of_lt (by omega)] at hxi
   obtain ⟨c, b, hc, rfl, hcb⟩ := hx.get hxi
   walk_at "rd"
   refine ⟨_, _, .inr ((s1.trans s2).tup hcb), c.at0, gqk.mpr ?_⟩
   rw [kqd]
   refine hT _ H2 h2 ⟨eqm n2 s2, ?_⟩
   have hcd : cs.dropLast[i]? = some c := by rw [List.dropLast_eq_take, List.getElem?_take_of_lt (by omega)]; exact hc
   rw [List.take_add_one, hcd, List.map_append, List.map_append]
   rfl
  ·obtain ⟨s2, rfl⟩ := hJ
   walk_at "rd"
   refine ⟨_, .of h2, ?_⟩
   have e : (((cs.dropLast.take xs.dropLast.length).map fun c => !c.isRest).all id) = restsL cs := by
    unfold restsL
    rw [List.length_dropLast, hxl, ← List.length_dropLast, List.take_length, List.all_map]
    rfl
   rw [e]
   exact k H2 (s1.trans s2)
theorem hqr (g : G K mg) : FnOk P w K mg base CX0 1 g.eqb g.dqh ["piece"] (hqE K) := by
 refine g.fqt.ok hqI (fun vs H Q E h => ?_) (fun cdv A outer s H vs Q E hr h => ?_)
 ·obtain ⟨c, p, rfl, _⟩ := h; rfl
 ·obtain ⟨c, p, rfl, hp, k⟩ := h
  refine ⟨_, (aqe (aqm (aq8 jqK (aqz (aqi (K := K) rfl) (pv 0) aqc (fun _ _ => rfl)) aqd (nomark _)))), ?_⟩
  walk_at "rd"
  refine ⟨_, _, .inr hp, c.at0, ?_⟩
  refine L2.gqk.mpr ?_
  rw [kqr]
  exact k
theorem hqj (g : G K mg) : FnOk P w K mg base CX0 1 g.dqo g.cqJ ["gap"] (gqY K) := by
 refine g.eql.ok hqa (fun vs H Q E h => ?_) (fun cdv A outer s H vs Q E hr h => ?_)
 ·obtain ⟨c, p, rfl, _⟩ := h; rfl
 ·obtain ⟨c, p, rfl, hp, hc, k⟩ := h
  refine ⟨_, (aqe (aqm (iqF (aqr bqF (aqz (aqi (K := K) rfl) (pv 0) aqc (fun _ _ => rfl)) aqd (nomark _)) (aqz (aqi (K := K) rfl) (pv 0) aqc (fun _ _ => rfl)) (aqz (aqi (K := K) rfl) (pv 0) aqc (fun _ _ => rfl))))), ?_⟩
  walk_at "rd"
  refine ⟨_, _, .inr hp, c.at0, ?_⟩
  refine L2.fqn.mpr ⟨_, rfl, ?_⟩
  rw [kqI]
  cases c with
  | step s => cases hc
  | part h n t => exact ite2 (fun _ => ⟨_, _, .inr hp, aqf (j := 2) rfl, k⟩) (fun z => absurd rfl z)
  | num n => exact ite2 (fun z => by cases z) (fun _ => ⟨_, _, .inr hp, aqf (j := 1) rfl, k⟩)
  | word n => exact ite2 (fun z => by cases z) (fun _ => ⟨_, _, .inr hp, aqf (j := 1) rfl, k⟩)
  | gap n => exact ite2 (fun z => by cases z) (fun _ => ⟨_, _, .inr hp, aqf (j := 1) rfl, k⟩)
  | rest n => exact ite2 (fun z => by cases z) (fun _ => ⟨_, _, .inr hp, aqf (j := 1) rfl, k⟩)
theorem bqD (g : G K mg) : FnOk P w K mg base CX0 1 g.bqk g.aq2 ["_law_script", "_law_k"] (eqi K) := by
 refine g.aqV.ok eqk (fun vs H Q E h => ?_) (fun cdv A outer s H vs Q E hr h => ?_)
 ·obtain ⟨a, ns, k, rfl, _⟩ := h; rfl
 ·obtain ⟨a, ns, i, rfl, hS, k⟩ := h
  refine ⟨_, (aqh (bqu (aqr iqy (pv 1) (aqs (aqR (K := K) rfl) rfl g.dqR PySem.boot_len (aqa (pv 0) aqb)) (nomark _))
    (aqe (aqm (aqz (aqi (K := K) rfl) (pv 0) (pv 1) (fun _ _ => rfl)))) aqt)
   (aqe (aqm aqc))), ?_⟩
  walk_at "rd"
  refine ⟨ns.map V.int, .inl hS, ite2 (fun h => ?_) (fun h => ?_)⟩
  ·rw [List.length_map] at h
   exact ⟨ns.map V.int, _, .inl hS, kqw (by omega), k⟩
  ·rw [List.length_map] at h
   rw [List.getD_eq_getElem?_getD, List.getElem?_eq_none (by omega)] at k
   exact k
theorem fqg (g : G K mg) : FnOk P w K mg base CX0 1 g.bqW g.bqq ["_law_cell", "_law_many"] (fqe K) := by
 refine g.cqz.ok aqo (fun vs H Q E h => ?_) (fun cdv A outer s H vs Q E hr h => ?_)
 ·obtain ⟨c, m, rfl, _⟩ := h; rfl
 ·obtain ⟨c, m, rfl, hm, k⟩ := h
  refine ⟨_, (aqh (aqx (i := 2) aqo.nd rfl (Or.inl rfl) aqd)
   (aqh (aqx (i := 3) aqo.nd rfl (Or.inl rfl) (aql (aqA (K := K)) aqc (aql aqL (pv 0) aqc)))
   (aqh (aqx (i := 4) aqo.nd rfl (Or.inl rfl) (aql aqL (aql aqO (pv 0) aqc) (pv 3)))
   (aqh (aqx (i := 5) aqo.nd rfl (Or.inl rfl) (aq1 aqb))
   (aqh (gqM PassesOwn.never rfl (cqB rfl g.dqQ (aqa (pv 1) aqb)) (cqg (i := 6) aqo.nd rfl (Or.inl rfl))
   (aqh (aqx (i := 7) aqo.nd rfl (Or.inl rfl) aqd)
   (aqS (gqM PassesOwn.never rfl (cqB rfl g.dqQ (aqa (pv 3) aqb)) (cqg (i := 8) aqo.nd rfl (Or.inl rfl))
   (aqh (aqx (i := 9) aqo.nd rfl (Or.inl rfl) (aql (aqA (K := K)) (aql aqO (pv 0) (aql (aqA (K := K)) aqc (aql eqG aqc (pv 8)))) (aql eqG (aql eqG aqc (pv 8)) (pv 8))))
   (aqS (bqu (aqr bqF (pv 8) (pv 4) (nomark _))
    (aqe (aqx (i := 9) aqo.nd rfl (Or.inl rfl) (aql (aqA (K := K)) (pv 9) (pv 6)))) aqt)
   (aqe (aqx (i := 7) aqo.nd rfl (Or.inl rfl) (aql (aqA (K := K)) (pv 7) (aqz (aqi (K := K) rfl) (pv 2) (aql aqL (pv 9) aqc) (fun _ _ => rfl))))))))
   (aqS (bqu (PW.pt (jqw (aqr bqF (aql aqL (aql aqO (pv 0) aqc) aqc) aqc (nomark _)) (hqZ (aqr bqF (aql aqL (pv 6) aqc) aqc (nomark _)))))
    (aqe (aqx (i := 7) aqo.nd rfl (Or.inl rfl) (aql (aqA (K := K)) (pv 7) (aqz (aqi (K := K) rfl) (pv 2) (aql aqL (aql aqO (pv 0) aqc) aqc) (fun _ _ => rfl))))) aqt)
   (aqe (jq8 (mqm (K := K) rfl PySem.F.plainAttrs_list PySem.F.slot_list_append PySem.F.type_list_append eqw (pv 5) (aqa (pv 7) aqb))))))))
   (aqe (aqm (pv 5)))))))), ?_⟩
  have eL : Str.ofString "abcdefghijklmnopqrstuvwxyz" = ⟨smaL.toArray⟩ := by unfold smaL; simp
  rw [eL]
  walk_at "rd"
  refine ⟨by decide, ⟨by decide, by decide⟩, by omega, by decide, fun p H1 n1 s1 e1 => ⟨by omega, by omega, ?_⟩⟩
  rw [Int.toNat_natCast]
  obtain ⟨sz, hsz, hs1, hs7⟩ : ∃ sz : Nat, 1 + c % 7 = (sz : Int) ∧ 1 ≤ sz ∧ sz ≤ 7 := ⟨(1 + c % 7).toNat, by omega, by omega, by omega⟩
  rw [hsz]
  obtain ⟨at_, ha, hat⟩ : ∃ a : Nat, c / 7 % (sz : Int) = (a : Int) ∧ a < sz := by
   have h1 := Int.emod_nonneg (c / 7) (show (sz : Int) ≠ 0 by omega)
   have h2 := Int.emod_lt_of_pos (c / 7) (show 0 < (sz : Int) by omega)
   exact ⟨(c / 7 % (sz : Int)).toNat, by omega, by omega⟩
  rw [ha]
  obtain ⟨X, hX⟩ : ∃ X : Int, X = c / (49 + 11 * (at_ : Int)) + 3 * (at_ : Int) * (at_ : Int) := ⟨_, rfl⟩
  refine cqX (fun i σ H' => ∃ (ns : List (List Nat)) (v6 v7 v8 v9 : Option V), σ = [some (.int c), some (.int (m : Int)), some (tV smaL), some (.int (sz : Int)), some (.int (at_ : Int)), some (.ref p), v6, v7, v8, v9] ∧ ns.length = i ∧ (∀ n ∈ ns, 0 < n.length ∧ n.length ≤ 8 ∧ n.all isSma = true) ∧ (∀ (k : Nat) (n : List Nat), ns[k]? = some n → NmAt X at_ k n) ∧ Same H H' ∧ H' p = some (.lst (ns.map tV))) ⟨[], none, none, none, none, rfl, rfl, by simp, (fun k n h => by cases h), s1, e1⟩ ?_ ?_
  ·rintro i σ H2 hi ⟨ns, v6, v7, v8, v9, rfl, hl, hns, hnm, s2, e2⟩
   walk_at "rd"
   refine ⟨fun σ H3 => H3 = H2 ∧ ∃ (l : List Nat) (v8 v9 : Option V), l.length = sz ∧ NmAt X at_ i l ∧ l.all isSma = true ∧ σ = [some (.int c), some (.int (m : Int)), some (tV smaL), some (.int (sz : Int)), some (.int (at_ : Int)), some (.ref p), some (.int (0 + (i : Int))), some (tV l), v8, v9], ?_, ?_⟩
   ·refine ⟨by omega, by omega, ?_⟩
    rw [Int.toNat_natCast]
    refine cqX (fun j σ H3 => H3 = H2 ∧ ∃ (l : List Nat) (v8 v9 : Option V), l.length = j ∧ (at_ < j → NmAt X at_ i l) ∧ l.all isSma = true ∧ σ = [some (.int c), some (.int (m : Int)), some (tV smaL), some (.int (sz : Int)), some (.int (at_ : Int)), some (.ref p), some (.int (0 + (i : Int))), some (tV l), v8, v9]) ⟨rfl, [], _, _, rfl, (fun z => absurd z (by omega)), rfl, rfl⟩ ?_ (fun σ H3 ⟨h1, l, v8, v9, h2, h3, h4, h5⟩ => ⟨h1, l, v8, v9, h2, h3 hat, h4, h5⟩)
    rintro j σ H3 hj ⟨rfl, l, v8, v9, hll, hln, hla, rfl⟩
    walk_at "rd"
    refine ⟨.inl ⟨by decide, by decide⟩, ⟨by omega, by omega⟩, .inl ⟨by decide, by decide⟩, .inr ⟨by omega, by omega⟩, ?_⟩
    refine ⟨fun σ H4 => H4 = H3 ∧ ∃ x : Int, (j = at_ → x = X + (i : Int)) ∧ σ = [some (.int c), some (.int (m : Int)), some (tV smaL), some (.int (sz : Int)), some (.int (at_ : Int)), some (.ref p), some (.int (0 + (i : Int))), some (tV l), some (.int (0 + (j : Int))), some (.int x)], ?_, ?_⟩
    ·refine ite2 (fun z => ⟨rfl, _, fun e => ?_, rfl⟩) (fun z => ⟨rfl, _, fun e => absurd (by rw [e]; omega) z, rfl⟩)
     rw [hX, e, Int.zero_add, Int.zero_add]
    rintro σ H4 ⟨rfl, x, hx, rfl⟩
    obtain ⟨d, hd, hds⟩ := jqp x
    walk_at "rd"
    refine ⟨by decide, d, by decide +kernel, hd, aqy (by omega), l ++ [d], _, _, by rw [List.length_append, List.length_singleton, hll], fun z => ?_, by rw [List.all_append, hla]; simp [hds], rfl, rfl, rfl⟩
    by_cases ej : j = at_
    ·rw [hx ej] at hd
     exact ⟨d, by rw [List.getElem?_append_right (by omega), hll, ej, Nat.sub_self]; rfl, hd⟩
    ·exact (hln (by omega)).app
   rintro σ H3 ⟨rfl, l, v8, v9, hll, hln, hla, rfl⟩
   walk_at "rd"
   refine ⟨fun σ H4 => H4 = H3 ∧ ∃ (l : List Nat), (0 < l.length ∧ l.length ≤ 8 ∧ l.all isSma = true) ∧ NmAt X at_ i l ∧ σ = [some (.int c), some (.int (m : Int)), some (tV smaL), some (.int (sz : Int)), some (.int (at_ : Int)), some (.ref p), some (.int (0 + (i : Int))), some (tV l), v8, v9], ?_, ?_⟩
   ·have stay : H3 = H3 ∧ ∃ (l' : List Nat), (0 < l'.length ∧ l'.length ≤ 8 ∧ l'.all isSma = true) ∧ NmAt X at_ i l' ∧ [some (V.int c), some (.int (m : Int)), some (tV smaL), some (.int (sz : Int)), some (.int (at_ : Int)), some (.ref p), some (.int (0 + (i : Int))), some (tV l), v8, v9] = [some (V.int c), some (.int (m : Int)), some (tV smaL), some (.int (sz : Int)), some (.int (at_ : Int)), some (.ref p), some (.int (0 + (i : Int))), some (tV l'), v8, v9] := ⟨rfl, l, ⟨by omega, by omega, hla⟩, hln, rfl⟩
    refine ⟨⟨by decide, by decide⟩, by decide, ite2 (fun _ => ⟨by decide, ite2 (fun _ => ?_) (fun _ => stay)⟩) (fun _ => stay)⟩
    obtain ⟨d, hd, hds⟩ := jqp (c / 686)
    refine ⟨⟨by decide, by decide⟩, by decide, d, by decide +kernel, hd, aqy (by omega), rfl, l ++ [d], ⟨by rw [List.length_append, List.length_singleton]; omega, by rw [List.length_append, List.length_singleton]; omega, by rw [List.all_append, hla]; simp [hds]⟩, hln.app, ?_⟩
    simp
   rintro σ H4 ⟨rfl, l2, hl2, hn2, rfl⟩
   walk_at "rd"
   refine ⟨⟨_, .of e2⟩, _, e2, by rw [List.length_map]; exact Nat.lt_of_le_of_lt (show ns.length ≤ 26 by omega) (by decide), ns ++ [l2], _, _, _, _, ⟨rfl, rfl, rfl, rfl⟩, by rw [List.length_append, List.length_singleton, hl], fun n hn => ?_, fun k n hk => ?_, eqm n1 s2, by rw [aqn, List.map_append]; rfl⟩
   rcases List.mem_append.mp hn with z | z
   ·exact hns n z
   ·rw [List.mem_singleton.mp z]; exact hl2
   ·by_cases hk2 : k < ns.length
    ·rw [List.getElem?_append_left hk2] at hk
     exact hnm k n hk
    ·rw [List.getElem?_append_right (by omega)] at hk
     have hk3 : k - ns.length = 0 := by
      cases hh : k - ns.length with
      | zero => rfl
      | succ z => rw [hh] at hk; cases hk
     rw [hk3] at hk
     cases hk
     rw [show k = i by omega]
     exact hn2
  ·rintro σ H2 ⟨ns, v6, v7, v8, v9, rfl, hl, hns, hnm, s2, e2⟩
   walk_at "rd"
   exact k ns p H2 hl hns (iqR hnm (by omega)) s2 e2
theorem fql (g : G K mg) : FnOk P w K mg base CX0 1 g.bqQ g.bqs [] dqC := by
 refine g.cqx.ok dqn (fun vs H Q E h => ?_) (fun cdv A outer s H vs Q E hr h => ?_)
 ·obtain ⟨rfl, _⟩ := h; rfl
 ·obtain ⟨rfl, k⟩ := h
  refine ⟨_, (aqh (aqx (i := 0) dqn.nd rfl (Or.inl rfl) aqd)
   (aqe (aqm (aql (hq4 (K := K) rfl) (pv 0) aqd)))), ?_⟩
  walk_at "rd"
  rw [show Str.ofString " !\"#$&'()*+,-./0123456789:;<=>?@ABCDEFGHIJKLMNOPQRSTUVWXYZ" ++ Str.ofString "[\\]^_`abcdefghijklmnopqrstuvwxyz{|}~" = ⟨SG.toArray⟩ by decide +kernel]
  exact ⟨by decide +kernel, k⟩
theorem dqK (g : G K mg) : FnOk P w K mg base CX0 1 g.aq0 g.aqT ["_law_piece_here", "_law_cell", "_law_names_here"] (dqH K) := by
 refine g.bqp.ok aqv (fun vs H Q E h => ?_) (fun cdv A outer s H vs Q E hr h => ?_)
 ·obtain ⟨c, p, q, n0, nm, rfl, _⟩ := h; rfl
 ·obtain ⟨c, p, q, n0, nm, rfl, hp, hq, h0, hn, k⟩ := h
  refine ⟨_, (aqS (aqx (i := 3) aqv.nd rfl (Or.inl rfl) (aqz (aqi (K := K) rfl) (aq1 (aqa aqd (aqa aqd (aqa aqd (aqa aqd (aqa eqP (aqa aqc (aqa (aql (aqA (K := K)) (aqz (aqi (K := K) rfl) (pv 2) aqc (fun _ _ => rfl)) aqd) (aqa aqd (aqa (aqg (aqa aqd aqb)) aqb)))))))))) (aql aqL (aql aqO (pv 1) aqc) aqc) (fun _ _ => rfl)))
   (aqS (aqx (i := 4) aqv.nd rfl (Or.inl rfl) (aqz (aqi (K := K) rfl) (aq1 (aqa aqd (aqa aqd (aqa aqd (aqa eqP (aqa aqc (aqa aqd (aqa (aq1 (aqa aqd aqb)) (aqa aqd aqb))))))))) (aql aqL (aql aqO (pv 1) aqc) aqc) (fun _ _ => rfl)))
   (aqS (aqx (i := 5) aqv.nd rfl (Or.inl rfl) (aq1 (aqa (aqg (aqa aqd (aqa (pv 4) aqb))) (aqa (aqg (aqa aqd (aqa aqd (aqa (aqz (aqi (K := K) rfl) (pv 2) aqc (fun _ _ => rfl)) (aqa aqd aqb))))) (aqa (aqg (aqa aqd (aqa aqd (aqa (pv 3) (aqa aqd aqb))))) (aqa (aqg (aqa aqd (aqa (pv 4) (aqa (aqz (aqi (K := K) rfl) (pv 2) aqc (fun _ _ => rfl)) (aqa aqc aqb))))) aqb))))))
   (aqS (aqx (i := 5) aqv.nd rfl (Or.inl rfl) (aql (aqA (K := K)) (pv 5) (aq1 (aqa (aqg (aqa aqd (aqa (pv 3) aqb))) (aqa (aqg (aqa aqd (aqa (pv 3) aqb))) (aqa (aqg (aqa aqd (aqa (pv 3) aqb))) (aqa (aqg (aqa aqd (aqa (aqz (aqi (K := K) rfl) (pv 2) aqc (fun _ _ => rfl)) aqb))) (aqa (aqg (aqa aqd aqb)) (aqa (cqC (eqZ (K := K) rfl) rfl g.hqk hqv (aqa (pv 0) aqb)) aqb)))))))))
   (aqS (aqx (i := 5) aqv.nd rfl (Or.inl rfl) (aql (aqA (K := K)) (pv 5) (aq1 (aqa (aqg (aqa aqd (aqa (aqz (aqi (K := K) rfl) (pv 2) aqc (fun _ _ => rfl)) (aqa aqd aqb)))) (aqa (aql (aqA (K := K)) (pv 0) (aqg (aqa aqc aqb))) (aqa eqP (aqa aqd (aqa (aqg (aqa aqc (aqa (aqz (aqi (K := K) rfl) (pv 2) aqc (fun _ _ => rfl)) aqb))) (aqa (aqg (aqa aqd (aqa aqd (aqa (aqz (aqi (K := K) rfl) (pv 2) aqc (fun _ _ => rfl)) aqb)))) aqb)))))))))
   (aqe (aqm (aqz (aqi (K := K) rfl) (pv 5) (aql aqL (pv 1) aqc) (fun _ _ => rfl))))))))), ?_⟩
  obtain ⟨nm1, tx1, hi1, hi2, ha1, ha2, ha3⟩ := fqu c n0
  obtain ⟨_, j1⟩ := bq1 (c / 16) (m := 9) (by decide)
  obtain ⟨_, j2⟩ := bq1 (c / 16) (m := 8) (by decide)
  obtain ⟨_, j3⟩ := bq1 c (m := 16) (by decide)
  have b1 : Str.ofString " " = ⟨[32].toArray⟩ := by decide +kernel
  rw [b1]
  walk_at "rd"
  have hnl := hn.1.2
  refine ⟨fun σ H1 => Same H H1 ∧ ∃ v, σ = [some (.ref p), some (.int c), some (.ref q), some v, none, none] ∧ Is H1 nm1 v, ?_, ?_⟩
  ·refine ⟨_, _, .inl (.of hq), aqf (j := 0) (by rw [List.getElem?_map, h0]; rfl), iqh.mpr ⟨aqy (by rw [fqN]; show _ + 1 ≤ _; omega), ?_⟩⟩
   rw [show (⟨n0.toArray⟩ : Str) ++ ⟨#[32]⟩ = ⟨(n0 ++ [32]).toArray⟩ from hqR n0 [32]]
   refine ⟨by decide, fun p1 H1 m1 s1 e1 => ⟨by decide, fun p2 H2 m2 s2 e2 => ⟨⟨by decide, by decide⟩, by decide, ?_⟩⟩⟩
   have all : IsAll H2 (nameL n0) [V.str ⟨#[]⟩, V.str (Str.ofString "abcdefghi"), V.str (Str.ofString "aB"), V.str (Str.ofString "a1"), V.non, V.int 7, tV (n0 ++ [32]), V.str (Str.ofString "A"), V.ref p1] := .cons (.str _) (.cons (.str _) (.cons (.str _) (.cons (.str _) (.cons .non (.cons (.int _) (.cons (.str _) (.cons (.str _) (.cons (.tup (s2 _ _ e1) (.cons (.str _) .nil)) .nil))))))))
   obtain ⟨v, g1, g2⟩ := all.at' _ _ ha1
   exact ⟨_, v, .inl (.of e2), by rw [show c / 16 % 9 = _ from j1]; exact aqf g1, s1.trans s2, v, rfl, g2⟩
  rintro σ H1 ⟨s1, nv, rfl, hnv⟩
  walk_at "rd"
  refine ⟨fun σ H2 => Same H H2 ∧ ∃ v, σ = [some (.ref p), some (.int c), some (.ref q), some nv, some v, none] ∧ Is H2 nm1 nv ∧ Is H2 tx1 v, ?_, ?_⟩
  ·refine ⟨by decide, fun p1 H2 m1 s2 e1 => ⟨by decide, fun p2 H3 m2 s3 e2 => ⟨⟨by decide, by decide⟩, by decide, ?_⟩⟩⟩
   have all : IsAll H3 textL [V.str ⟨#[]⟩, V.str (Str.ofString "."), V.str (Str.ofString ".."), V.non, V.int 5, V.str (Str.ofString "a\nb"), V.ref p1, V.str (Str.ofString "\t")] := .cons (.str _) (.cons (.str _) (.cons (.str _) (.cons .non (.cons (.int _) (.cons (.str _) (.cons (.lst (s3 _ _ e1) (.cons (.str _) .nil)) (.cons (.str _) .nil)))))))
   obtain ⟨v, g1, g2⟩ := all.at' _ _ ha2
   exact ⟨_, v, .inl (.of e2), by rw [show c / 16 % 8 = _ from j2]; exact aqf g1, s1.trans (s2.trans s3), v, rfl, hnv.mono (s2.trans s3), g2⟩
  rintro σ H2 ⟨s2, tv, rfl, hnv, htv⟩
  walk_at "rd"
  have hz : (nm.map tV)[0]? = some (tV n0) := by rw [List.getElem?_map, h0]; rfl
  refine ⟨fun σ G => Same H G ∧ ∃ l ys, σ = [some (.ref p), some (.int c), some (.ref q), some nv, some tv, some (.ref l)] ∧ Is G nm1 nv ∧ Is G tx1 tv ∧ G l = some (.lst ys) ∧ IsAll G ((oddPL nm1 tx1 n0).take 4) ys, ?_, ?_⟩
  ·refine ⟨by decide, fun p1 G1 m1 t1 e1 => ⟨_, _, .inl (.of ((s2.trans t1) _ _ hq)), aqf (j := 0) hz, by decide, fun p2 G2 m2 t2 e2 => ⟨by decide, fun p3 G3 m3 t3 e3 => ⟨_, _, .inl (.of (((s2.trans t1).trans (t2.trans t3)) _ _ hq)), aqf (j := 0) hz, by decide, fun p4 G4 m4 t4 e4 => ⟨by decide, fun p5 G5 m5 t5 e5 => ?_⟩⟩⟩⟩⟩
   have u4 := t4.trans t5
   have u3 := t3.trans u4
   have u2 := t2.trans u3
   have u1 := t1.trans u2
   exact ⟨s2.trans u1, p5, _, rfl, hnv.mono u1, htv.mono u1, e5, .cons (.tup (u2 _ _ e1) (.cons (.str _) (.cons (htv.mono u1) .nil))) (.cons (.tup (u3 _ _ e2) (.cons (.str _) (.cons (.str _) (.cons (.str _) (.cons (.str _) .nil))))) (.cons (.tup (u4 _ _ e3) (.cons (.str _) (.cons (.str _) (.cons (hnv.mono u1) (.cons (.str _) .nil))))) (.cons (.tup (t5 _ _ e4) (.cons (.str _) (.cons (htv.mono u1) (.cons (.str _) (.cons (.int _) .nil))))) .nil)))⟩
  clear hnv htv
  rintro σ H3 ⟨s3, l1, ys1, rfl, hnv, htv, hl1, hA1⟩
  walk_at "rd"
  refine ⟨fun σ G => Same H G ∧ ∃ l ys, σ = [some (.ref p), some (.int c), some (.ref q), some nv, some tv, some (.ref l)] ∧ G l = some (.lst ys) ∧ IsAll G ((oddPL nm1 tx1 n0).take 10) ys, ?_, ?_⟩
  ·refine ⟨by decide, fun p1 G1 m1 t1 e1 => ⟨by decide, fun p2 G2 m2 t2 e2 => ⟨by decide, fun p3 G3 m3 t3 e3 => ⟨_, _, .inl (.of (((s3.trans t1).trans (t2.trans t3)) _ _ hq)), aqf (j := 0) hz, by decide, fun p4 G4 m4 t4 e4 => ⟨by decide, fun p5 G5 m5 t5 e5 => ?_⟩⟩⟩⟩⟩
   have w5 := t1.trans (t2.trans (t3.trans (t4.trans t5)))
   refine ⟨_, .inr (.of ((s3.trans w5) _ _ hp)), fun p6 G6 m6 t6 e6 => ⟨by decide, fun p7 G7 m7 t7 e7 => ?_⟩⟩
   have l4 := hA1.length
   have u6 := t6.trans t7
   have u5 := t5.trans u6
   have u4 := t4.trans u5
   have u3 := t3.trans u4
   have u2 := t2.trans u3
   have u1 := t1.trans u2
   refine .inl ⟨_, _, u1 _ _ hl1, e7, aqy (by rw [← l4]; show 4 + 6 ≤ _; decide), fun p8 G8 m8 t8 e8 => ⟨s3.trans (u1.trans t8), p8, _, rfl, e8, ?_⟩⟩
   have B : IsAll G7 ((oddPL nm1 tx1 n0).drop 4 |>.take 6) [V.ref p1, V.ref p2, V.ref p3, V.ref p4, V.ref p5, V.ref p6] := .cons (.tup (u2 _ _ e1) (.cons (.str _) (.cons (hnv.mono u1) .nil))) (.cons (.tup (u3 _ _ e2) (.cons (.str _) (.cons (hnv.mono u1) .nil))) (.cons (.tup (u4 _ _ e3) (.cons (.str _) (.cons (hnv.mono u1) .nil))) (.cons (.tup (u5 _ _ e4) (.cons (.str _) (.cons (.str _) .nil))) (.cons (.tup (u6 _ _ e5) (.cons (.str _) .nil)) (.cons (.lst (t7 _ _ e6) (.cons (.str _) (.cons (.str _) .nil))) .nil)))))
   exact ((hA1.mono u1).append B).mono t8
  rintro σ H4 ⟨s4, l2, ys2, rfl, hl2, hA2⟩
  walk_at "rd"
  refine ⟨fun σ G => Same H G ∧ ∃ l ys, σ = [some (.ref p), some (.int c), some (.ref q), some nv, some tv, some (.ref l)] ∧ G l = some (.lst ys) ∧ IsAll G (oddPL nm1 tx1 n0) ys, ?_, ?_⟩
  ·refine ⟨_, _, .inl (.of (s4 _ _ hq)), aqf (j := 0) hz, by decide, fun p1 G1 m1 t1 e1 => ⟨by decide, fun p2 G2 m2 t2 e2 => ?_⟩⟩
   refine .inr ⟨_, _, (s4.trans (t1.trans t2)) _ _ hp, e2, (show 2 + 1 ≤ sizeLine by decide), fun p3 G3 t3 e3 => ⟨_, _, .inl (.of ((s4.trans (t1.trans (t2.trans t3))) _ _ hq)), aqf (j := 0) hz, by decide, fun p4 G4 m4 t4 e4 => ⟨_, _, .inl (.of ((s4.trans (t1.trans (t2.trans (t3.trans t4)))) _ _ hq)), aqf (j := 0) hz, by decide, fun p5 G5 m5 t5 e5 => ⟨by decide, fun p6 G6 m6 t6 e6 => ?_⟩⟩⟩⟩
   have l4 := hA2.length
   have u5 := t5.trans t6
   have u4 := t4.trans u5
   have u3 := t3.trans u4
   have u2 := t2.trans u3
   have u1 := t1.trans u2
   refine .inl ⟨_, _, u1 _ _ hl2, e6, aqy (by rw [← l4]; show 10 + 6 ≤ _; decide), fun p8 G8 m8 t8 e8 => ⟨s4.trans (u1.trans t8), p8, _, rfl, e8, ?_⟩⟩
   have B : IsAll G6 ((oddPL nm1 tx1 n0).drop 10) [V.ref p1, V.ref p3, V.non, V.str (Str.ofString "gap"), V.ref p4, V.ref p5] := .cons (.tup (u2 _ _ e1) (.cons (.str _) (.cons (.str _) (.cons (.str _) .nil)))) (.cons (.tup (u4 _ _ e3) (.cons (.str _) (.cons (.str _) (.cons (.int _) .nil)))) (.cons .non (.cons (.str _) (.cons (.tup (u5 _ _ e4) (.cons (.int _) (.cons (.str _) .nil))) (.cons (.tup (t6 _ _ e5) (.cons (.str _) (.cons (.str _) (.cons (.str _) .nil)))) .nil)))))
   exact ((hA2.mono u1).append B).mono t8
  rintro σ H5 ⟨s5, l3, ys3, rfl, hl3, hA3⟩
  walk_at "rd"
  obtain ⟨v, g1, g2⟩ := hA3.at' _ _ ha3
  exact ⟨by decide, _, v, .inl (.of hl3), by rw [show c % 16 = _ from j3]; exact aqf g1, k v _ s5 g2⟩
theorem dqS (g : G K mg) : FnOk P w K mg base CX0 2 g.dqj g.cqM ["thing"] gqT := by
 refine g.cqG.ok gq6 (fun vs H Q E h => ?_) (fun cdv A outer s H vs Q E hr h => ?_)
 ·obtain ⟨d, v, rfl, _⟩ := h; rfl
 ·obtain ⟨d, v, rfl, hv, hs, k⟩ := h
  refine ⟨_, (aqe (aqm (bqC (aqs bq6 rfl g.aqB aqw (aqa (pv 0) (aqa (dqb (v := .ty "str") rfl g.iq5 hqs rfl) aqb))) (bq7 (aqk (eqX g) (hr.mono (by decide)) rfl g.eqf g.dqG.kp g.eqo .nil pass0 (aqa (pv 0) (aqa (bqn (v := kq5) rfl g.hqw ⟨_, rfl⟩) aqb))))))), ?_⟩
  cases hv with
  | lst hp r => walk_at "rd"; simp only [cqP hp]; walk_at "rd"; exact k H (Same.refl _)
  | tup hp r => walk_at "rd"; simp only [cqO hp]; walk_at "rd"; exact k H (Same.refl _)
  | str x =>
   walk_at "rd"
   refine ⟨x, _, rfl, cqu hs, fun H' sm => ?_⟩
   simp only [lq6]
   exact k H' sm
  | _ => walk_at "rd"; exact k H (Same.refl _)
theorem eqQ (g : G K mg) : FnOk P w K mg base CX0 2 g.dqw g.cqS ["thing"] gqZ := by
 refine g.dqy.ok gq0 (fun vs H Q E h => ?_) (fun cdv A outer s H vs Q E hr h => ?_)
 ·obtain ⟨d, v, rfl, _⟩ := h; rfl
 ·obtain ⟨d, v, rfl, hv, hs, k⟩ := h
  refine ⟨_, (aqe (aqm (bqC (aqs bq6 rfl g.aqB aqw (aqa (pv 0) (aqa (dqb (v := .ty "str") rfl g.iq5 hqs rfl) aqb))) (bqC (iqA kq9 kq9 aqc (aqs (aqR (K := K) rfl) rfl g.dqR PySem.boot_len (aqa (pv 0) aqb)) (bqn (v := eqM) rfl g.cq2 ⟨_, rfl⟩)) (bq7 (aqk (eqX g) (hr.mono (by decide)) rfl g.eqf g.dqG.kp g.eqo .nil pass0 (aqa (pv 0) (aqa (bqn (v := cqA) rfl g.cqs ⟨_, rfl⟩) aqb)))))))), ?_⟩
  have eF : cqA = .str ⟨smaL.toArray⟩ := by
   show V.str (Str.ofString _) = _
   unfold smaL; simp
  rw [eF]
  walk_at "rd"
  cases hv with
  | str x =>
   refine ⟨_, L2.cqZ, ite2 (fun _ => ?_) (fun z => absurd (by decide) z)⟩
   have hl := cqu hs
   walk_at "rd"
   have out : (¬ (1 ≤ x.length ∧ x.length ≤ 8)) → Q (.bl false) H := fun h => by
    have : nameD (.str x) = false := by
     show (decide (1 ≤ x.length ∧ x.length ≤ 8) && x.cps.toList.all isSma) = false
     rw [decide_eq_false h, Bool.false_and]
    rw [← this]
    exact k H (Same.refl _)
   refine ⟨aqy hl, ite2 (fun h1 => ite2 (fun h2 => ?_) (fun h2 => out (by omega))) (fun h1 => out (by omega))⟩
   refine ⟨_, _, rfl, hl, fun H' sm => ?_⟩
   have e : nameD (.str x) = (x.cps.toList.all fun c => decide (c ∈ smaL)) := by
    show (decide (1 ≤ x.length ∧ x.length ≤ 8) && x.cps.toList.all isSma) = _
    rw [decide_eq_true (show 1 ≤ x.length ∧ x.length ≤ 8 by omega), jqY]
    rfl
   have := k H' sm
   rw [e] at this
   simpa using this
  | lst hp r => exact ⟨_, L2.cqP hp, ite2 (fun z => absurd z (by decide)) (fun _ => k H (Same.refl _))⟩
  | tup hp r => exact ⟨_, L2.cqO hp, ite2 (fun z => absurd z (by decide)) (fun _ => k H (Same.refl _))⟩
  | non => exact ⟨_, L2.cqN, ite2 (fun z => absurd z (by decide)) (fun _ => k H (Same.refl _))⟩
  | bl b => exact ⟨_, L2.dqP, ite2 (fun z => absurd z (by decide)) (fun _ => k H (Same.refl _))⟩
  | int i => exact ⟨_, L2.cqL, ite2 (fun z => absurd z (by decide)) (fun _ => k H (Same.refl _))⟩
theorem gqi (g : G K mg) : FnOk P w K mg base CX0 2 g.cqR g.cql ["pieces"] (fq9 K) := by
 refine g.dqT.ok gqd (fun vs H Q E h => ?_) (fun cdv A outer s H vs Q E hr h => ?_)
 ·obtain ⟨cs, xs, q, rfl, _⟩ := h; rfl
 ·obtain ⟨cs, xs, q, rfl, hq, hx, hn, k⟩ := h
  refine ⟨_, (aqe (aqm (eqn (fx := []) (fr := []) rfl rfl (by decide +kernel) rfl (by decide +kernel) rfl (by decide +kernel) rfl .nil rfl (gqh (K := K) rfl (pv 0)) (fun _ _ _ => (lqj (eqq (aqk (hqr g) (hr.mono (by decide)) rfl g.gqw g.fqt.kp g.gqN .nil pass0 (aqa (pv 0) aqb))))) (fun _ _ _ => (aqk (hqj g) (hr.mono (by decide)) rfl g.fqJ g.eql.kp g.fqQ .nil pass0 (aqa (pv 0) aqb)))))), ?_⟩
  walk_at "rd"
  have hl := hx.length
  refine ⟨⟨_, hq⟩, fun p n => ?_⟩
  refine gqU (fun i => (cs[i]?.map fun c => !c.isStep).getD false) (fun i => (cs[i]?.map fun c => tV c.name).getD .non) hq (aqy (by omega)) n (fun i x hi H1 R s1 hR => ?_) (fun i x hi ht H1 T s1 hT => ?_) (fun H1 s1 hp1 => ?_)
  ·obtain ⟨c, q, hc, rfl, hv⟩ := hx.get hi
   walk_at "rd"
   have := hR H1 (Same.refl _)
   rw [hc] at this
   exact ⟨c, q, rfl, s1.tup hv, _, rfl, this⟩
  ·obtain ⟨c, q, hc, rfl, hv⟩ := hx.get hi
   rw [hc] at ht
   walk_at "rd"
   have := hT H1 (Same.refl _)
   rw [hc] at this
   exact ⟨c, q, rfl, s1.tup hv, by simpa using ht, this⟩
  ·refine k p H1 s1 ?_
   rw [hp1, hl, dq1 (fun c : Pc => !c.isStep) (fun c : Pc => tV c.name) .non cs]
   unfold gapsM
   rw [List.map_map]
   rfl
theorem cqF (g : G K mg) : FnOk P w K mg base CX0 2 g.cqc g.bqN ["_law_cell"] (fqP K) := by
 refine g.bqG.ok bqm (fun vs H Q E h => ?_) (fun cdv A outer s H vs Q E hr h => ?_)
 ·obtain ⟨c, rfl, _⟩ := h; rfl
 ·obtain ⟨c, rfl, k⟩ := h
  refine ⟨_, (aqh (aqx (i := 1) bqm.nd rfl (Or.inl rfl) (aqz (aqi (K := K) rfl) (aq1 (aqa aqd (aqa aqd (aqa aqd (aqa aqd (aqa (iqH (fql g) (hr.mono (by decide)) rfl g.dq4 g.cqx.kp g.dqY .nil pass0) (aqa aqd aqb))))))) (aql aqL (pv 0) aqc) (fun _ _ => rfl)))
   (aqh (aqx (i := 2) bqm.nd rfl (Or.inl rfl) aqd)
   (aqh (gqM PassesOwn.never rfl (cqB rfl g.dqQ (aqa (aql aqL (aql aqO (pv 0) aqc) aqc) aqb)) (cqg (i := 3) bqm.nd rfl (Or.inl rfl))
   (aqe (aqx (i := 2) bqm.nd rfl (Or.inl rfl) (aql (aqA (K := K)) (pv 2) (aqz (aqi (K := K) rfl) (pv 1) (aql aqL (aql aqO (pv 0) (aql (aqA (K := K)) aqc (aql eqG (aql eqG aqc (pv 3)) (pv 3)))) (aqs (aqR (K := K) rfl) rfl g.dqR PySem.boot_len (aqa (pv 1) aqb))) (fun _ _ => rfl))))))
   (aqe (aqm (pv 2)))))), ?_⟩
  walk_at "rd"
  refine ⟨by decide, fun p H1 n1 s1 e1 => ⟨by decide, ?_⟩⟩
  obtain ⟨v, hv, hat⟩ := jqW [V.str (Str.ofString "ab"), V.str (Str.ofString "a1"), V.str (Str.ofString "0123456789"), V.str (Str.ofString "a."), V.str { cps := SG.toArray }, V.str (Str.ofString "./{}~ab")] c 6 (by decide) (by decide)
  have hpool : ∃ l : List Nat, v = tV l ∧ 0 < l.length ∧ l.length ≤ 94 ∧ ∀ c ∈ l, isSg c = true := by
   simp only [List.mem_cons, List.not_mem_nil, or_false] at hv
   rcases hv with rfl | rfl | rfl | rfl | rfl | rfl
   ·exact ⟨[97, 98], congrArg V.str (by decide +kernel), by decide, by decide, by decide⟩
   ·exact ⟨[97, 49], congrArg V.str (by decide +kernel), by decide, by decide, by decide⟩
   ·exact ⟨[48, 49, 50, 51, 52, 53, 54, 55, 56, 57], congrArg V.str (by decide +kernel), by decide, by decide, by decide⟩
   ·exact ⟨[97, 46], congrArg V.str (by decide +kernel), by decide, by decide, by decide⟩
   ·exact ⟨SG, rfl, by rw [jqx]; decide, by rw [jqx]; decide, fun c hc => jqz.mp hc⟩
   ·exact ⟨[46, 47, 123, 125, 126, 97, 98], congrArg V.str (by decide +kernel), by decide, by decide, by decide⟩
  obtain ⟨pl, rfl, hp0, hp94, hpl⟩ := hpool
  refine ⟨_, _, .inl (.of e1), hat, ⟨by decide, by decide⟩, by decide, by omega, by omega, ?_⟩
  refine cqX (fun j σ H2 => H2 = H1 ∧ ∃ (w : List Nat) (v3 : Option V), σ = [some (.int c), some (tV pl), some (tV w), v3] ∧ w.length = j ∧ ∀ c ∈ w, isSg c = true) ⟨rfl, [], none, rfl, rfl, by simp⟩ ?_ ?_
  ·rintro j σ H2 hj ⟨rfl, w, v3, rfl, hwl, hw⟩
   have hj5 : j = 0 ∨ j = 1 ∨ j = 2 ∨ j = 3 ∨ j = 4 := by omega
   have hb : 0 < 30 + 17 * (0 + (j : Int)) * (0 + (j : Int)) ∧ 30 + 17 * (0 + (j : Int)) * (0 + (j : Int)) < 1073741824 := by
    rcases hj5 with rfl | rfl | rfl | rfl | rfl <;> decide
   obtain ⟨d, hd, hda⟩ := gqq pl (c / (30 + 17 * (0 + (j : Int)) * (0 + (j : Int)))) (pl.length : Int) (by omega) (by omega)
   walk_at "rd"
   refine ⟨.inl ⟨by decide, by decide⟩, .inr ⟨by omega, by omega⟩, hb, aqy (by omega), by omega, d, aqy (by omega), hda, aqy (by omega), w ++ [d], _, ⟨by simp, rfl⟩, by rw [List.length_append, List.length_singleton, hwl], fun e he => ?_⟩
   rcases List.mem_append.mp he with z | z
   ·exact hw e z
   ·rw [List.mem_singleton.mp z]; exact hpl d hd
  ·rintro σ H2 ⟨rfl, w, v3, rfl, hwl, hw⟩
   walk_at "rd"
   exact k w H2 (by omega) hw s1
theorem cqy (g : G K mg) : FnOk P w K mg base CX0 2 g.bqd g.aq3 ["_law_pattern_here", "_law_way", "_law_cell", "_law_names_here"] (bqB K) := by
 refine g.bqi.ok aqQ (fun vs H Q E h => ?_) (fun cdv A outer s H vs Q E hr h => ?_)
 ·obtain ⟨ps, e, w, c, p, q, r, xs, n0, n1, nm, rfl, _⟩ := h; rfl
 ·obtain ⟨ps, e, w, c, p, q, r, xs, n0, n1, nm, rfl, hp, hq, hP, hl, hr', h0, h1, hn0, hn1, k⟩ := h
  refine ⟨_, (aqS (jqr (pv 0) (kqZ (n := 2) (K := K) rfl rfl (eqe (cqg (i := 4) aqQ.nd rfl (Or.inl rfl)) (eqe (cqg (i := 5) aqQ.nd rfl (Or.inl rfl)) hq7))))
   (aqh (aqx (i := 6) aqQ.nd rfl (Or.inl rfl) (aql aqL (pv 2) (aql (aqA (K := K)) (aqs (aqR (K := K) rfl) rfl g.dqR PySem.boot_len (aqa (pv 4) aqb)) aqc)))
   (aqS (aqx (i := 7) aqQ.nd rfl (Or.inl rfl) (aqk (dqK g) (hr.mono (by decide)) rfl g.cqn g.bqp.kp g.cqp .nil pass0 (aqa (aqg (aqa aqd (aqa (aqz (aqi (K := K) rfl) (pv 3) aqc (fun _ _ => rfl)) aqb))) (aqa (aql aqO (pv 2) aqc) (aqa (pv 3) aqb)))))
   (aqh (bqu (aqr iqy (pv 1) aqc (nomark _))
    (aqe (aqm (aqg (aqa (aql (aqA (K := K)) (aql (aqA (K := K)) (dqt fqv (pv 4) fqh (dqI (pv 6))) (aqg (aqa (pv 7) aqb))) (dqt fqv (pv 4) (dqI (aql (aqA (K := K)) (pv 6) aqc)) fqh)) (aqa (pv 5) aqb))))) aqt)
   (aqh (bqu (aqr bqF (pv 1) aqc (nomark _))
    (aqe (aqm (aq1 (aqa (pv 4) (aqa (pv 5) aqb))))) aqt)
   (aqh (bqu (aqr bqF (pv 1) aqc (nomark _))
    (aqe (aqm (aqg (aqa (cqC (eqZ (K := K) rfl) rfl g.hqk hqv (aqa (pv 4) aqb)) (aqa (pv 5) aqb))))) aqt)
   (aqh (bqu (aqr bqF (pv 1) aqc (nomark _))
    (aqe (aqm (aqg (aqa (pv 4) (aqa (cqC hqM rfl g.lqR mqb (aqa (pv 5) aqb)) aqb))))) aqt)
   (aqh (bqu (aqr bqF (pv 1) aqc (nomark _))
    (aqe (aqm (aqg (aqa (pv 4) (aqa (pv 5) (aqa eqP aqb)))))) aqt)
   (aqh (bqu (aqr bqF (pv 1) aqc (nomark _))
    (aqe (aqm (aqg (aqa (aqg aqb) (aqa fqj aqb))))) aqt)
   (aqh (bqu (aqr bqF (pv 1) aqc (nomark _))
    (aqe (aqm (aqg (aqa (cqC (eqg (K := K) rfl) rfl g.dqL dqi (aqa (eqn (fx := []) (fr := []) rfl rfl (by decide +kernel) rfl (by decide +kernel) rfl (by decide +kernel) rfl .nil rfl (cqB rfl g.dqQ (aqa (aql (aqA (K := K)) aqc (aql aqL (pv 2) aqc)) aqb)) (fun _ _ _ => fqE) (fun _ _ _ => (aqg (aqa aqd (aqa aqd aqb))))) aqb)) (aqa (pv 5) aqb))))) aqt)
   (aqh (bqu (aqr bqF (pv 1) aqc (nomark _))
    (aqe (aqm (aqg (aqa (aql (aqA (K := K)) (aql (aqA (K := K)) (aqg (aqa (aqg (aqa aqd (aqa (aqz (aqi (K := K) rfl) (pv 3) aqc (fun _ _ => rfl)) aqb))) aqb)) (dqt fqv (pv 4) fqh (dqI aqc))) (aqg (aqa (aqg (aqa aqd (aqa (aqz (aqi (K := K) rfl) (pv 3) aqc (fun _ _ => rfl)) aqb))) aqb))) (aqa (pv 5) aqb))))) aqt)
   (aqh (bqu (aqr bqF (pv 1) aqc (nomark _))
    (aqe (aqm (aqg (aqa (aqg (aqa (aqg (aqa aqd (aqa (aqz (aqi (K := K) rfl) (pv 3) aqc (fun _ _ => rfl)) aqb))) (aqa (aqg (aqa aqd (aqa aqd aqb))) aqb))) (aqa (pv 5) aqb))))) aqt)
   (aqh (bqu (aqr bqF (pv 1) aqc (nomark _))
    (aqe (aqm (aqg (aqa (pv 4) aqb)))) aqt)
   (aqe (aqm (aqz (aqi (K := K) rfl) (aq1 (aqa eqP (aqa fqj (aqa aqd (aqa iqL (aqa aqc (aqa (aqg aqb) (aqa (aqg (aqa aqd (aqa aqd aqb))) (aqa (aqg (aqa (aqg aqb) (aqa eqP aqb))) (aqa (aq1 (aqa (aqg (aqa (aqg aqb) (aqa fqj aqb))) aqb)) aqb)))))))))) (aql aqL (pv 2) aqc) (fun _ _ => rfl))))))))))))))))), ?_⟩
  walk_at "rd"
  have hxl := hP.length
  have hz0 : (nm.map tV)[0]? = some (tV n0) := by rw [List.getElem?_map, h0]; rfl
  have hz1 : (nm.map tV)[1]? = some (tV n1) := by rw [List.getElem?_map, h1]; rfl
  refine ⟨fun σ H1 => H1 = H ∧ σ = [some (.ref p), some (.int w), some (.int c), some (.ref r), some (.ref q), some (.bl e), none, none], ⟨p, _, rfl, .of hp, rfl, _, _, rfl, _, _, rfl, rfl, rfl, rfl⟩, ?_⟩
  rintro σ H1 ⟨rfl, rfl⟩
  walk_at "rd"
  obtain ⟨j1, j2⟩ := bq1 c (m := ps.length + 1) (by omega)
  refine ⟨_, .inr (.of hq), by omega, ?_⟩
  rw [hxl, show c % ((ps.length : Int) + 1) = (oddI c (ps.length + 1 : Nat) : Int) from j2]
  refine ⟨fun σ H2 => Same H1 H2 ∧ ∃ ov, σ = [some (.ref p), some (.int w), some (.int c), some (.ref r), some (.ref q), some (.bl e), some (.int (oddI c (ps.length + 1 : Nat) : Int)), some ov] ∧ Is H2 (oddPc (c / 13) n0) ov, ?_, ?_⟩
  ·refine ⟨_, _, .inl (.of hr'), aqf (j := 0) hz0, by decide, fun p1 G1 m1 t1 e1 => ⟨⟨by decide, by decide⟩, ?_⟩⟩
   exact ⟨_, p1, r, n0, nm, rfl, e1, t1 _ _ hr', h0, hn0, fun v G2 t2 hv => ⟨t1.trans t2, v, rfl, hv⟩⟩
  rintro σ H2 ⟨s2, ov, rfl, hov⟩
  have hpp : ∀ {G : Hp}, Same H1 G → IsAll G (ppD ps) xs := fun s => (hP.mono s.toT).isT.is
  walk_at "rd"
  have ks : ∀ (d : PyData), spoD ps e w c n0 n1 = d → ∀ (v : V) (G : Hp), Same H1 G → Is G d v → Q v G := fun d ed v G s hv => k v G s (.inl (by rw [ed]; exact hv))
  generalize hj : oddI c (ps.length + 1 : Nat) = j at j1 j2 ⊢
  refine ite2 (fun h => ?_) (fun hA => ?_)
  ·have eS : spoD ps e w c n0 n1 = .tuple [.tuple (((ppD ps).take j ++ [oddPc (c / 13) n0]) ++ (ppD ps).drop (j + 1)), .bool e] := by
    unfold spoD
    rw [if_pos h, hj]
   refine ⟨xs, s2 _ _ hq, fun p1 G1 t1 e1 => ⟨by decide, fun p2 G2 m2 t2 e2 => ?_⟩⟩
   rw [gqP] at e1
   refine .inr ⟨_, _, t2 _ _ e1, e2, aqy (by rw [List.length_take]; show _ + 1 ≤ _; omega), fun p3 G3 t3 e3 => ⟨xs, (s2.trans (t1.trans (t2.trans t3))) _ _ hq, fun p4 G4 t4 e4 => ?_⟩⟩
   rw [show ((j : Int) + 1) = ((j + 1 : Nat) : Int) by omega, iqq] at e4
   refine .inr ⟨_, _, t4 _ _ e3, e4, aqy (by rw [List.length_append, List.length_take, List.length_drop]; show _ + 1 + _ ≤ _; omega), fun p5 G5 t5 e5 => ⟨by decide, fun p6 G6 m6 t6 e6 => ?_⟩⟩
   have u := t1.trans (t2.trans (t3.trans (t4.trans (t5.trans t6))))
   exact ks _ eS _ _ (s2.trans u) (.tup e6 (.cons (.tup (t6 _ _ e5) ((((hpp (s2.trans u)).take j).append (.cons (hov.mono u) .nil)).append ((hpp (s2.trans u)).drop (j + 1)))) (.cons (.bl _) .nil)))
  have n12 : ¬ w < 12 := hA
  refine ite2 (fun h => ?_) (fun hB => ?_)
  ·have eS : spoD ps e w c n0 n1 = .list [.tuple (ppD ps), .bool e] := by
    unfold spoD
    rw [if_neg hA, if_pos h]
   exact ⟨by decide, fun p1 G1 m1 t1 e1 => ks _ eS _ _ (s2.trans t1) (.lst e1 (.cons (.tup ((s2.trans t1) _ _ hq) (hpp (s2.trans t1))) (.cons (.bl _) .nil)))⟩
  refine ite2 (fun h => ?_) (fun hC => ?_)
  ·have eS : spoD ps e w c n0 n1 = .tuple [.list (ppD ps), .bool e] := by
    unfold spoD
    rw [if_neg hA, if_neg hB, if_pos h]
   exact ⟨xs, .inr (.of (s2 _ _ hq)), fun p1 G1 m1 t1 e1 => ⟨by decide, fun p2 G2 m2 t2 e2 => ks _ eS _ _ (s2.trans (t1.trans t2)) (.tup e2 (.cons (.lst (t2 _ _ e1) (hpp (s2.trans (t1.trans t2)))) (.cons (.bl _) .nil)))⟩⟩
  refine ite2 (fun h => ?_) (fun hD => ?_)
  ·have eS : spoD ps e w c n0 n1 = .tuple [.tuple (ppD ps), .int (if e then 1 else 0)] := by
    unfold spoD
    rw [if_neg hA, if_neg hB, if_neg hC, if_pos h]
   exact ⟨by decide, fun p1 G1 m1 t1 e1 => ks _ eS _ _ (s2.trans t1) (.tup e1 (.cons (.tup ((s2.trans t1) _ _ hq) (hpp (s2.trans t1))) (.cons (.int _) .nil)))⟩
  refine ite2 (fun h => ?_) (fun hE => ?_)
  ·have eS : spoD ps e w c n0 n1 = .tuple [.tuple (ppD ps), .bool e, .none] := by
    unfold spoD
    rw [if_neg hA, if_neg hB, if_neg hC, if_neg hD, if_pos h]
   exact ⟨by decide, fun p1 G1 m1 t1 e1 => ks _ eS _ _ (s2.trans t1) (.tup e1 (.cons (.tup ((s2.trans t1) _ _ hq) (hpp (s2.trans t1))) (.cons (.bl _) (.cons .non .nil))))⟩
  refine ite2 (fun h => ?_) (fun hF => ?_)
  ·have eS : spoD ps e w c n0 n1 = .tuple [.tuple [], .bool false] := by
    unfold spoD
    rw [if_neg hA, if_neg hB, if_neg hC, if_neg hD, if_neg hE, if_pos h]
   exact ⟨by decide, fun p1 G1 m1 t1 e1 => ⟨by decide, fun p2 G2 m2 t2 e2 => ks _ eS _ _ (s2.trans (t1.trans t2)) (.tup e2 (.cons (.tup (t2 _ _ e1) .nil) (.cons (.bl _) .nil)))⟩⟩
  obtain ⟨q1, q2⟩ := bq1 c (m := 4) (by decide)
  refine ite2 (fun h => ?_) (fun hG => ?_)
  ·have eS : spoD ps e w c n0 n1 = .tuple [.tuple (List.replicate (13 + oddI c (4 : Nat)) (.tuple [sd "step", sd "a"])), .bool e] := by
    unfold spoD
    rw [if_neg hA, if_neg hB, if_neg hC, if_neg hD, if_neg hE, if_neg hF, if_pos h]
   have e4 : 13 + c % 4 = ((13 + oddI c (4 : Nat) : Nat) : Int) := by rw [show c % 4 = _ from q2]; omega
   rw [e4]
   generalize 13 + oddI c (4 : Nat) = m at eS e4
   refine ⟨by decide, by omega, by omega, fun pl nl => ?_⟩
   refine gqm (fun i ys G => Same H1 G ∧ IsTAll G (List.replicate i (PyData.tuple [sd "step", sd "a"])) ys) (aqy (by omega)) ⟨s2.trans (aq5 nl), .nil⟩ (fun i ys G T hi ⟨sG, hys⟩ hpl hT => ?_) (fun ys G ⟨sG, hys⟩ hpl => ?_)
   ·walk_at "rd"
    refine ⟨by decide, fun p1 G1 m1 t1 e1 => hT _ _ (t1 _ _ hpl) ?_⟩
    have sU : SameT G (upd G1 pl (.lst (ys ++ [.ref p1]))) := fun b xs' eb => by
     rw [aqp (fun z => by rw [z, hpl] at eb; cases eb)]
     exact t1 b _ eb
    refine ⟨fun b o eb => by rw [aqp (aqj (s2 b o eb) nl)]; exact (sG.trans t1) b o eb, ?_⟩
    rw [List.replicate_succ']
    exact (hys.mono sU).snoc (.tup (by rw [aqp (fun z => by rw [z, t1 _ _ hpl] at e1; cases e1)]; exact e1) (.cons (.str _) (.cons (.str _) .nil)))
   ·refine ⟨pl, ys, rfl, .inl (.of hpl), fun p1 G1 t1 e1 => ⟨by decide, fun p2 G2 m2 t2 e2 => ?_⟩⟩
    exact ks _ eS _ _ (sG.trans (t1.trans t2)) (.tup e2 (.cons (.tup (t2 _ _ e1) (hys.mono (t1.trans t2).toT).is) (.cons (.bl _) .nil)))
  refine ite2 (fun h => ?_) (fun hH => ?_)
  ·have eS : spoD ps e w c n0 n1 = .tuple [.tuple (([.tuple [sd "gap", st n1]] ++ (ppD ps).take 9) ++ [.tuple [sd "number", st n1]]), .bool e] := by
    unfold spoD
    rw [if_neg hA, if_neg hB, if_neg hC, if_neg hD, if_neg hE, if_neg hF, if_neg hG, if_pos h]
   refine ⟨_, _, .inl (.of (s2 _ _ hr')), aqf (j := 1) hz1, by decide, fun p1 G1 m1 t1 e1 => ⟨by decide, fun p2 G2 m2 t2 e2 => ⟨xs, (s2.trans (t1.trans t2)) _ _ hq, fun p3 G3 t3 e3 => ?_⟩⟩⟩
   rw [show (9 : Int) = ((9 : Nat) : Int) from rfl, gqP] at e3
   refine .inr ⟨_, _, t3 _ _ e2, e3, aqy (by rw [List.length_take]; show 1 + _ ≤ _; omega), fun p4 G4 t4 e4 => ⟨_, _, .inl (.of ((s2.trans (t1.trans (t2.trans (t3.trans t4)))) _ _ hr')), aqf (j := 1) hz1, by decide, fun p5 G5 m5 t5 e5 => ⟨by decide, fun p6 G6 m6 t6 e6 => ?_⟩⟩⟩
   refine .inr ⟨_, _, (t5.trans t6) _ _ e4, e6, aqy (by rw [List.length_append, List.length_take]; show 1 + _ + 1 ≤ _; omega), fun p7 G7 t7 e7 => ⟨by decide, fun p8 G8 m8 t8 e8 => ?_⟩⟩
   have u6 := t6.trans (t7.trans t8)
   have u1 := t2.trans (t3.trans (t4.trans (t5.trans u6)))
   have u := t1.trans u1
   exact ks _ eS _ _ (s2.trans u) (.tup e8 (.cons (.tup (t8 _ _ e7) (((IsAll.cons (.tup (u1 _ _ e1) (.cons (.str _) (.cons (.str _) .nil))) .nil).append ((hpp (s2.trans u)).take 9)).append (.cons (.tup (u6 _ _ e5) (.cons (.str _) (.cons (.str _) .nil))) .nil))) (.cons (.bl _) .nil)))
  refine ite2 (fun h => ?_) (fun hI => ?_)
  ·have eS : spoD ps e w c n0 n1 = .tuple [.tuple [.tuple [sd "rest", st n1], .tuple [sd "step", sd "a"]], .bool e] := by
    unfold spoD
    rw [if_neg hA, if_neg hB, if_neg hC, if_neg hD, if_neg hE, if_neg hF, if_neg hG, if_neg hH, if_pos h]
   refine ⟨_, _, .inl (.of (s2 _ _ hr')), aqf (j := 1) hz1, by decide, fun p1 G1 m1 t1 e1 => ⟨by decide, fun p2 G2 m2 t2 e2 => ⟨by decide, fun p3 G3 m3 t3 e3 => ⟨by decide, fun p4 G4 m4 t4 e4 => ?_⟩⟩⟩⟩
   exact ks _ eS _ _ (s2.trans (t1.trans (t2.trans (t3.trans t4)))) (.tup e4 (.cons (.tup (t4 _ _ e3) (.cons (.tup ((t2.trans (t3.trans t4)) _ _ e1) (.cons (.str _) (.cons (.str _) .nil))) (.cons (.tup ((t3.trans t4) _ _ e2) (.cons (.str _) (.cons (.str _) .nil))) .nil))) (.cons (.bl _) .nil)))
  refine ite2 (fun h => ?_) (fun hJ => ?_)
  ·have eS : spoD ps e w c n0 n1 = .tuple [.tuple (ppD ps)] := by
    unfold spoD
    rw [if_neg hA, if_neg hB, if_neg hC, if_neg hD, if_neg hE, if_neg hF, if_neg hG, if_neg hH, if_neg hI, if_pos h]
   exact ⟨by decide, fun p1 G1 m1 t1 e1 => ks _ eS _ _ (s2.trans t1) (.tup e1 (.cons (.tup ((s2.trans t1) _ _ hq) (hpp (s2.trans t1))) .nil))⟩
  have eS : spoD ps e w c n0 n1 = (lastL[oddI c 9]?).getD .none := by
   unfold spoD
   rw [if_neg hA, if_neg hB, if_neg hC, if_neg hD, if_neg hE, if_neg hF, if_neg hG, if_neg hH, if_neg hI, if_neg hJ]
  obtain ⟨r1, r2⟩ := bq1 c (m := 9) (by decide)
  intro p1 m1
  have t1 := aq5 (o := .dK []) m1
  have e1 : upd H2 p1 (.dK []) p1 = some (.dK []) := aqn
  refine ⟨by decide, fun p2 G2 m2 t2 e2 => ⟨by decide, fun p3 G3 m3 t3 e3 => ⟨by decide, fun p4 G4 m4 t4 e4 => ⟨by decide, fun p5 G5 m5 t5 e5 => ⟨by decide, fun p6 G6 m6 t6 e6 => ⟨by decide, fun p7 G7 m7 t7 e7 => ⟨by decide, fun p8 G8 m8 t8 e8 => ⟨by decide, fun p9 G9 m9 t9 e9 => ⟨by decide, ?_⟩⟩⟩⟩⟩⟩⟩⟩⟩
  have u7 := t8.trans t9
  have u6 := t7.trans u7
  have u5 := t6.trans u6
  have u4 := t5.trans u5
  have u3 := t4.trans u4
  have u2 := t3.trans u3
  have u1 := t2.trans u2
  have key : ∀ kk, kk < 9 → ∃ v d, [V.non, V.bl true, V.str (Str.ofString "/a"), V.ref p1, V.int 5, V.ref p2, V.ref p3, V.ref p5, V.ref p8][kk]? = some v ∧ lastL[kk]? = some d ∧ (Is G9 d v ∨ ∃ a, d = .dict [] ∧ v = .ref a ∧ G9 a = some (.dK [])) := fun kk hk => by
   match kk, hk with
   | 0, _ => exact ⟨_, _, rfl, rfl, .inl .non⟩
   | 1, _ => exact ⟨_, _, rfl, rfl, .inl (.bl _)⟩
   | 2, _ => exact ⟨_, _, rfl, rfl, .inl (.str _)⟩
   | 3, _ => exact ⟨_, _, rfl, rfl, .inr ⟨_, rfl, rfl, u1 _ _ e1⟩⟩
   | 4, _ => exact ⟨_, _, rfl, rfl, .inl (.int _)⟩
   | 5, _ => exact ⟨_, _, rfl, rfl, .inl (.tup (u2 _ _ e2) .nil)⟩
   | 6, _ => exact ⟨_, _, rfl, rfl, .inl (.tup (u3 _ _ e3) (.cons (.str _) (.cons (.str _) .nil)))⟩
   | 7, _ => exact ⟨_, _, rfl, rfl, .inl (.tup (u5 _ _ e5) (.cons (.tup (u4 _ _ e4) .nil) (.cons .non .nil)))⟩
   | 8, _ => exact ⟨_, _, rfl, rfl, .inl (.lst (t9 _ _ e8) (.cons (.tup (u7 _ _ e7) (.cons (.tup (u6 _ _ e6) .nil) (.cons (.bl _) .nil))) .nil))⟩
  obtain ⟨v, d, g1, g2, g3⟩ := key _ r1
  refine ⟨_, v, .inl (.of e9), by rw [show c % 9 = _ from r2]; exact aqf g1, k v _ (s2.trans (t1.trans u1)) ?_⟩
  rw [eS, show lastL[oddI c 9]? = some d from g2]
  exact g3
theorem dqO (g : G K mg) : FnOk P w K mg base CX0 3 g.aqZ g.aqU ["thing"] dqM := by
 refine g.bqo.ok dqV (fun vs H Q E h => ?_) (fun cdv A outer s H vs Q E hr h => ?_)
 ·obtain ⟨d, v, rfl, _⟩ := h; rfl
 ·obtain ⟨d, v, rfl, hv, hs, k⟩ := h
  refine ⟨_, (aqe (aqm (bqC (aqk (dqS g) (hr.mono (by decide)) rfl g.dqr g.cqG.kp g.dqv .nil pass0 (aqa (pv 0) aqb)) (bq7 (aq8 kq0 (aqs (aqR (K := K) rfl) rfl g.dqR PySem.boot_len (aqa (pv 0) aqb)) aqc (nomark _)))))), ?_⟩
  walk_at "rd"
  refine ⟨d, v, rfl, hv, hs, fun H1 s1 => ?_⟩
  walk_at "rd"
  have k1 := k H1 s1
  cases hv with
  | str x =>
   refine ite2 (fun h => ?_) (fun h => ?_)
   ·walk_at "rd"
    refine ⟨aqy (cqu hs), ?_⟩
    have e : ftx (.str x) = decide ((0 : Int) < (x.length : Int)) := by
     simp only [ftx]
     rw [show x.cps.toList.all isSg = true from h, Bool.true_and]
     exact decide_eq_decide.mpr (by omega)
    rw [e] at k1
    exact k1
   ·rw [show ftx (.str x) = false by simp only [ftx]; rw [show x.cps.toList.all isSg = false from (Bool.not_eq_true _).mp h, Bool.false_and]] at k1
    exact k1
  | _ => exact k1
theorem dqc (g : G K mg) : FnOk P w K mg base CX0 3 g.aqM g.aqE ["head", "tail"] dqe := by
 refine g.aq4.ok cq7 (fun vs H Q E h => ?_) (fun cdv A outer s H vs Q E hr h => ?_)
 ·obtain ⟨d, e, v, u, rfl, _⟩ := h; rfl
 ·obtain ⟨d, e, v, u, rfl, hv, hu, hs, hs', k⟩ := h
  refine ⟨_, (aqe (aqm (bqC (aqk (dqS g) (hr.mono (by decide)) rfl g.dqr g.cqG.kp g.dqv .nil pass0 (aqa (pv 0) aqb)) (bqC (aqk (dqS g) (hr.mono (by decide)) rfl g.dqr g.cqG.kp g.dqv .nil pass0 (aqa (pv 1) aqb)) (bq7 (aq8 jqK (aql (hq4 (K := K) rfl) (pv 0) (pv 1)) aqd (nomark _))))))), ?_⟩
  walk_at "rd"
  refine ⟨d, v, rfl, hv, hs, fun H1 s1 => ⟨_, rfl, ?_⟩⟩
  cases hv with
  | str x =>
   refine ite2 (fun h1 => ⟨e, u, rfl, hu.mono s1, hs', fun H2 s2 => ⟨_, rfl, ?_⟩⟩) (fun h1 => ?_)
   ·cases hu with
    | str y =>
     have k2 := k H2 (s1.trans s2)
     have eE : endsD (.str x) (.str y) = (x.cps.toList.all isSg && y.cps.toList.all isSg && !decide (x.cps.toList ++ y.cps.toList = [])) := rfl
     rw [eE, show x.cps.toList.all isSg = true from h1, Bool.true_and] at k2
     refine ite2 (fun h2 => ?_) (fun h2 => ?_)
     ·rw [show y.cps.toList.all isSg = true from h2, Bool.true_and] at k2
      have hl := cqu hs
      have hl' := cqu hs'
      walk_at "rd"
      refine ⟨Nat.le_trans (Nat.add_le_add hl hl') (by decide), ?_⟩
      have e2 : decide (x ++ y = (⟨#[]⟩ : Str)) = decide (x.cps.toList ++ y.cps.toList = []) := by
       rw [decide_eq_decide, ← cqU x, ← cqU y, hqR, cqU, cqU]
       exact kq8
      rw [e2]
      exact k2
     ·rw [show y.cps.toList.all isSg = false from (Bool.not_eq_true _).mp h2, Bool.false_and] at k2
      exact k2
    | _ => exact ite2 (fun z => by cases z) (fun _ => k H2 (s1.trans s2))
   ·have k2 := k H1 s1
    have eE : endsD (.str x) e = false := by
     cases e with
     | str y =>
      show (x.cps.toList.all isSg && y.cps.toList.all isSg && _) = false
      rw [show x.cps.toList.all isSg = false from (Bool.not_eq_true _).mp h1]
      rfl
     | _ => rfl
    rw [eE] at k2
    exact k2
  | _ => exact ite2 (fun z => by cases z) (fun _ => k H1 s1)
theorem cq4 (g : G K mg) : FnOk P w K mg base CX0 3 g.aqJ g.aqF ["pieces"] (cq5 K) := by
 refine g.aq6.ok bqE (fun vs H Q E h => ?_) (fun cdv A outer s H vs Q E hr h => ?_)
 ·obtain ⟨cs, xs, q, rfl, _⟩ := h; rfl
 ·obtain ⟨cs, xs, q, rfl, hq, hx, hl, k⟩ := h
  refine ⟨_, (aqh (aqx (i := 1) bqE.nd rfl (Or.inl rfl) (aqk (gqi g) (hr.mono (by decide)) rfl g.eqS g.dqT.kp g.eqR .nil pass0 (aqa (pv 0) aqb)))
   (aqe (aqm (aq8 bqF (hqW rfl rfl g.lqi rfl g.dqR PySem.boot_len (aqa (pv 1) aqb)) (aqs (aqR (K := K) rfl) rfl g.dqR PySem.boot_len (aqa (pv 1) aqb)) (nomark _))))), ?_⟩
  walk_at "rd"
  refine ⟨cs, xs, q, rfl, .of hq, hx, hl, fun p1 H1 s1 h1 => ?_⟩
  have hgl := jqm cs
  refine ⟨p1, (gapsM cs).map mkS, rfl, by rw [h1, List.map_map]; rfl, by rw [List.length_map]; omega, ?_⟩
  walk_at "rd"
  refine ⟨_, .inl (.of h1), ?_⟩
  have e : decide ((((fstU ((gapsM cs).map mkS)).length : Nat) : Int) = (((gapsM cs).map tV).length : Int)) = decide ((gapsM cs).Nodup) := by
   have h2 := (cqQ _ ((gapsM cs).map mkS) rfl).2
   rw [hqJ, List.length_map] at h2
   rw [decide_eq_decide, List.length_map, ← h2]
   omega
  rw [e]
  exact k H1 s1
theorem fq4 (g : G K mg) : FnOk P w K mg base CX0 3 g.cqi g.bqI ["_law_cell"] (fqL K) := by
 refine g.cq3.ok cqD (fun vs H Q E h => ?_) (fun cdv A outer s H vs Q E hr h => ?_)
 ·obtain ⟨c, rfl, _⟩ := h; rfl
 ·obtain ⟨c, rfl, k⟩ := h
  refine ⟨_, (aqh (aqx (i := 1) cqD.nd rfl (Or.inl rfl) (aqk (cqF g) (hr.mono (by decide)) rfl g.cqk g.bqG.kp g.cqd .nil pass0 (aqa (pv 0) aqb)))
   (aqS (bqu (aqr (eqW (K := K) rfl) (pv 1) (aqg (aqa aqd (aqa aqd (aqa aqd aqb)))) (by with_unfolding_all rfl))
    (aqe (aqx (i := 1) cqD.nd rfl (Or.inl rfl) (aql (aqA (K := K)) (pv 1) (aqz (aqi (K := K) rfl) aqd (aql aqL (aql aqO (pv 0) aqc) aqc) (fun _ _ => rfl))))) aqt)
   (aqe (aqm (pv 1))))), ?_⟩
  have d1 : Str.ofString ".." = ⟨sUp.toArray⟩ := by decide +kernel
  have d2 : Str.ofString "." = ⟨sStay.toArray⟩ := by decide +kernel
  rw [d1, d2]
  walk_at "rd"
  refine ⟨c, rfl, fun l H1 hl hs s1 => ?_⟩
  refine ⟨fun σ H2 => Same H H2 ∧ ∃ l : List Nat, 0 < l.length ∧ l.length ≤ 5 ∧ (∀ c ∈ l, isSg c = true) ∧ isDot l = false ∧ σ = [some (.int c), some (tV l)], ?_, ?_⟩
  ·refine ⟨by decide, fun p H2 n2 s2 e2 => ?_⟩
   refine ⟨p, _, rfl, .inr (.of e2), rfl, rfl, _, rfl, ?_⟩
   show if (if false then _ else inV (sV l) [sV [], sV sStay, sV sUp]) = true then _ else _
   rw [if_neg (show ¬ false = true by decide), hqq]
   refine ite2 (fun hin => ?_) (fun hin => ?_)
   ·obtain ⟨d, hd, hda⟩ := gqq (Str.ofString "ab1z").cps.toList (c / 30) 4 (by decide) (by decide +kernel)
    have hd' : d ≠ 46 ∧ isSg d = true := by
     rw [show (Str.ofString "ab1z").cps.toList = [97, 98, 49, 122] by decide +kernel] at hd
     simp only [List.mem_cons, List.not_mem_nil, or_false] at hd
     rcases hd with rfl | rfl | rfl | rfl <;> decide
    refine ⟨⟨by decide, by decide⟩, by decide, d, by decide +kernel, hda, ?_⟩
    walk_at "rd"
    refine ⟨aqy (by omega), s1.trans s2, l ++ [d], by simp, by simp; omega, fun e he => ?_, iqS l d hd'.1, by simp⟩
    rcases List.mem_append.mp he with z | z
    ·exact hs e z
    ·rw [List.mem_singleton.mp z]; exact hd'.2
   ·simp only [Bool.or_eq_true, decide_eq_true_eq, not_or, Bool.not_eq_true] at hin
    exact ⟨s1.trans s2, l, List.length_pos_iff.mpr hin.1, by omega, hs, hin.2, rfl⟩
  rintro σ H2 ⟨s2, l, h1, h2, h3, h4, rfl⟩
  walk_at "rd"
  exact k l H2 h1 h2 h3 h4 s2
theorem gqj (g : G K mg) : FnOk P w K mg base CX0 4 g.cqI g.cqa ["thing"] (gqu K) := by
 refine g.dqJ.ok gqg (fun vs H Q E h => ?_) (fun cdv A outer s H vs Q E hr h => ?_)
 ·obtain ⟨d, v, rfl, _⟩ := h; rfl
 ·obtain ⟨d, v, rfl, hv, hs, k⟩ := h
  refine ⟨_, (aqh (bqu (PW.pt (gqW (eq2 (eqq (aqs bq6 rfl g.aqB aqw (aqa (pv 0) (aqa (dqb (v := .ty "tuple") rfl g.dqL dqi rfl) aqb))))) (gqW (aqr bqF (aqs (aqR (K := K) rfl) rfl g.dqR PySem.boot_len (aqa (pv 0) aqb)) aqc (nomark _)) (gqA (eq2 (eqq (aqs bq6 rfl g.aqB aqw (aqa (aqz (aqi (K := K) rfl) (pv 0) aqc (fun _ _ => rfl)) (aqa (dqb (v := .ty "str") rfl g.iq5 hqs rfl) aqb)))))))))
    (aqe (aqm fqj)) aqt)
   (aqh (bqu (aqr bqF (aqz (aqi (K := K) rfl) (pv 0) aqc (fun _ _ => rfl)) aqd (nomark _))
    (aqe (aqm (bqC (aqk (cqb g) (hr.mono (by decide)) rfl g.bq8 g.bqy.kp g.bq9 .nil pass0 (aqa (pv 0) (aqa aqc aqb))) (bqC (aqk (dqO g) (hr.mono (by decide)) rfl g.cqq g.bqo.kp g.cqo .nil pass0 (aqa (aqz (aqi (K := K) rfl) (pv 0) aqc (fun _ _ => rfl)) aqb)) (bq7 (lqm (aqk (hqV g) (hr.mono (by decide)) rfl g.gqB g.fqr.kp g.gqx .nil pass0 (aqa (aqz (aqi (K := K) rfl) (pv 0) aqc (fun _ _ => rfl)) aqb)))))))) aqt)
   (aqh (bqu (aqr bqF (aqz (aqi (K := K) rfl) (pv 0) aqc (fun _ _ => rfl)) aqd (nomark _))
    (aqe (aqm (bqC (aqk (cqb g) (hr.mono (by decide)) rfl g.bq8 g.bqy.kp g.bq9 .nil pass0 (aqa (pv 0) (aqa aqc aqb))) (bqC (aqk (eqQ g) (hr.mono (by decide)) rfl g.eqC g.dqy.kp g.eqD .nil pass0 (aqa (aqz (aqi (K := K) rfl) (pv 0) aqc (fun _ _ => rfl)) aqb)) (bq7 (aqk (dqc g) (hr.mono (by decide)) rfl g.bqO g.aq4.kp g.bqR .nil pass0 (aqa (aqz (aqi (K := K) rfl) (pv 0) aqc (fun _ _ => rfl)) (aqa (aqz (aqi (K := K) rfl) (pv 0) aqc (fun _ _ => rfl)) aqb)))))))) aqt)
   (aqe (aqm (bqC (aq8 (eqW (K := K) rfl) (aqz (aqi (K := K) rfl) (pv 0) aqc (fun _ _ => rfl)) (bqn (v := .ref g.bqv) rfl g.dqz rfl) (by with_unfolding_all rfl)) (bqC (aqk (cqb g) (hr.mono (by decide)) rfl g.bq8 g.bqy.kp g.bq9 .nil pass0 (aqa (pv 0) (aqa aqc aqb))) (bq7 (aqk (eqQ g) (hr.mono (by decide)) rfl g.eqC g.dqy.kp g.eqD .nil pass0 (aqa (aqz (aqi (K := K) rfl) (pv 0) aqc (fun _ _ => rfl)) aqb)))))))))), ?_⟩
  walk_at "rd"
  cases hv with
  | @tup p xs ds hp r =>
   refine ⟨_, L2.cqO hp, ite2 (fun z => absurd z (by decide)) (fun _ => ?_)⟩
   have sAll := (eqA hs).2
   walk_at "rd"
   cases r with
   | nil => exact ⟨_, .inr (.of hp), ite2 (fun _ => k H (Same.refl _)) (fun z => absurd rfl z)⟩
   | @cons d0 x0 ds' xs' h0 r' =>
    refine ⟨_, .inr (.of hp), ite2 (fun z => absurd z (by rw [List.length_cons]; omega)) (fun _ => ⟨_, _, .inr (.of hp), aqf (j := 0) rfl, ?_⟩)⟩
    have sm : ∀ d ∈ ds', smallD d = true := fun d hd => bqH sAll (List.mem_cons_of_mem _ hd)
    cases h0 with
    | str kk =>
     have eK : pieceD (.tuple (.str kk :: ds')) = pieceK kk ds' := rfl
     rw [eK] at k
     have isT : Is H (.tuple (.str kk :: ds')) (.ref p) := .tup hp (.cons (.str _) r')
     refine ⟨_, L2.cqZ, ite2 (fun z => absurd z (by decide)) (fun _ => ⟨_, _, .inr (.of hp), aqf (j := 0) rfl, fqn.mpr ⟨_, rfl, ?_⟩⟩)⟩
     refine ite2 (fun h1 => ⟨_, _, _, rfl, .inl isT, _, rfl, ?_⟩) (fun h1 => ⟨_, _, .inr (.of hp), aqf (j := 0) rfl, fqn.mpr ⟨_, rfl, ite2 (fun h2 => ⟨_, _, _, rfl, .inl isT, _, rfl, ?_⟩) (fun h2 => ?_)⟩⟩)
     ·have e1 : pieceK kk ds' = stepD ds' := by unfold pieceK; rw [if_pos (of_decide_eq_true h1)]
      rw [e1] at k
      cases r' with
      | nil => exact ite2 (fun z => absurd (bqg (n := 2).mp z) (by simp)) (fun _ => k H (Same.refl _))
      | @cons d1 x1 ds2 xs2 h3 r2 =>
       cases r2 with
       | cons h4 r3 => exact ite2 (fun z => absurd (bqg (n := 2).mp z) (by simp)) (fun _ => k H (Same.refl _))
       | nil =>
        refine ite2 (fun _ => ⟨_, _, .inr (.of hp), aqf (j := 1) rfl, d1, x1, rfl, h3, sm d1 (List.mem_cons_self ..), fun H1 s1 => ⟨_, rfl, ?_⟩⟩) (fun z => absurd (bqg (n := 2).mpr rfl) z)
        have k1 := k H1 s1
        cases h3 with
        | str z =>
         have e2 : stepD [.str z] = (ftx (.str z) && !isDot z.cps.toList) := rfl
         rw [e2] at k1
         refine ite2 (fun hf => ?_) (fun hf => ?_)
         ·rw [hf, Bool.true_and] at k1
          exact ⟨_, _, .inr (.of (s1 _ _ hp)), aqf (j := 1) rfl, z.cps.toList, rfl, _, rfl, k1⟩
         ·rw [Bool.eq_false_iff.mpr hf, Bool.false_and] at k1
          exact k1
        | _ => exact ite2 (fun z => by cases z) (fun _ => k1)
     ·have e1 : pieceK kk ds' = partD ds' := by unfold pieceK; rw [if_neg (fun z => h1 (decide_eq_true z)), if_pos (of_decide_eq_true h2)]
      rw [e1] at k
      have out : (∀ a b c, ds' ≠ [a, b, c]) → Q (.bl false) H := fun hn => by
       have e2 : partD ds' = false := by
        match ds', hn with
        | [], _ => rfl
        | [_], _ => rfl
        | [_, _], _ => rfl
        | [a, b, c], hn => exact absurd rfl (hn a b c)
        | _ :: _ :: _ :: _ :: _, _ => rfl
       rw [← e2]
       exact k H (Same.refl _)
      refine ite2 (fun hz => ?_) (fun hz => out fun a b c z => hz (bqg (n := 4).mpr (by rw [z]; rfl)))
      have hln := bqg (n := 4).mp hz
      cases r' with
      | nil => cases hln
      | @cons d1 x1 ds2 xs2 g1 r2 =>
       cases r2 with
       | nil => cases hln
       | @cons d2 x2 ds3 xs3 g2 r3 =>
        cases r3 with
        | nil => cases hln
        | @cons d3 x3 ds4 xs4 g3 r4 =>
         cases r4 with
         | cons _ _ => simp at hln
         | nil =>
          refine ⟨_, _, .inr (.of hp), aqf (j := 2) rfl, d2, x2, rfl, g2, sm d2 (by simp), fun H1 s1 => ⟨_, rfl, ?_⟩⟩
          have e2 : partD [d1, d2, d3] = (nameD d2 && endsD d1 d3) := rfl
          rw [e2] at k
          refine ite2 (fun hn => ?_) (fun hn => ?_)
          ·rw [hn, Bool.true_and] at k
           exact ⟨_, _, .inr (.of (s1 _ _ hp)), aqf (j := 1) rfl, _, _, .inr (.of (s1 _ _ hp)), aqf (j := 3) rfl, d1, d3, x1, x3, rfl, g1.mono s1, g3.mono s1, sm d1 (by simp), sm d3 (by simp), fun H2 s2 => k H2 (s1.trans s2)⟩
          ·rw [Bool.eq_false_iff.mpr hn, Bool.false_and] at k
           exact k H1 s1
     ·have e1 : pieceK kk ds' = (decide (kk ∈ kwN) && namD ds') := by unfold pieceK; rw [if_neg (fun z => h1 (decide_eq_true z)), if_neg (fun z => h2 (decide_eq_true z))]
      rw [e1] at k
      refine ⟨_, _, .inr (.of hp), aqf (j := 0) rfl, _, kwN.map V.str, rfl, .inr (iq9 (ss := kwN) (g.dqk H)), rfl, rfl, _, rfl, ?_⟩
      rw [if_neg (show ¬ false = true by decide), gqD]
      refine ite2 (fun h3 => ⟨_, _, _, rfl, .inl isT, _, rfl, ?_⟩) (fun h3 => ?_)
      ·rw [h3, Bool.true_and] at k
       cases r' with
       | nil => exact ite2 (fun z => absurd (bqg (n := 2).mp z) (by simp)) (fun _ => k H (Same.refl _))
       | @cons d1 x1 ds2 xs2 h4 r2 =>
        cases r2 with
        | cons h5 r3 => exact ite2 (fun z => absurd (bqg (n := 2).mp z) (by simp)) (fun _ => k H (Same.refl _))
        | nil => exact ite2 (fun _ => ⟨_, _, .inr (.of hp), aqf (j := 1) rfl, d1, x1, rfl, h4, sm d1 (by simp), fun H1 s1 => k H1 s1⟩) (fun z => absurd (bqg (n := 2).mpr rfl) z)
      ·rw [Bool.eq_false_iff.mpr h3, Bool.false_and] at k
       exact k H (Same.refl _)
    | lst hq r => exact ⟨_, L2.cqP hq, ite2 (fun _ => k H (Same.refl _)) (fun z => absurd (by decide) z)⟩
    | tup hq r => exact ⟨_, L2.cqO hq, ite2 (fun _ => k H (Same.refl _)) (fun z => absurd (by decide) z)⟩
    | non => exact ⟨_, L2.cqN, ite2 (fun _ => k H (Same.refl _)) (fun z => absurd (by decide) z)⟩
    | bl b => exact ⟨_, L2.dqP, ite2 (fun _ => k H (Same.refl _)) (fun z => absurd (by decide) z)⟩
    | int i => exact ⟨_, L2.cqL, ite2 (fun _ => k H (Same.refl _)) (fun z => absurd (by decide) z)⟩
  | lst hp r => exact ⟨_, L2.cqP hp, ite2 (fun _ => k H (Same.refl _)) (fun z => absurd (by decide) z)⟩
  | str x => exact ⟨_, L2.cqZ, ite2 (fun _ => k H (Same.refl _)) (fun z => absurd (by decide) z)⟩
  | non => exact ⟨_, L2.cqN, ite2 (fun _ => k H (Same.refl _)) (fun z => absurd (by decide) z)⟩
  | bl b => exact ⟨_, L2.dqP, ite2 (fun _ => k H (Same.refl _)) (fun z => absurd (by decide) z)⟩
  | int i => exact ⟨_, L2.cqL, ite2 (fun _ => k H (Same.refl _)) (fun z => absurd (by decide) z)⟩
theorem fqb (g : G K mg) : FnOk P w K mg base CX0 4 g.bqS g.bqw ["_law_cell", "_law_name"] (fqs K) := by
 refine g.cqv.ok bqx (fun vs H Q E h => ?_) (fun cdv A outer s H vs Q E hr h => ?_)
 ·obtain ⟨c, n, rfl, _⟩ := h; rfl
 ·obtain ⟨c, n, rfl, k⟩ := h
  refine ⟨_, (aqh (bqu (aqr iqy (aql aqL (pv 0) aqc) aqc (nomark _))
    (aqe (aqm (aqg (aqa aqd (aqa (aqk (fq4 g) (hr.mono (by decide)) rfl g.equ g.cq3.kp g.eqr .nil pass0 (aqa (aql aqO (pv 0) aqc) aqb)) aqb))))) aqt)
   (aqh (bqu (aqr iqy (aql aqL (pv 0) aqc) aqc (nomark _))
    (aqh (aqx (i := 2) bqx.nd rfl (Or.inl rfl) (aqk (cqF g) (hr.mono (by decide)) rfl g.cqk g.bqG.kp g.cqd .nil pass0 (aqa (aql aqO (pv 0) aqc) aqb)))
   (aqh (aqx (i := 3) bqx.nd rfl (Or.inl rfl) (aqk (cqF g) (hr.mono (by decide)) rfl g.cqk g.bqG.kp g.cqd .nil pass0 (aqa (aql aqO (pv 0) aqc) aqb)))
   (aqS (bqu (aqr bqF (aql (aqA (K := K)) (pv 2) (pv 3)) aqd (nomark _))
    (aqe (aqx (i := 2) bqx.nd rfl (Or.inl rfl) (aqz (aqi (K := K) rfl) aqd (aql aqL (aql aqO (pv 0) aqc) aqc) (fun _ _ => rfl)))) aqt)
   (aqe (aqm (aqg (aqa aqd (aqa (pv 2) (aqa (pv 1) (aqa (pv 3) aqb)))))))))) aqt)
   (aqe (aqm (aqg (aqa (aqz (aqi (K := K) rfl) (aq1 (aqa aqd (aqa aqd (aqa aqd (aqa aqd aqb))))) (aql jqu (aql aqL (pv 0) aqc) aqc) (fun _ _ => rfl)) (aqa (pv 1) aqb))))))), ?_⟩
  walk_at "rd"
  have c0 := Int.emod_nonneg c (show (8 : Int) ≠ 0 by decide)
  have c1 := Int.emod_lt_of_pos c (show (0 : Int) < 8 by decide)
  refine ⟨by decide, ite2 (fun _ => ⟨⟨by decide, by decide⟩, ?_⟩) (fun h2 => ⟨by decide, ite2 (fun _ => ⟨⟨by decide, by decide⟩, ?_⟩) (fun h4 => ?_)⟩)⟩
  ·exact ⟨_, rfl, fun l H1 h1 h2 h3 h4 s1 => ⟨by decide, fun p H2 n2 s2 e2 => k (.step l) p H2 ⟨h1, by omega, h3, h4⟩ rfl (fun z => by cases z) (s1.trans s2) e2⟩⟩
  ·refine ⟨_, rfl, fun hd H1 l1 h1 s1 => ⟨⟨by decide, by decide⟩, _, rfl, fun tl H2 l2 h2 s2 => ?_⟩⟩
   refine ⟨fun σ H3 => Same H H3 ∧ ∃ hd : List Nat, hd.length ≤ 4 ∧ (∀ c ∈ hd, isSg c = true) ∧ hd ++ tl ≠ [] ∧ σ = [some (.int c), some (tV n), some (tV hd), some (tV tl)], ?_, ?_⟩
   ·walk_at "rd"
    refine ⟨aqy (by omega), ite2 (fun h0 => ?_) (fun h0 => ⟨s1.trans s2, hd, l1, h1, fun z => h0 (by rw [z]), rfl⟩)⟩
    obtain ⟨d, hdm, hda⟩ := gqq (Str.ofString "ab1.").cps.toList (c / 16) 4 (by decide) (by decide +kernel)
    have hd' : isSg d = true := by
     rw [show (Str.ofString "ab1.").cps.toList = [97, 98, 49, 46] by decide +kernel] at hdm
     simp only [List.mem_cons, List.not_mem_nil, or_false] at hdm
     rcases hdm with rfl | rfl | rfl | rfl <;> decide
    exact ⟨⟨by decide, by decide⟩, by decide, d, by decide +kernel, hda, s1.trans s2, [d], by simp, fun e he => by rw [List.mem_singleton.mp he]; exact hd', by simp, rfl⟩
   rintro σ H3 ⟨s3, hd, l1, h1, hne, rfl⟩
   walk_at "rd"
   exact ⟨by decide, fun p H4 n4 s4 e4 => k (.part hd n tl) p H4 ⟨by omega, by omega, h1, h2, hne⟩ rfl (fun _ => rfl) (s3.trans s4) e4⟩
  ·refine ⟨by decide, fun p H1 n1 s1 e1 => ⟨by decide, ?_⟩⟩
   have h : c % 8 - 4 = 0 ∨ c % 8 - 4 = 1 ∨ c % 8 - 4 = 2 ∨ c % 8 - 4 = 3 := by omega
   rcases h with h | h | h | h <;> rw [h]
   ·exact ⟨_, _, .inl (.of e1), aqf (j := 0) rfl, by decide, fun p2 H2 n2 s2 e2 => k (.num n) p2 H2 trivial rfl (fun _ => rfl) (s1.trans s2) e2⟩
   ·exact ⟨_, _, .inl (.of e1), aqf (j := 1) rfl, by decide, fun p2 H2 n2 s2 e2 => k (.word n) p2 H2 trivial rfl (fun _ => rfl) (s1.trans s2) e2⟩
   ·exact ⟨_, _, .inl (.of e1), aqf (j := 2) rfl, by decide, fun p2 H2 n2 s2 e2 => k (.gap n) p2 H2 trivial rfl (fun _ => rfl) (s1.trans s2) e2⟩
   ·exact ⟨_, _, .inl (.of e1), aqf (j := 3) rfl, by decide, fun p2 H2 n2 s2 e2 => k (.gap n) p2 H2 trivial rfl (fun _ => rfl) (s1.trans s2) e2⟩
theorem eq9 (g : G K mg) : FnOk P w K mg base CX0 5 g.bqT g.bqt ["things"] (eq8 K) := by
 refine g.cqr.ok fqq (fun vs H Q E h => ?_) (fun cdv A outer s H vs Q E hr h => ?_)
 ·obtain ⟨ds, xs, q, rfl, _⟩ := h; rfl
 ·obtain ⟨ds, xs, q, rfl, hq, hx, hs, k⟩ := h
  refine ⟨_, (aqh (bqu (PW.pt (gqW (aqr kq0 (aqs (aqR (K := K) rfl) rfl g.dqR PySem.boot_len (aqa (pv 0) aqb)) (bqn (v := eq7) rfl g.dqu ⟨_, rfl⟩) (nomark _)) (gqA (eq2 (eqq (aqs (eqs (K := K) rfl rfl) rfl g.iqo PyProof.Rows.boot_all (aqa (eqn (fx := []) (fr := []) rfl rfl (by decide +kernel) rfl (by decide +kernel) rfl (by decide +kernel) rfl .nil rfl (gqh (K := K) rfl (pv 0)) (fun _ _ _ => fqE) (fun _ _ _ => (aqk (gqj g) (hr.mono (by decide)) rfl g.eq0 g.dqJ.kp g.eqT .nil pass0 (aqa (pv 0) aqb)))) aqb)))))))
    (aqe (aqm fqj)) aqt)
   (aqe (aqm (bqC (aqk (cq8 g) (hr.mono (by decide)) rfl g.bqU g.aq9.kp g.bqZ .nil pass0 (aqa (pv 0) aqb)) (bq7 (aqk (cq4 g) (hr.mono (by decide)) rfl g.bqX g.aq6.kp g.bqL .nil pass0 (aqa (pv 0) aqb))))))), ?_⟩
  walk_at "rd"
  have hxl := dqU hx
  have sAll := eqA hs
  have out : piecesD ds = false → ∀ H', Same H H' → Q (.bl false) H' := fun e H' s' => by
   rw [← e]
   exact k H' s'
  refine ⟨_, .inr (.of hq), ite2 (fun h => out ?_ H (Same.refl _)) (fun h => ⟨⟨_, .of hq⟩, fun p1 n1 => ?_⟩)⟩
  ·unfold piecesD
   rw [decide_eq_false (by omega), Bool.false_and]
  refine fqY (xs := xs) (fun i ys H' => Same H H' ∧ ys = ((ds.take i).map pieceD).map V.bl) (aqy (by omega)) ⟨aq5 n1, rfl⟩ (fun i ys H2 hJ => .of (hJ.1 _ _ hq)) (fun i x ys H2 T hxi hJ h2 hT => ?_) (fun ys H2 hJ h2 => ?_)
  ·obtain ⟨s2, rfl⟩ := hJ
   obtain ⟨d, hd, hxd⟩ := gqI hx hxi
   walk_at "rd"
   refine ⟨d, x, rfl, hxd.mono s2, bqH sAll.2 (List.mem_of_getElem? hd), fun H3 s3 => hT _ H3 (s3 _ _ h2) ⟨eqm n1 (s2.trans s3), ?_⟩⟩
   rw [List.take_add_one, hd, List.map_append, List.map_append]
   rfl
  ·obtain ⟨s2, rfl⟩ := hJ
   walk_at "rd"
   have eA : ((ds.take xs.length).map pieceD).all id = ds.all pieceD := by
    rw [hxl, List.take_length, List.all_map]
    rfl
   refine ⟨_, .of h2, ?_⟩
   rw [eA]
   refine ite2 (fun h3 => out ?_ H2 s2) (fun h3 => ?_)
   ·unfold piecesD
    rw [h3, Bool.false_and, Bool.and_false]
   have h3 : ds.all pieceD = true := (Bool.not_eq_false _).mp h3
   have hP : PcAll K H2 (ds.map pcOf) xs := fqi (hx.mono s2) h3
   have eP : piecesD ds = (restsL (ds.map pcOf) && decide ((gapsM (ds.map pcOf)).Nodup)) := by
    unfold piecesD
    rw [decide_eq_true (show ds.length ≤ 12 by omega), h3, Bool.true_and, Bool.true_and]
   refine ⟨_, xs, q, rfl, s2 _ _ hq, hP, by rw [List.length_map]; omega, fun H3 s3 => ⟨_, rfl, ?_⟩⟩
   rw [eP] at k
   refine ite2 (fun h4 => ?_) (fun h4 => ?_)
   ·rw [h4, Bool.true_and] at k
    exact ⟨_, xs, q, rfl, (s2.trans s3) _ _ hq, fqi (hx.mono (s2.trans s3)) h3, by rw [List.length_map]; omega, fun H4 s4 => k H4 ((s2.trans s3).trans s4)⟩
   ·rw [Bool.eq_false_iff.mpr h4, Bool.false_and] at k
    exact k H3 (s2.trans s3)
theorem eqj (g : G K mg) : FnOk P w K mg base CX0 5 g.bqe g.bqa ["_law_cell", "_law_names_here", "_law_cells"] (eqH K) := by
 refine g.bq3.ok cqw (fun vs H Q E h => ?_) (fun cdv A outer s H vs Q E hr h => ?_)
 ·obtain ⟨c, pn, pc, ns, cs, rfl, _⟩ := h; rfl
 ·obtain ⟨c, pn, pc, ns, cs, rfl, hpn, hpc, hlen, hn, hns, k⟩ := h
  refine ⟨_, (aqS (jqj (i := 3) (K := K) (fx := []) (fr := []) cqw.nd rfl rfl rfl rfl rfl (by decide +kernel) rfl (by decide +kernel) rfl rfl (by decide +kernel) rfl .nil rfl (kqD (K := K) rfl rfl g.lqv (aqa (pv 2) (aqa (pv 1) aqb))) (fun _ _ _ => fqE) (fun _ _ _ => (aqk (fqb g) (hr.mono (by decide)) rfl g.dq0 g.cqv.kp g.dq5 .nil pass0 (aqa (pv 0) (aqa (pv 1) aqb)))))
   (aqS (bqu (PW.pt (jqw (aqr bqF (aql aqL (pv 0) aqc) aqc (nomark _)) (hqZ (aqr (lqd hr.units) (pv 3) (aq1 aqb) (nomark _)))))
    (aqe (jqr (aqg (aqa aqd (aqa (aqz (aqi (K := K) rfl) (pv 1) (aql jqu (aqs (aqR (K := K) rfl) rfl g.dqR PySem.boot_len (aqa (pv 3) aqb)) aqc) (fun _ _ => rfl)) aqb))) (lq3 (pv 3) (lqB jqs aqc) iqK))) aqt)
   (aqe (aqm (aqg (aqa (cqC (eqg (K := K) rfl) rfl g.dqL dqi (aqa (pv 3) aqb)) (aqa (kqG (aq8 (jqq hr.units) (pv 3) (aq1 aqb) (nomark _)) (bq7 (aq8 bqF (aql aqL (aql aqO (pv 0) aqc) aqc) aqc (nomark _)))) aqb))))))), ?_⟩
  walk_at "rd"
  refine ⟨fun σ H1 => Same H H1 ∧ ∃ (ps : List Pc) (pl : Addr) (xs : List V), σ = [some (.int c), some (.ref pn), some (.ref pc), some (.ref pl)] ∧ PcT H1 ps xs ∧ H1 pl = some (.lst xs) ∧ H pl = none ∧ ps.length = cs.length ∧ (∀ x ∈ ps, PcOk x ∧ x.isRest = false) ∧ (∀ (i : Nat) (x : Pc), ps[i]? = some x → x.isStep = false → ns[i]? = some x.name), ?_, ?_⟩
  ·refine ⟨pc, pn, _, _, ⟨rfl, rfl⟩, hpc, .of hpn, fun p0 n0 => ?_⟩
   refine gq4 (fun i ws H' => SameBut p0 H H' ∧ ∃ ps : List Pc, PcT H' ps ws ∧ ps.length = i ∧ (∀ x ∈ ps, PcOk x ∧ x.isRest = false) ∧ ∀ (j : Nat) (x : Pc), ps[j]? = some x → x.isStep = false → ns[j]? = some x.name) (fun i ws H1 H2 s h => ?_) (by rw [List.length_map]; exact aqy (by omega)) ⟨eqF.trans (SameBut.refl _ _), [], .nil, rfl, (fun x hx => by cases hx), fun j x hx => by cases hx⟩ (fun i ws H2 h => ?_) (fun i x y ws H2 T hx hy h hp2 hT => ?_) (fun ws H2 h hp2 => ?_)
   ·obtain ⟨h1, ps, h2, h3⟩ := h
    exact ⟨h1.trans s.but, ps, h2.mono s.toT, h3⟩
   ·have s := h.1.same n0
    exact ⟨s.seq hpc, .of (s _ _ hpn)⟩
   ·obtain ⟨sb, ps, h2, h3, h4, h5⟩ := h
    rw [List.getElem?_map] at hx hy
    obtain ⟨cc, hcc, rfl⟩ := Option.map_eq_some_iff.mp hx
    obtain ⟨nn, hnn, rfl⟩ := Option.map_eq_some_iff.mp hy
    walk_at "rd"
    refine ⟨cc, nn, rfl, fun pcx q H3 ok1 ok2 ok3 s3 hq => hT _ H3 (s3 _ _ hp2) ?_⟩
    have hqp : q ≠ p0 := fun z => by rw [z, s3 _ _ hp2] at hq; cases hq
    refine ⟨(sb.trans s3.but).trans eqF, ps ++ [pcx], ?_, by rw [List.length_append, List.length_singleton, h3], fun x hx => ?_, fun j x hj hst => ?_⟩
    ·have t3 : SameT H2 (upd H3 p0 (.lst (ws ++ [.ref q]))) := fun b ys e => by
      rw [aqp (fun z => by rw [z, hp2] at e; cases e)]
      exact s3 _ _ e
     exact PcT.append (.cons (by rw [aqp hqp]; exact hq) .nil) (h2.mono t3)
    ·rcases List.mem_append.mp hx with z | z
     ·exact h4 x z
     ·rw [List.mem_singleton.mp z]; exact ⟨ok1, ok2⟩
    ·by_cases hj2 : j < ps.length
     ·rw [List.getElem?_append_left hj2] at hj
      exact h5 j x hj hst
     ·rw [List.getElem?_append_right (by omega)] at hj
      have hk3 : j - ps.length = 0 := by
       cases hh : j - ps.length with
       | zero => rfl
       | succ z => rw [hh] at hj; cases hj
      rw [hk3] at hj
      cases hj
      rw [show j = i by omega, hnn, ok3 hst]
   ·obtain ⟨sb, ps, h2, h3, h4, h5⟩ := h
    rw [List.length_map, List.length_map] at h3
    exact ⟨sb.same n0, ps, p0, ws, rfl, h2, hp2, n0, by omega, h4, h5⟩
  rintro σ H1 ⟨s1, ps, pl, xs, rfl, hP, hpl, nl, hl, hok, hnm⟩
  have hxl := hP.length
  have hsg : ∀ {qs : List Pc}, (∀ x ∈ qs, PcOk x) → (∀ (i : Nat) (x : Pc), qs[i]? = some x → x.isStep = false → ns[i]? = some x.name) → (∀ n ∈ ns, ∀ x ∈ n, isSg x = true) → ∀ x ∈ qs, PcSg x := fun {qs} h1 h2 h3 x hx => by
   obtain ⟨i, hi⟩ := List.mem_iff_getElem?.mp hx
   have ok := h1 x hx
   refine ⟨fun l e => ?_, fun a b d e => ?_, fun y hy => ?_⟩
   ·rw [e] at ok; exact ok.2.2.1
   ·rw [e] at ok; exact ⟨ok.2.2.1, ok.2.2.2.1⟩
   ·cases hst : x.isStep with
    | true =>
     cases x with
     | step l => cases hy
     | _ => cases hst
    | false => exact h3 _ (List.mem_of_getElem? (h2 i x hi hst)) y hy
  walk_at "rd"
  have neN : ∀ (H2 : Hp) (p2 : Addr) (R : Bool → Hp → Prop), Same H1 H2 → H2 p2 = some (.lst []) → R (!ps.isEmpty) H2 → rNeD (V.ref pl) (V.ref p2) H2 fun x H' => ∃ k, x = V.bl k ∧ R k H' := fun H2 p2 R s2 h2 hR => by
   refine ⟨.list (ps.map pcD), .list [], .lst (s2 _ _ hpl) (hP.mono s2.toT).isT.is, .lst h2 .nil, (gqO (hsg (fun x hx => (hok x hx).1) hnm hns)).shaped (by decide), by decide +kernel, _, rfl, ?_⟩
   rw [gqE, List.isEmpty_map]
   exact hR
  refine ⟨fun σ H2 => Same H H2 ∧ ∃ (ps : List Pc) (xs : List V), σ = [some (.int c), some (.ref pn), some (.ref pc), some (.ref pl)] ∧ PcT H2 ps xs ∧ H2 pl = some (.lst xs) ∧ ps.length = cs.length ∧ PatOk ps ∧ (∀ (i : Nat) (x : Pc), ps[i]? = some x → x.isStep = false → ns[i]? = some x.name), ⟨by decide, ?_⟩, ?_⟩
  ·have stay : ∀ H2, Same H1 H2 → Same H H2 ∧ ∃ (ps' : List Pc) (xs : List V), [some (V.int c), some (V.ref pn), some (V.ref pc), some (V.ref pl)] = [some (V.int c), some (.ref pn), some (.ref pc), some (.ref pl)] ∧ PcT H2 ps' xs ∧ H2 pl = some (.lst xs) ∧ ps'.length = cs.length ∧ PatOk ps' ∧ (∀ (i : Nat) (x : Pc), ps'[i]? = some x → x.isStep = false → ns[i]? = some x.name) := fun H2 s2 =>
    ⟨s1.trans s2, ps, xs, rfl, hP.mono s2.toT, s2 _ _ hpl, hl, ⟨fun x hx => (hok x hx).1, fun i x hi hr => by rw [(hok x (List.mem_of_getElem? hi)).2] at hr; cases hr⟩, hnm⟩
   refine ite2 (fun _ => ⟨by decide, fun p2 H2 n2 s2 hp2 => neN H2 p2 _ s2 hp2 ?_⟩) (fun _ => stay H1 (Same.refl _))
   refine ite2 (fun he => ?_) (fun _ => stay H2 s2)
   have hne : ps ≠ [] := fun z => by rw [z] at he; cases he
   have hpos : 0 < ps.length := List.length_pos_iff.mpr hne
   have hnl : ps.length - 1 < ns.length := by omega
   refine ⟨xs, .inl (.of (s2 _ _ hpl)), ns.map tV, tV ns[ps.length - 1], .inl (.of (s2 _ _ (s1 _ _ hpn))), ?_, by decide, fun p3 H3 n3 s3 hp3 => ?_⟩
   ·rw [hxl, show ((ps.length : Int) - 1) = ((ps.length - 1 : Nat) : Int) by omega]
    exact aqf (by rw [List.getElem?_map, List.getElem?_eq_getElem hnl]; rfl)
   have hpl3 := (s2.trans s3) _ _ hpl
   have h3l : p3 ≠ pl := fun z => by rw [z, hpl3] at hp3; cases hp3
   refine ⟨xs, xs.length - 1, hpl3, ?_, ?_⟩
   ·have hx0 : 0 < xs.length := by omega
    unfold ixN
    rw [if_neg (by omega)]
    rw [if_pos (by omega)]
    congr 1
    omega
   refine ⟨?_, ps.take (ps.length - 1) ++ [.rest ns[ps.length - 1]], _, rfl, ?_, aqn, ?_, ⟨fun x hx => ?_, fun i x hi hr => ?_⟩, fun i x hi hst => ?_⟩
   ·exact fun b o e => by rw [aqp (aqj e nl)]; exact (s1.trans (s2.trans s3)) _ _ e
   ·have ex : xs.set (xs.length - 1) (.ref p3) = xs.take (ps.length - 1) ++ [.ref p3] := by
     rw [List.set_eq_take_append_cons_drop, if_pos (by omega), hxl, List.drop_eq_nil_of_le (by omega)]
    rw [ex]
    have t3 : SameT H1 (upd H3 pl (.lst (xs.take (ps.length - 1) ++ [.ref p3]))) := fun b ys e => by
     rw [aqp (fun z => by rw [z, hpl] at e; cases e)]
     exact (s2.trans s3) _ _ e
    exact PcT.append (.cons (by rw [aqp h3l]; exact hp3) .nil) ((hP.mono t3).take _)
   ·rw [List.length_append, List.length_take, List.length_singleton]; omega
   ·rcases List.mem_append.mp hx with z | z
    ·exact (hok x (List.mem_of_mem_take z)).1
    ·rw [List.mem_singleton.mp z]; trivial
   ·rw [List.length_append, List.length_take, List.length_singleton]
    by_cases hi2 : i < ps.length - 1
    ·rw [List.getElem?_append_left (by rw [List.length_take]; omega)] at hi
     have := (hok x (List.mem_of_mem_take (List.mem_of_getElem? hi))).2
     rw [this] at hr; cases hr
    ·have := (List.getElem?_eq_some_iff.mp hi).1
     rw [List.length_append, List.length_take, List.length_singleton] at this
     omega
   ·by_cases hi2 : i < ps.length - 1
    ·rw [List.getElem?_append_left (by rw [List.length_take]; omega), List.getElem?_take, if_pos hi2] at hi
     exact hnm i x hi hst
    ·have h9 := (List.getElem?_eq_some_iff.mp hi).1
     rw [List.length_append, List.length_take, List.length_singleton] at h9
     have hi3 : i = ps.length - 1 := by omega
     rw [List.getElem?_append_right (by rw [List.length_take]; omega), List.length_take, show i - min (ps.length - 1) ps.length = 0 by omega] at hi
     cases hi
     rw [hi3, List.getElem?_eq_getElem hnl]
     rfl
  clear hP hpl hok hnm hxl hl neN
  rintro σ H2 ⟨s2, ps, xs, rfl, hP, hpl, hl, hok, hnm⟩
  walk_at "rd"
  refine ⟨xs, .inl (.of hpl), fun l H3 s3 hl3 => ⟨by decide, fun p4 H4 n4 s4 hp4 => ?_⟩⟩
  have s24 := s3.trans s4
  refine ⟨.list (ps.map pcD), .list [], .lst (s24 _ _ hpl) (hP.mono s24.toT).isT.is, .lst hp4 .nil, (gqO (hsg hok.1 hnm hns)).shaped (by decide), by decide +kernel, _, rfl, ?_⟩
  rw [gqE, List.isEmpty_map]
  refine ite2 (fun he => ⟨by decide, fun p5 H5 n5 s5 hp5 => ?_⟩) (fun he => ⟨⟨by decide, by decide⟩, by decide, by decide, fun p5 H5 n5 s5 hp5 => ?_⟩)
  ·exact k ps true p5 l xs H5 hok hl hnm (fun _ => rfl) ((s2.trans s24).trans s5) ((s4.trans s5) _ _ hl3) (hP.mono (s24.trans s5).toT) hp5
  ·exact k ps _ p5 l xs H5 hok hl hnm (fun z => absurd (by rw [z]; rfl) he) ((s2.trans s24).trans s5) ((s4.trans s5) _ _ hl3) (hP.mono (s24.trans s5).toT) hp5
theorem dqD (g : G K mg) : FnOk P w K mg base CX0 6 g.bq0 g.bqr ["thing"] (fqm K) := by
 refine g.bqY.ok eq3 (fun vs H Q E h => ?_) (fun cdv A outer s H vs Q E hr h => ?_)
 ·obtain ⟨d, v, rfl, _⟩ := h; rfl
 ·obtain ⟨d, v, rfl, hv, k⟩ := h
  refine ⟨_, (aqh (bqu (PW.pt (gqW (eq2 (eqq (aqk (cqb g) (hr.mono (by decide)) rfl g.bq8 g.bqy.kp g.bq9 .nil pass0 (aqa (pv 0) (aqa aqc aqb))))) (gqW (eq2 (eqq (aqs bq6 rfl g.aqB aqw (aqa (aqz (aqi (K := K) rfl) (pv 0) (bqn (v := eq4) rfl g.eqa ⟨_, rfl⟩) (fun _ _ => rfl)) (aqa (dqb (v := .ty "tuple") rfl g.dqL dqi rfl) aqb))))) (gqA (eq2 (eqq (aqs bq6 rfl g.aqB aqw (aqa (aqz (aqi (K := K) rfl) (pv 0) (bqn (v := gqz) rfl g.fqa ⟨_, rfl⟩) (fun _ _ => rfl)) (aqa (dqb (v := .ty "bool") rfl g.jqA jq6 rfl) aqb)))))))))
    (aqe (aqm fqj)) aqt)
   (aqe (aqm (bqC (aqk (eq9 g) (hr.mono (by decide)) rfl g.dq6 g.cqr.kp g.dq3 .nil pass0 (aqa (aqz (aqi (K := K) rfl) (pv 0) (bqn (v := eq4) rfl g.eqa ⟨_, rfl⟩) (fun _ _ => rfl)) aqb)) (bq7 (kqG (aqz (aqi (K := K) rfl) (pv 0) (bqn (v := gqz) rfl g.fqa ⟨_, rfl⟩) (fun _ _ => rfl)) (bq7 (aq8 kq0 (aqs (aqR (K := K) rfl) rfl g.dqR PySem.boot_len (aqa (aqz (aqi (K := K) rfl) (pv 0) (bqn (v := eq4) rfl g.eqa ⟨_, rfl⟩) (fun _ _ => rfl)) aqb)) aqc (nomark _))))))))), ?_⟩
  walk_at "rd"
  rcases hv with ⟨hv, hs⟩ | ⟨a, rfl, rfl, ha⟩
  rotate_left
  ·exact ⟨.dict [], .ref a, 2, rfl, .inr ⟨a, rfl, rfl, ha⟩, _, rfl, ite2 (fun _ => k H (Same.refl _)) (fun z => absurd rfl z)⟩
  refine ⟨d, v, 2, rfl, .inl hv, _, rfl, ?_⟩
  cases hv with
  | @tup p xs ds hp r =>
   have sAll := (eqA hs).2
   have out : (∀ l e, ds ≠ [.tuple l, .bool e]) → Q (.bl false) H := fun hn => by
    have e2 : patD (.tuple ds) = false := by
     unfold patD
     split
     ·next l e h => cases h; exact absurd rfl (hn l e)
     ·rfl
    rw [← e2]
    exact k H (Same.refl _)
   refine ite2 (fun h => out fun l e z => by rw [z] at h; exact absurd h (by rw [show tupN 2 (.tuple [.tuple l, .bool e]) = true from bqg (n := 2).mpr rfl]; decide)) (fun h => ?_)
   have hln := bqg (n := 2).mp ((Bool.not_eq_false _).mp h)
   cases r with
   | nil => cases hln
   | @cons d0 x0 ds1 xs1 g0 r1 =>
    cases r1 with
    | nil => cases hln
    | @cons d1 x1 ds2 xs2 g1 r2 =>
     cases r2 with
     | cons _ _ => simp at hln
     | nil =>
      walk_at "rd"
      refine ⟨_, _, .inr (.of hp), aqf (j := 0) rfl, ?_⟩
      cases g0 with
      | @tup q ys l hq ry =>
       refine ⟨_, L2.cqO hq, ite2 (fun z => absurd z (by decide)) (fun _ => ⟨_, _, .inr (.of hp), aqf (j := 1) rfl, ?_⟩)⟩
       cases g1 with
       | bl e =>
        refine ⟨_, L2.dqP, ite2 (fun z => absurd z (by decide)) (fun _ => ⟨_, _, .inr (.of hp), aqf (j := 0) rfl, l, ys, q, rfl, hq, ry, bqH sAll (List.mem_cons_self ..), fun H1 s1 => ⟨_, rfl, ?_⟩⟩)⟩
        have eP : patD (.tuple [.tuple l, .bool e]) = (piecesD l && (e || decide (0 < l.length))) := rfl
        rw [eP] at k
        have hyl := dqU ry
        refine ite2 (fun h1 => ⟨_, _, .inr (.of (s1 _ _ hp)), aqf (j := 1) rfl, e, rfl, ?_⟩) (fun h1 => ?_)
        ·rw [h1, Bool.true_and] at k
         cases e with
         | true => exact ite2 (fun _ => k H1 s1) (fun z => absurd rfl z)
         | false =>
          refine ite2 (fun z => by cases z) (fun _ => ⟨_, _, .inr (.of (s1 _ _ hp)), aqf (j := 0) rfl, ?_⟩)
          walk_at "rd"
          refine ⟨_, .inr (.of (s1 _ _ hq)), ?_⟩
          have e3 : decide ((0 : Int) < (ys.length : Int)) = (false || decide (0 < l.length)) := by
           rw [Bool.false_or, decide_eq_decide]
           omega
          rw [e3]
          exact k H1 s1
        ·rw [Bool.eq_false_iff.mpr h1, Bool.false_and] at k
         exact k H1 s1
       | lst hq r => exact ⟨_, L2.cqP hq, ite2 (fun _ => k H (Same.refl _)) (fun z => absurd (by decide) z)⟩
       | tup hq r => exact ⟨_, L2.cqO hq, ite2 (fun _ => k H (Same.refl _)) (fun z => absurd (by decide) z)⟩
       | str x => exact ⟨_, L2.cqZ, ite2 (fun _ => k H (Same.refl _)) (fun z => absurd (by decide) z)⟩
       | non => exact ⟨_, L2.cqN, ite2 (fun _ => k H (Same.refl _)) (fun z => absurd (by decide) z)⟩
       | int i => exact ⟨_, L2.cqL, ite2 (fun _ => k H (Same.refl _)) (fun z => absurd (by decide) z)⟩
      | lst hq r => exact ⟨_, L2.cqP hq, ite2 (fun _ => out (fun l e z => by cases z)) (fun z => absurd (by decide) z)⟩
      | str x => exact ⟨_, L2.cqZ, ite2 (fun _ => out (fun l e z => by cases z)) (fun z => absurd (by decide) z)⟩
      | non => exact ⟨_, L2.cqN, ite2 (fun _ => out (fun l e z => by cases z)) (fun z => absurd (by decide) z)⟩
      | bl b => exact ⟨_, L2.dqP, ite2 (fun _ => out (fun l e z => by cases z)) (fun z => absurd (by decide) z)⟩
      | int i => exact ⟨_, L2.cqL, ite2 (fun _ => out (fun l e z => by cases z)) (fun z => absurd (by decide) z)⟩
  | _ => exact ite2 (fun _ => k H (Same.refl _)) (fun z => absurd rfl z)
theorem lqG (g : G K mg) : FnOk P w K mg base CX0 7 g.iqQ g.fqF ["_law_script"] (gqF K) := by
 refine g.lqX.ok eqY (fun vs H Q E h => ?_) (fun cdv A outer s H vs Q E hr h => ?_)
 ·obtain ⟨a, ns, rfl, _⟩ := h; rfl
 ·obtain ⟨a, ns, rfl, hS, hn, k⟩ := h
  refine ⟨_, (aqS (aqx (i := 1) eqY.nd rfl (Or.inl rfl) (aqk (fqg g) (hr.mono (by decide)) rfl g.dqX g.cqz.kp g.dq2 .nil pass0 (aqa (aqk (bqD g) (hr.mono (by decide)) rfl g.bqf g.aqV.kp g.bqh .nil pass0 (aqa (pv 0) (aqa aqc aqb))) (aqa aqc aqb))))
   (aqS (aqx (i := 2) eqY.nd rfl (Or.inl rfl) (aqk (eqj g) (hr.mono (by decide)) rfl g.cq1 g.bq3.kp g.cq0 .nil pass0 (aqa (aqk (bqD g) (hr.mono (by decide)) rfl g.bqf g.aqV.kp g.bqh .nil pass0 (aqa (pv 0) (aqa aqc aqb))) (aqa (pv 1) (aqa (dqt (jqa (K := K) rfl) (pv 0) (dqI aqc) (dqI aqc)) aqb)))))
   (aqh (aqx (i := 3) eqY.nd rfl (Or.inl rfl) (aqk (bqD g) (hr.mono (by decide)) rfl g.bqf g.aqV.kp g.bqh .nil pass0 (aqa (pv 0) (aqa aqc aqb))))
   (aqS (aqx (i := 4) eqY.nd rfl (Or.inl rfl) (aqk (cqy g) (hr.mono (by decide)) rfl g.bq5 g.bqi.kp g.bq2 .nil pass0 (aqa (pv 2) (aqa (aql aqL (pv 3) aqc) (aqa (aql aqO (pv 3) aqc) (aqa (pv 1) aqb))))))
   (aqh (gqM PassesOwn.never rfl (cqB rfl g.dqQ (aqa aqc aqb)) (cqg (i := 5) eqY.nd rfl (Or.inl rfl))
   (aqe (bqu (PW.pt (gqW (aqr gqJ (aqk (dqD g) (hr.mono (by decide)) rfl g.cqt g.bqY.kp g.cqE .nil pass0 (aqa (pv 2) aqb)) fqj (nomark _)) (gqA (aqr gqJ (aqk (dqD g) (hr.mono (by decide)) rfl g.cqt g.bqY.kp g.cqE .nil pass0 (aqa (pv 4) aqb)) fqj (nomark _)))))
    (aqe (aqm fqj)) aqt)))
   (aqe (aqm (aq8 (jqU hr.units) (pv 4) (aqk (cqy g) (hr.mono (by decide)) rfl g.bq5 g.bqi.kp g.bq2 .nil pass0 (aqa (pv 2) (aqa (aql aqL (pv 3) aqc) (aqa (aql aqO (pv 3) aqc) (aqa (pv 1) aqb))))) (nomark _))))))))), ?_⟩
  walk_at "rd"
  refine ⟨fun σ H1 => Same H H1 ∧ ∃ (nm : List (List Nat)) (pn : Addr), σ = [some (.ref a), some (.ref pn), none, none, none, none] ∧ H1 pn = some (.lst (nm.map tV)) ∧ nm.length = 12 ∧ (∀ n ∈ nm, 0 < n.length ∧ n.length ≤ 8 ∧ n.all isSma = true) ∧ nm.Nodup, ?_, ?_⟩
  ·exact ⟨a, ns, 0, rfl, hS, _, 12, rfl, by decide, fun nm pn H1 h1 h2 h3 s1 h4 => ⟨s1, nm, pn, rfl, h4, h1, h2, h3⟩⟩
  rintro σ H1 ⟨s1, nm, pn, rfl, hpn, hnl, hnm, hnd⟩
  have hnsg : ∀ n ∈ nm, ∀ x ∈ n, isSg x = true := fun n hn' => lq9 (hnm n hn').2.2
  walk_at "rd"
  refine ⟨fun σ H2 => Same H1 H2 ∧ ∃ (cs : List Pc) (e : Bool) (p q : Addr) (xs : List V), σ = [some (.ref a), some (.ref pn), some (.ref p), none, none, none] ∧ PatOk cs ∧ cs.length ≤ 12 ∧ (gapsM cs).Nodup ∧ (∀ c ∈ cs, PcOk c ∧ (c.isStep = false → NmOk c.name)) ∧ (cs = [] → e = true) ∧ H2 q = some (.tup xs) ∧ PcT H2 cs xs ∧ H2 p = some (.tup [.ref q, .bl e]), ?_, ?_⟩
  ·refine ⟨a, ns, 1, rfl, s1.seq hS, _, s1.seq hS, fun p0 H0 n0 s2 e0 => ?_⟩
   have hcl : (cutA ns (some 3) (some 15)).length ≤ 12 := mqs ns 3 15
   refine ⟨_, pn, p0, nm, cutA ns (some 3) (some 15), rfl, s2 _ _ hpn, .of (by rw [e0, iqW]), by omega, by omega, hnsg, fun cs e p q xs H3 h1 h2 h3 h4 s3 h5 h6 h7 => ?_⟩
   obtain ⟨g1, g2⟩ := eq1 hnd (cs := cs) 0 (fun i c hc hs => by rw [Nat.zero_add]; exact h3 i c hc hs)
   refine ⟨s2.trans s3, cs, e, p, q, xs, rfl, h1, by omega, g1, fun c hc => ⟨h1.1 c hc, fun hs => ?_⟩, h4, h5, h6, h7⟩
   obtain ⟨i, hi, ei⟩ := List.getElem_of_mem hc
   have := hnm _ (List.mem_of_getElem? (h3 i c (List.getElem?_eq_some_iff.mpr ⟨hi, ei⟩) hs))
   exact ⟨⟨this.1, this.2.1⟩, this.2.2⟩
  rintro σ H2 ⟨s2, cs, e, p, q, xs, rfl, hok, hcl, hgn, ok, he, hq, hP, hp⟩
  have s02 := s1.trans s2
  have hpd : patD (.tuple [.tuple (cs.map pcD), .bool e]) = true := jqh hok (fun c hc => (ok c hc).2) hgn hcl he
  have isD : ∀ {H' : Hp}, Same H2 H' → IsT H' (.tuple [.tuple (cs.map pcD), .bool e]) (.ref p) := fun s => .tup (s _ _ hp) (.cons (.tup (s _ _ hq) (hP.mono s.toT).isT) (.cons (.bl _) .nil))
  obtain ⟨n0, hn0⟩ : ∃ n, nm[0]? = some n := ⟨_, List.getElem?_eq_getElem (by omega)⟩
  obtain ⟨n1, hn1⟩ : ∃ n, nm[1]? = some n := ⟨_, List.getElem?_eq_getElem (by omega)⟩
  have ok0 : NmOk n0 := by have := hnm n0 (List.mem_of_getElem? hn0); exact ⟨⟨this.1, this.2.1⟩, this.2.2⟩
  have ok1 : NmOk n1 := by have := hnm n1 (List.mem_of_getElem? hn1); exact ⟨⟨this.1, this.2.1⟩, this.2.2⟩
  obtain ⟨w, hw⟩ : ∃ w, w = ns.getD 2 0 % 24 := ⟨_, rfl⟩
  obtain ⟨c, hc⟩ : ∃ c, c = ns.getD 2 0 / 24 := ⟨_, rfl⟩
  have spo : ∀ (G : Hp) (Z : VK), Same H2 G → (∀ (v : V) (G' : Hp), Same G G' → (Is G' (spoD cs e w c n0 n1) v ∨ ∃ a, spoD cs e w c n0 n1 = .dict [] ∧ v = .ref a ∧ G' a = some (.dK [])) → Z v G') → bqB K [.ref p, .int w, .int c, .ref pn] G Z E0 := fun G Z s h => ⟨cs, e, w, c, p, q, pn, xs, n0, n1, nm, rfl, s _ _ hp, s _ _ hq, hP.mono s.toT, hcl, (s2.trans s) _ _ hpn, hn0, hn1, ok0, ok1, h⟩
  have bad := kqs (e := e) (w := w) (c := c) (n0 := n0) ok ok1
  have gd := lq1 (e := e) (w := w) (c := c) ok hcl ok0 ok1
  walk_at "rd"
  refine ⟨a, ns, 2, rfl, s02.seq hS, fun σ H3 => Same H2 H3 ∧ ∃ v : V, (Is H3 (spoD cs e w c n0 n1) v ∨ ∃ a, spoD cs e w c n0 n1 = .dict [] ∧ v = .ref a ∧ H3 a = some (.dK [])) ∧ σ = [some (.ref a), some (.ref pn), some (.ref p), some (.int (ns.getD 2 0)), some v, none], ?_, ?_⟩
  ·refine ⟨_, _, rfl, rfl, (by decide : (0 : Int) < 24), _, _, rfl, rfl, ⟨by decide, by decide⟩, ?_⟩
   show bqB K [.ref p, .int (ns.getD 2 0 % 24), .int (ns.getD 2 0 / 24), .ref pn] H2 _ E0
   rw [← hw, ← hc]
   exact spo H2 _ (Same.refl _) fun v G s hv => ⟨s, v, hv, rfl⟩
  rintro σ H3 ⟨s3, v, hv, rfl⟩
  have mono : ∀ {G G' : Hp} {u : V}, Same G G' → (Is G (spoD cs e w c n0 n1) u ∨ ∃ a, spoD cs e w c n0 n1 = .dict [] ∧ u = .ref a ∧ G a = some (.dK [])) → (Is G' (spoD cs e w c n0 n1) u ∨ ∃ a, spoD cs e w c n0 n1 = .dict [] ∧ u = .ref a ∧ G' a = some (.dK [])) := fun s h => h.elim (fun z => .inl (z.mono s)) fun ⟨a, h1, h2, h3⟩ => .inr ⟨a, h1, h2, s _ _ h3⟩
  walk_at "rd"
  have small : smallD (.tuple [.tuple (cs.map pcD), .bool e]) = true := cqH (by simp) (by
   simp only [smallAll]
   rw [cqH (by rw [List.length_map]; omega) (cqe fun d hd => by obtain ⟨c, hc, rfl⟩ := List.mem_map.mp hd; exact (mqq (n := 0) (ok c hc).1 (ok c hc).2).sm)]
   rfl)
  refine ⟨by decide, by decide, cqX (fun i σ H' => Same H3 H' ∧ ∃ v5 : Option V, σ = [some (.ref a), some (.ref pn), some (.ref p), some (.int (ns.getD 2 0)), some v, v5]) ⟨Same.refl _, none, rfl⟩ ?_ ?_⟩
  ·rintro i σ H4 hi ⟨s4, v5, rfl⟩
   walk_at "rd"
   have s24 := s3.trans s4
   refine ⟨_, _, rfl, .inl ⟨(isD s24).is, small⟩, fun H5 s5 => ?_⟩
   rw [hpd]
   walk_at "rd"
   refine ⟨_, _, rfl, (mono (s4.trans s5) hv).elim (fun z => .inl ⟨z, ?_⟩) .inr, fun H6 s6 => ?_⟩
   ·rcases gd with g | g
    ·exact g.sm
    ·rw [g] at z; cases z
   rw [bad]
   walk_at "rd"
   exact ⟨s4.trans (s5.trans s6), _, rfl⟩
  ·rintro σ H4 ⟨s4, v5, rfl⟩
   walk_at "rd"
   rw [← hw, ← hc]
   refine ⟨by decide, ⟨by decide, by decide⟩, spo H4 _ (s3.trans s4) fun u H5 s5 hu => ?_⟩
   rcases mono (s4.trans s5) hv with hv | ⟨a1, g1, rfl, g2⟩
   ·rcases gd with g | g
    ·rcases hu with hu | ⟨a2, g3, _, _⟩
     ·refine .inl ⟨_, _, hv, hu, g.lay.shaped (by decide), g.lay.shaped (by decide), ?_⟩
      rw [g.eq]
      exact k _
     ·rw [g3] at hv; cases hv
    ·rw [g] at hv; cases hv
   ·rcases hu with hu | ⟨a2, g3, rfl, g4⟩
    ·rw [g1] at hu; cases hu
    ·exact .inr ⟨_, _, rfl, rfl, g2, g4, k _⟩
end
theorem usl0 {us : List Value} (h : us.length = 0) : us = [] := List.length_eq_zero_iff.mp h
local macro_rules | `(tactic| walk_at "b0") => `(tactic| exact fun _ _ _ _ _ _ us hl => by obtain e := usl0 hl; subst e; rfl)
theorem usl1 {us : List Value} (h : us.length = 1) : ∃ x0, us = [x0] := List.length_eq_one_iff.mp h
local macro_rules | `(tactic| walk_at "b1") => `(tactic| exact fun _ _ _ _ _ _ us hl => by obtain ⟨x0, e⟩ := usl1 hl; subst e; rfl)
theorem usl2 {us : List Value} (h : us.length = 2) : ∃ x0 x1, us = [x0, x1] := by
 cases us with
 | nil => cases h
 | cons x0 l =>
  obtain ⟨x1, rfl⟩ := usl1 (Nat.succ.inj h)
  exact ⟨_, _, rfl⟩
local macro_rules | `(tactic| walk_at "b2") => `(tactic| exact fun _ _ _ _ _ _ us hl => by obtain ⟨x0, x1, e⟩ := usl2 hl; subst e; rfl)
theorem usl3 {us : List Value} (h : us.length = 3) : ∃ x0 x1 x2, us = [x0, x1, x2] := by
 cases us with
 | nil => cases h
 | cons x0 l =>
  obtain ⟨x1, x2, rfl⟩ := usl2 (Nat.succ.inj h)
  exact ⟨_, _, _, rfl⟩
local macro_rules | `(tactic| walk_at "b3") => `(tactic| exact fun _ _ _ _ _ _ us hl => by obtain ⟨x0, x1, x2, e⟩ := usl3 hl; subst e; rfl)
theorem usl4 {us : List Value} (h : us.length = 4) : ∃ x0 x1 x2 x3, us = [x0, x1, x2, x3] := by
 cases us with
 | nil => cases h
 | cons x0 l =>
  obtain ⟨x1, x2, x3, rfl⟩ := usl3 (Nat.succ.inj h)
  exact ⟨_, _, _, _, rfl⟩
local macro_rules | `(tactic| walk_at "b4") => `(tactic| exact fun _ _ _ _ _ _ us hl => by obtain ⟨x0, x1, x2, x3, e⟩ := usl4 hl; subst e; rfl)
abbrev fo (n : Str) (s : Stmt) (d k a b : Value) (e : Option Addr) (c t : Value) : FuncData := W.fnOf n n (defArgs s) (defBody s) (defScope s) d k a b e c t
theorem lq5 {l : PySem.W.OpenLaw} {w : World} {K : W.Frag} {h : Heap} {mg : Str → Option Value} {fa : Addr} (X : K.In h) (Gl : h.Ns mainGlobals mg) (hfa : mg "law" = some (.ref fa))
  (a1 : W.nsIn K mainGlobals "made_of" = some (some (.ref f1))) (l1 : K.lookup f1 = some ⟨oc1, od1, .func (fo "made_of" dqx .none kV1 dc1 pm1 an1 cd1 ct1), sl1⟩)
  (a2 : W.nsIn K mainGlobals "is_tuple" = some (some (.ref f2))) (l2 : K.lookup f2 = some ⟨oc2, od2, .func (fo "is_tuple" cqT .none kV2 dc2 pm2 an2 cd2 ct2), sl2⟩)
  (a3 : W.nsIn K mainGlobals "is_dot" = some (some (.ref f3))) (l3 : K.lookup f3 = some ⟨oc3, od3, .func (fo "is_dot" eqc .none kV3 dc3 pm3 an3 cd3 ct3), sl3⟩)
  (a4 : W.nsIn K mainGlobals "rests_stand_last" = some (some (.ref f4))) (l4 : K.lookup f4 = some ⟨oc4, od4, .func (fo "rests_stand_last" aqN .none kV4 dc4 pm4 an4 cd4 ct4), sl4⟩)
  (a5 : W.nsIn K mainGlobals "is_gap" = some (some (.ref f5))) (l5 : K.lookup f5 = some ⟨oc5, od5, .func (fo "is_gap" dq9 .none kV5 dc5 pm5 an5 cd5 ct5), sl5⟩)
  (a6 : W.nsIn K mainGlobals "name_of" = some (some (.ref f6))) (l6 : K.lookup f6 = some ⟨oc6, od6, .func (fo "name_of" dqp .none kV6 dc6 pm6 an6 cd6 ct6), sl6⟩)
  (a7 : W.nsIn K mainGlobals "_law_cell_at" = some (some (.ref f7))) (l7 : K.lookup f7 = some ⟨oc7, od7, .func (fo "_law_cell_at" bqb .none kV7 dc7 pm7 an7 cd7 ct7), sl7⟩)
  (a8 : W.nsIn K mainGlobals "_law_names" = some (some (.ref f8))) (l8 : K.lookup f8 = some ⟨oc8, od8, .func (fo "_law_names" bqP .none kV8 dc8 pm8 an8 cd8 ct8), sl8⟩)
  (a9 : W.nsIn K mainGlobals "_law_signs" = some (some (.ref f9))) (l9 : K.lookup f9 = some ⟨oc9, od9, .func (fo "_law_signs" bqK .none kV9 dc9 pm9 an9 cd9 ct9), sl9⟩)
  (a10 : W.nsIn K mainGlobals "_law_odd_piece" = some (some (.ref f10))) (l10 : K.lookup f10 = some ⟨oc10, od10, .func (fo "_law_odd_piece" aqY .none kV10 dc10 pm10 an10 cd10 ct10), sl10⟩)
  (a11 : W.nsIn K mainGlobals "is_text" = some (some (.ref f11))) (l11 : K.lookup f11 = some ⟨oc11, od11, .func (fo "is_text" dqF .none kV11 dc11 pm11 an11 cd11 ct11), sl11⟩)
  (a12 : W.nsIn K mainGlobals "is_name" = some (some (.ref f12))) (l12 : K.lookup f12 = some ⟨oc12, od12, .func (fo "is_name" dqs .none kV12 dc12 pm12 an12 cd12 ct12), sl12⟩)
  (a13 : W.nsIn K mainGlobals "names_of" = some (some (.ref f13))) (l13 : K.lookup f13 = some ⟨oc13, od13, .func (fo "names_of" cqY .none kV13 dc13 pm13 an13 cd13 ct13), sl13⟩)
  (a14 : W.nsIn K mainGlobals "_law_text" = some (some (.ref f14))) (l14 : K.lookup f14 = some ⟨oc14, od14, .func (fo "_law_text" cqj .none kV14 dc14 pm14 an14 cd14 ct14), sl14⟩)
  (a15 : W.nsIn K mainGlobals "_law_spoiled" = some (some (.ref f15))) (l15 : K.lookup f15 = some ⟨oc15, od15, .func (fo "_law_spoiled" bqc .none kV15 dc15 pm15 an15 cd15 ct15), sl15⟩)
  (a16 : W.nsIn K mainGlobals "is_filled_text" = some (some (.ref f16))) (l16 : K.lookup f16 = some ⟨oc16, od16, .func (fo "is_filled_text" aqX .none kV16 dc16 pm16 an16 cd16 ct16), sl16⟩)
  (a17 : W.nsIn K mainGlobals "are_ends_of_part" = some (some (.ref f17))) (l17 : K.lookup f17 = some ⟨oc17, od17, .func (fo "are_ends_of_part" aqK .none kV17 dc17 pm17 an17 cd17 ct17), sl17⟩)
  (a18 : W.nsIn K mainGlobals "names_are_unlike" = some (some (.ref f18))) (l18 : K.lookup f18 = some ⟨oc18, od18, .func (fo "names_are_unlike" aqH .none kV18 dc18 pm18 an18 cd18 ct18), sl18⟩)
  (a19 : W.nsIn K mainGlobals "_law_step" = some (some (.ref f19))) (l19 : K.lookup f19 = some ⟨oc19, od19, .func (fo "_law_step" cqh .none kV19 dc19 pm19 an19 cd19 ct19), sl19⟩)
  (a20 : W.nsIn K mainGlobals "is_piece" = some (some (.ref f20))) (l20 : K.lookup f20 = some ⟨oc20, od20, .func (fo "is_piece" cqW .none kV20 dc20 pm20 an20 cd20 ct20), sl20⟩)
  (a21 : W.nsIn K mainGlobals "_law_piece" = some (some (.ref f21))) (l21 : K.lookup f21 = some ⟨oc21, od21, .func (fo "_law_piece" bqV .none kV21 dc21 pm21 an21 cd21 ct21), sl21⟩)
  (a22 : W.nsIn K mainGlobals "are_pieces" = some (some (.ref f22))) (l22 : K.lookup f22 = some ⟨oc22, od22, .func (fo "are_pieces" bqM .none kV22 dc22 pm22 an22 cd22 ct22), sl22⟩)
  (a23 : W.nsIn K mainGlobals "_law_pattern" = some (some (.ref f23))) (l23 : K.lookup f23 = some ⟨oc23, od23, .func (fo "_law_pattern" bqj .none kV23 dc23 pm23 an23 cd23 ct23), sl23⟩)
  (a24 : W.nsIn K mainGlobals "is_pattern" = some (some (.ref f24))) (l24 : K.lookup f24 = some ⟨oc24, od24, .func (fo "is_pattern" bqJ .none kV24 dc24 pm24 an24 cd24 ct24), sl24⟩)
  (a25 : W.nsIn K mainGlobals "law" = some (some (.ref f25))) (l25 : K.lookup f25 = some ⟨oc25, od25, .func (fo "law" iqx .none kV25 dc25 pm25 an25 cd25 ct25), sl25⟩)
  {qa0_NAMED_WORDS : Addr} {qd0_NAMED_WORDS : Option Addr} {qn0_NAMED_WORDS : Nat} {qs0_NAMED_WORDS : Array (Option Value)} {qt0_0_NAMED_WORDS : Tok} {qt1_0_NAMED_WORDS : Tok} {qt2_0_NAMED_WORDS : Tok} {qt3_0_NAMED_WORDS : Tok}
  (e_NAMED_WORDS : W.nsIn K mainGlobals "NAMED_WORDS" = some (some (.ref qa0_NAMED_WORDS)))
  (y0_NAMED_WORDS : K.lookup qa0_NAMED_WORDS = some ⟨.type "tuple", qd0_NAMED_WORDS, .seq #[.str (Str.ofString "number") qt0_0_NAMED_WORDS, .str (Str.ofString "word") qt1_0_NAMED_WORDS, .str (Str.ofString "gap") qt2_0_NAMED_WORDS, .str (Str.ofString "rest") qt3_0_NAMED_WORDS] qn0_NAMED_WORDS, qs0_NAMED_WORDS⟩)
  {eqy : Tok} (e_SIGNS : W.nsIn K mainGlobals "SIGNS" = some (some (.str (Str.ofString " !\"#$&'()*+,-./0123456789:;<=>?@ABCDEFGHIJKLMNOPQRSTUVWXYZ[\\]^_`abcdefghijklmnopqrstuvwxyz{|}~") eqy)))
  {aqP : Tok} (e_SMALL_LETTERS : W.nsIn K mainGlobals "SMALL_LETTERS" = some (some (.str (Str.ofString "abcdefghijklmnopqrstuvwxyz") aqP)))
  {fqG : Tok} (e_STAY : W.nsIn K mainGlobals "STAY" = some (some (.str (Str.ofString ".") fqG)))
  {t_UP : Tok} (e_UP : W.nsIn K mainGlobals "UP" = some (some (.str (Str.ofString "..") t_UP)))
  {dqA : Tok} (e_PIECES : W.nsIn K mainGlobals "PIECES" = some (some (.int 0 dqA)))
  {dqg : Tok} (e_CLOSES : W.nsIn K mainGlobals "CLOSES" = some (some (.int 1 dqg)))
  {aq7 : Tok} (e_MOST_PIECES : W.nsIn K mainGlobals "MOST_PIECES" = some (some (.int 12 aq7)))
  {aqW : Tok} (e_LONGEST_NAME : W.nsIn K mainGlobals "LONGEST_NAME" = some (some (.int 8 aqW)))
  (z_all : W.nsIn K mainGlobals "all" = some none)
  (z_len : W.nsIn K mainGlobals "len" = some none)
  (z_isinstance : W.nsIn K mainGlobals "isinstance" = some none)
  (z_tuple : W.nsIn K mainGlobals "tuple" = some none)
  (z_range : W.nsIn K mainGlobals "range" = some none)
  (z_list : W.nsIn K mainGlobals "list" = some none)
  (z_str : W.nsIn K mainGlobals "str" = some none)
  (z_int : W.nsIn K mainGlobals "int" = some none)
  (z_set : W.nsIn K mainGlobals "set" = some none)
  (z_zip : W.nsIn K mainGlobals "zip" = some none)
  (z_bool : W.nsIn K mainGlobals "bool" = some none)
  (kk : (((((W.keepIn K (.ref f1) && W.keepIn K (.ref f2)) && (W.keepIn K (.ref f3) && W.keepIn K (.ref f4))) && ((W.keepIn K (.ref f5) && W.keepIn K (.ref f6)) && W.keepIn K (.ref f7))) && (((W.keepIn K (.ref f8) && W.keepIn K (.ref f9)) && W.keepIn K (.ref f10)) && ((W.keepIn K (.ref f11) && W.keepIn K (.ref f12)) && W.keepIn K (.ref f13)))) && ((((W.keepIn K (.ref f14) && W.keepIn K (.ref f15)) && W.keepIn K (.ref f16)) && ((W.keepIn K (.ref f17) && W.keepIn K (.ref f18)) && W.keepIn K (.ref f19))) && (((W.keepIn K (.ref f20) && W.keepIn K (.ref f21)) && W.keepIn K (.ref f22)) && ((W.keepIn K (.ref f23) && W.keepIn K (.ref f24)) && W.keepIn K (.ref f25))))) = true)
  (cc : (((((W.codeIn K cd1 "made_of" && W.codeIn K cd2 "is_tuple") && (W.codeIn K cd3 "is_dot" && W.codeIn K cd4 "rests_stand_last")) && ((W.codeIn K cd5 "is_gap" && W.codeIn K cd6 "name_of") && W.codeIn K cd7 "_law_cell_at")) && (((W.codeIn K cd8 "_law_names" && W.codeIn K cd9 "_law_signs") && W.codeIn K cd10 "_law_odd_piece") && ((W.codeIn K cd11 "is_text" && W.codeIn K cd12 "is_name") && W.codeIn K cd13 "names_of"))) && ((((W.codeIn K cd14 "_law_text" && W.codeIn K cd15 "_law_spoiled") && W.codeIn K cd16 "is_filled_text") && ((W.codeIn K cd17 "are_ends_of_part" && W.codeIn K cd18 "names_are_unlike") && W.codeIn K cd19 "_law_step")) && (((W.codeIn K cd20 "is_piece" && W.codeIn K cd21 "_law_piece") && W.codeIn K cd22 "are_pieces") && ((W.codeIn K cd23 "_law_pattern" && W.codeIn K cd24 "is_pattern") && W.codeIn K cd25 "law")))) = true) :
  ∃ fd : FuncData, (∀ (s : Shared) (v : Value), BindsTo s fd ⟨[v], []⟩ [("_law_script", v)]) ∧ ∀ base : Heap, K.In base → base.Ns mainGlobals mg → FnOk l.prog w K mg base CX0 7 fa fd ["_law_script"] (gqF K) := by
 have e := hfa.symm.trans (W.mg_of X Gl a25)
 have e2 : f25 = fa := by cases e; rfl
 subst e2
 have M : ∀ {x : Str} {v : Value}, W.nsIn K mainGlobals x = some (some v) → mg x = some v := fun a => W.mg_of X Gl a
 simp only [Bool.and_eq_true] at kk cc
 obtain ⟨⟨⟨⟨⟨ka1, ka2⟩, ⟨ka3, ka4⟩⟩, ⟨⟨ka5, ka6⟩, ka7⟩⟩, ⟨⟨⟨ka8, ka9⟩, ka10⟩, ⟨⟨ka11, ka12⟩, ka13⟩⟩⟩, ⟨⟨⟨⟨ka14, ka15⟩, ka16⟩, ⟨⟨ka17, ka18⟩, ka19⟩⟩, ⟨⟨⟨ka20, ka21⟩, ka22⟩, ⟨⟨ka23, ka24⟩, ka25⟩⟩⟩⟩ := kk
 obtain ⟨⟨⟨⟨⟨ca1, ca2⟩, ⟨ca3, ca4⟩⟩, ⟨⟨ca5, ca6⟩, ca7⟩⟩, ⟨⟨⟨ca8, ca9⟩, ca10⟩, ⟨⟨ca11, ca12⟩, ca13⟩⟩⟩, ⟨⟨⟨⟨ca14, ca15⟩, ca16⟩, ⟨⟨ca17, ca18⟩, ca19⟩⟩, ⟨⟨⟨ca20, ca21⟩, ca22⟩, ⟨⟨ca23, ca24⟩, ca25⟩⟩⟩⟩ := cc
 have F1 := aqG (st := dqx) l1 ca1 ka1
 have F2 := aqG (st := cqT) l2 ca2 ka2
 have F3 := aqG (st := eqc) l3 ca3 ka3
 have F4 := aqG (st := aqN) l4 ca4 ka4
 have F5 := aqG (st := dq9) l5 ca5 ka5
 have F6 := aqG (st := dqp) l6 ca6 ka6
 have F7 := aqG (st := bqb) l7 ca7 ka7
 have F8 := aqG (st := bqP) l8 ca8 ka8
 have F9 := aqG (st := bqK) l9 ca9 ka9
 have F10 := aqG (st := aqY) l10 ca10 ka10
 have F11 := aqG (st := dqF) l11 ca11 ka11
 have F12 := aqG (st := dqs) l12 ca12 ka12
 have F13 := aqG (st := cqY) l13 ca13 ka13
 have F14 := aqG (st := cqj) l14 ca14 ka14
 have F15 := aqG (st := bqc) l15 ca15 ka15
 have F16 := aqG (st := aqX) l16 ca16 ka16
 have F17 := aqG (st := aqK) l17 ca17 ka17
 have F18 := aqG (st := aqH) l18 ca18 ka18
 have F19 := aqG (st := cqh) l19 ca19 ka19
 have F20 := aqG (st := cqW) l20 ca20 ka20
 have F21 := aqG (st := bqV) l21 ca21 ka21
 have F22 := aqG (st := bqM) l22 ca22 ka22
 have F23 := aqG (st := bqj) l23 ca23 ka23
 have F24 := aqG (st := bqJ) l24 ca24 ka24
 have F25 := aqG (st := iqx) l25 ca25 ka25
 let g : G K mg := {
  dqE := f1, cqK := _, dqG := F1, eqf := M a1,
  eqo := F1.binds (by walk_at "b2"),
  cqV := f2, cqf := _, bqy := F2, bq8 := M a2,
  bq9 := F2.binds (by walk_at "b2"),
  eqd := f3, dqm := _, fqr := F3, gqB := M a3,
  gqx := F3.binds (by walk_at "b1"),
  aqI := f4, aqD := _, aq9 := F4, bqU := M a4,
  bqZ := F4.binds (by walk_at "b1"),
  eqb := f5, dqh := _, fqt := F5, gqw := M a5,
  gqN := F5.binds (by walk_at "b1"),
  dqo := f6, cqJ := _, eql := F6, fqJ := M a6,
  fqQ := F6.binds (by walk_at "b1"),
  bqk := f7, aq2 := _, aqV := F7, bqf := M a7,
  bqh := F7.binds (by walk_at "b2"),
  bqW := f8, bqq := _, cqz := F8, dqX := M a8,
  dq2 := F8.binds (by walk_at "b2"),
  bqQ := f9, bqs := _, cqx := F9, dq4 := M a9,
  dqY := F9.binds (by walk_at "b0"),
  aq0 := f10, aqT := _, bqp := F10, cqn := M a10,
  cqp := F10.binds (by walk_at "b3"),
  dqj := f11, cqM := _, cqG := F11, dqr := M a11,
  dqv := F11.binds (by walk_at "b1"),
  dqw := f12, cqS := _, dqy := F12, eqC := M a12,
  eqD := F12.binds (by walk_at "b1"),
  cqR := f13, cql := _, dqT := F13, eqS := M a13,
  eqR := F13.binds (by walk_at "b1"),
  cqc := f14, bqN := _, bqG := F14, cqk := M a14,
  cqd := F14.binds (by walk_at "b1"),
  bqd := f15, aq3 := _, bqi := F15, bq5 := M a15,
  bq2 := F15.binds (by walk_at "b4"),
  aqZ := f16, aqU := _, bqo := F16, cqq := M a16,
  cqo := F16.binds (by walk_at "b1"),
  aqM := f17, aqE := _, aq4 := F17, bqO := M a17,
  bqR := F17.binds (by walk_at "b2"),
  aqJ := f18, aqF := _, aq6 := F18, bqX := M a18,
  bqL := F18.binds (by walk_at "b1"),
  cqi := f19, bqI := _, cq3 := F19, equ := M a19,
  eqr := F19.binds (by walk_at "b1"),
  cqI := f20, cqa := _, dqJ := F20, eq0 := M a20,
  eqT := F20.binds (by walk_at "b1"),
  bqS := f21, bqw := _, cqv := F21, dq0 := M a21,
  dq5 := F21.binds (by walk_at "b2"),
  bqT := f22, bqt := _, cqr := F22, dq6 := M a22,
  dq3 := F22.binds (by walk_at "b1"),
  bqe := f23, bqa := _, bq3 := F23, cq1 := M a23,
  cq0 := F23.binds (by walk_at "b3"),
  bq0 := f24, bqr := _, bqY := F24, cqt := M a24,
  cqE := F24.binds (by walk_at "b1"),
  iqQ := f25, fqF := _, lqX := F25, mqO := M a25,
  mqI := F25.binds (by walk_at "b1"),
  bqv := qa0_NAMED_WORDS, dqz := W.mg_of X Gl e_NAMED_WORDS, dqk := fun H => (.tup (xs := [.str (Str.ofString "number"), .str (Str.ofString "word"), .str (Str.ofString "gap"), .str (Str.ofString "rest")]) (.inr ⟨_, _, _, y0_NAMED_WORDS, rfl, rfl, (by show 4 ≤ sizeLine; decide), (.cons ⟨_, rfl⟩ (.cons ⟨_, rfl⟩ (.cons ⟨_, rfl⟩ (.cons ⟨_, rfl⟩ .nil))))⟩) (.cons (.str _) (.cons (.str _) (.cons (.str _) (.cons (.str _) .nil))))),
  eqy := eqy, hqw := W.mg_of X Gl e_SIGNS,
  aqP := aqP, cqs := W.mg_of X Gl e_SMALL_LETTERS,
  fqG := fqG, jqB := W.mg_of X Gl e_STAY,
  t_UP := t_UP, c_UP := W.mg_of X Gl e_UP,
  dqA := dqA, eqa := W.mg_of X Gl e_PIECES,
  dqg := dqg, fqa := W.mg_of X Gl e_CLOSES,
  aq7 := aq7, dqu := W.mg_of X Gl e_MOST_PIECES,
  aqW := aqW, cq2 := W.mg_of X Gl e_LONGEST_NAME,
  iqo := W.mg_none_of X Gl z_all,
  dqR := W.mg_none_of X Gl z_len,
  aqB := W.mg_none_of X Gl z_isinstance,
  dqL := W.mg_none_of X Gl z_tuple,
  dqQ := W.mg_none_of X Gl z_range,
  hqk := W.mg_none_of X Gl z_list,
  iq5 := W.mg_none_of X Gl z_str,
  lqR := W.mg_none_of X Gl z_int,
  lqi := W.mg_none_of X Gl z_set,
  lqv := W.mg_none_of X Gl z_zip,
  jqA := W.mg_none_of X Gl z_bool }
 exact ⟨g.fqF, fun s v => .of_eq rfl, fun base _ _ => lqG g⟩
theorem walk {l : PySem.W.OpenLaw} {q : Program} {loose : List Str} {XP : (Str → Option Value) → Heap → Prop} {YP : World → Heap → Prop} {d : DefRec} {K : Params → W.Frag} (hn : l.most = some 63) (hdf : d.params.defaults = [])
  (hY : ∀ (w : World) (h : Heap), YP w h → (K w.params).In h)
  (F : ∀ (w : World) (mg : Str → Option Value) (fa : Addr) (h : Heap), (K w.params).In h → h.Ns mainGlobals mg → mg d.name = some (.ref fa) →
   ∃ fd : FuncData, (∀ (s : Shared) (u : Value), BindsTo s fd ⟨[u], []⟩ [("_law_script", u)]) ∧ ∀ base : Heap, (K w.params).In base → base.Ns mainGlobals mg → FnOk l.prog w (K w.params) mg base CX0 7 fa fd ["_law_script"] (gqF (K w.params))) :
  PySem.W.WalkO q loose XP YP l.row.toRowW d [] (fun f vs => PySem.call f vs) :=
 L2.kqL (n := 63) (k := 7) (x := "_law_script") (CX := fun _ => CX0) (sp := fun w => gqF (K w.params)) hn (by decide) hdf ⟨rfl, by decide, by decide⟩ hY F (fun _ _ a ns hl _ hS => ⟨a, ns, rfl, hS, hl, fun _ => rfl⟩) fun _ _ _ _ _ z => z
end Wm
theorem PySem.W.Fast.tw13852135096123008834 : True := trivial
theorem PySem.W.Fast.tw13535123410828453430 : True := trivial
theorem PySem.W.Fast.tw8659956171276596108 : True := trivial
theorem PySem.W.Fast.tw8035970112902579674 : True := trivial
theorem PySem.W.Fast.tw14331054405520488866 : True := trivial
theorem PySem.W.Fast.tw11921813752444624270 : True := trivial
theorem PySem.W.Fast.tw6151992955337854521 : True := trivial
theorem PySem.W.Fast.tw3952001418020763188 : True := trivial
theorem PySem.W.Fast.tw16250450095612633066 : True := trivial
theorem PySem.W.Fast.tw12952592270015596249 : True := trivial
theorem PySem.W.Fast.tw14007978308281199503 : True := trivial
theorem PySem.W.Fast.tw8236703590958843718 : True := trivial
theorem PySem.W.Fast.tw903004256229104588 : True := trivial
theorem PySem.W.Fast.tw4610693986797222258 : True := trivial
theorem PySem.W.Fast.tw4079561832610949306 : True := trivial
theorem PySem.W.Fast.tw14586046439497319059 : True := trivial
theorem PySem.W.Fast.tw10505650960909748673 : True := trivial
theorem PySem.W.Fast.tw9361801450047339448 : True := trivial
theorem PySem.W.Fast.tw3787052051053080336 : True := trivial
theorem PySem.W.Fast.tw2824974287078170758 : True := trivial
theorem PySem.W.Fast.tw18071826845420618938 : True := trivial
theorem PySem.W.Fast.tw17278252366952792511 : True := trivial
theorem PySem.W.Fast.tw6921502971938556155 : True := trivial
theorem PySem.W.Fast.tw18016310945030678322 : True := trivial
theorem PySem.W.Fast.tw8405793100078598862 : True := trivial
theorem PySem.W.Fast.tw16832223779336392363 : True := trivial
theorem PySem.W.Fast.tw4195997741432399801 : True := trivial
theorem PySem.W.Fast.tw718678963406006128 : True := trivial
theorem PySem.W.Fast.tw11442516455004234300 : True := trivial
theorem PySem.W.Fast.tw8700156374966560788 : True := trivial
theorem PySem.W.Fast.tw6847892060644282739 : True := trivial
theorem PySem.W.Fast.tw10269395446773636012 : True := trivial
theorem PySem.W.Fast.tw1688077799237823533 : True := trivial
theorem PySem.W.Fast.tw6776738227600972137 : True := trivial
theorem PySem.W.Fast.tw4251738020268900471 : True := trivial
theorem PySem.W.Fast.tw14754872141225340106 : True := trivial
theorem PySem.W.Fast.tw13353450906250029155 : True := trivial
theorem PySem.W.Fast.tw2104518723762942799 : True := trivial
theorem PySem.W.Fast.tw10879753520234642913 : True := trivial
theorem PySem.W.Fast.tw11267469852358549311 : True := trivial
theorem PySem.W.Fast.tw13060412684589527462 : True := trivial
theorem PySem.W.Fast.tw2482897119224175118 : True := trivial
theorem PySem.W.Fast.tw12295646725702237153 : True := trivial
theorem PySem.W.Fast.tw13388255658453983993 : True := trivial
theorem PySem.W.Fast.tw3700708487962283799 : True := trivial
theorem PySem.W.Fast.tw7582245773116454208 : True := trivial
theorem PySem.W.Fast.tw5081689919997306765 : True := trivial
theorem PySem.W.Fast.tw11319945887569374725 : True := trivial
theorem PySem.W.Fast.tw12992675627686172970 : True := trivial
theorem PySem.W.Fast.tw7632007500985791483 : True := trivial
theorem PySem.W.Fast.tw17517940676847559755 : True := trivial
theorem PySem.W.Fast.tw7519150977876498666 : True := trivial
theorem PySem.W.Fast.tw14439137519721739519 : True := trivial
theorem PySem.W.Fast.tw6448448736905758600 : True := trivial
theorem PySem.W.Fast.tw15189447728631106068 : True := trivial
open PySem PySem.W PyProof.Rows
set_option maxRecDepth 100000 in
set_option maxHeartbeats 0 in
theorem PySem.Challenge.cw_waymark_k50_what_is_a_pattern_holds : PySem.Challenge.rw_waymark_k50_what_is_a_pattern.Holds := by
 w_on; o_law; k_head; (case hw => w_witness2)
 k_fill
 refine Wm.walk (l := PySem.Challenge.rw_waymark_k50_what_is_a_pattern) rfl rfl (fun w h Y => PySem.W.kIn_of Y) ?F
 case F =>
  intro w mg fa h KX G hmg
  refine' Wm.lq5 KX G hmg ?a1 ?l1 ?a2 ?l2 ?a3 ?l3 ?a4 ?l4 ?a5 ?l5 ?a6 ?l6 ?a7 ?l7 ?a8 ?l8 ?a9 ?l9 ?a10 ?l10 ?a11 ?l11 ?a12 ?l12 ?a13 ?l13 ?a14 ?l14 ?a15 ?l15 ?a16 ?l16 ?a17 ?l17 ?a18 ?l18 ?a19 ?l19 ?a20 ?l20 ?a21 ?l21 ?a22 ?l22 ?a23 ?l23 ?a24 ?l24 ?a25 ?l25 ?e_NAMED_WORDS ?y0_NAMED_WORDS ?e_SIGNS ?e_SMALL_LETTERS ?e_STAY ?e_UP ?e_PIECES ?e_CLOSES ?e_MOST_PIECES ?e_LONGEST_NAME ?z_all ?z_len ?z_isinstance ?z_tuple ?z_range ?z_list ?z_str ?z_int ?z_set ?z_zip ?z_bool ?kk ?cc
  (case a1 | l1 | a2 | l2 | a3 | l3 | a4 | l4 | a5 | l5 | a6 | l6 | a7 | l7 | a8 | l8 | a9 | l9 | a10 | l10 | a11 | l11 | a12 | l12 | a13 | l13 | a14 | l14 | a15 | l15 | a16 | l16 | a17 | l17 | a18 | l18 | a19 | l19 | a20 | l20 | a21 | l21 | a22 | l22 | a23 | l23 | a24 | l24 | a25 | l25 | e_NAMED_WORDS | y0_NAMED_WORDS | e_SIGNS | e_SMALL_LETTERS | e_STAY | e_UP | e_PIECES | e_CLOSES | e_MOST_PIECES | e_LONGEST_NAME | z_all | z_len | z_isinstance | z_tuple | z_range | z_list | z_str | z_int | z_set | z_zip | z_bool => k_is)
  (case kk | cc => first | k_is | with_unfolding_all kernel_rfl | with_unfolding_all rfl)
