import PyProof.Rows.All
import Wide.All
import OpenK.KLine
import OpenK.KMore
import OpenK.KRaise
import OpenK.KMake
import OpenK.KOwn
import OpenK.KDescr
import OpenK.KFacts
import KE.KIntText
import KE.KIsAll
import KE.RegKIsAll
import KE.KTabLook
import KE.LcSums
import Lean
import PyProof.EqAt
import PyProof.EqKinds
import PyProof.TupleCall
import PySem.Challenge.RW_waymark_k84_a_desk_goes
set_option Elab.async false
set_option linter.all false
set_option maxRecDepth 100000
namespace L2
open PySem PySem.Spec PyProof.Rows
abbrev Key := Sum Int Str
def keyIs : Key → Value → Bool
 | .inl k, v => Value.isInt k v
 | .inr x, v => Value.isStrOf x v
def keyH (w : World) : Key → Int
 | .inl k => hashInt k
 | .inr x => hashStr w x
theorem bqn : ∀ {k : Key} {v : Value}, keyIs k v = true → (∃ i t, k = Sum.inl i ∧ v = Value.int i t) ∨ (∃ x t, k = Sum.inr x ∧ v = Value.str x t)
 | .inl i, v, h => by
  obtain ⟨t, e⟩ := Value.isInt_shape (k := i) (v := v) h
  exact .inl ⟨i, t, rfl, e⟩
 | .inr x, v, h => by
  obtain ⟨t, e⟩ := Value.isStrOf_shape (x := x) (v := v) h
  exact .inr ⟨x, t, rfl, e⟩
theorem tqJ (a b : Int) : decide ((Sum.inl a : Key) = Sum.inl b) = (a == b) := by
 by_cases e : a = b
 ·subst e; simp
 ·have h : ¬ (Sum.inl a : Key) = Sum.inl b := fun q => e (Sum.inl.inj q)
  rw [decide_eq_false h]
  exact (beq_eq_false_iff_ne.mpr e).symm
theorem uq0 (a b : Str) : decide ((Sum.inr a : Key) = Sum.inr b) = decide (a = b) := by
 by_cases e : a = b
 ·subst e; simp
 ·have h : ¬ (Sum.inr a : Key) = Sum.inr b := fun q => e (Sum.inr.inj q)
  rw [decide_eq_false h, decide_eq_false e]
theorem uqy (a : Int) (b : Str) : decide ((Sum.inl a : Key) = Sum.inr b) = false := decide_eq_false (fun q => nomatch q)
theorem uqT (a : Str) (b : Int) : decide ((Sum.inr a : Key) = Sum.inl b) = false := decide_eq_false (fun q => nomatch q)
def mixKind (prog : Program) (w : World) : PySem.KeyKind prog w Key where
 is := keyIs
 hash := keyH w
 inj := fun v a b ha hb => by
  rcases bqn ha with ⟨i, t, rfl, rfl⟩ | ⟨x, t, rfl, rfl⟩
  ·rcases bqn hb with ⟨j, u, rfl, e⟩ | ⟨y, u, rfl, e⟩
   ·injection e with e1 _; rw [e1]
   ·exact nomatch e
  ·rcases bqn hb with ⟨j, u, rfl, e⟩ | ⟨y, u, rfl, e⟩
   ·exact nomatch e
   ·injection e with e1 _; rw [e1]
 byValue := fun k v h => by
  rcases bqn h with ⟨i, t, rfl, rfl⟩ | ⟨x, t, rfl, rfl⟩ <;> rfl
 pyHash := fun hv h => by
  rcases bqn hv with ⟨i, t, rfl, rfl⟩ | ⟨x, t, rfl, rfl⟩
  ·exact wpAny_pyHash_int h
  ·exact wpAny_pyHash_str h
 eqBool := fun hu hv h => by
  rcases bqn hu with ⟨i, t, rfl, rfl⟩ | ⟨x, t, rfl, rfl⟩
  ·rcases bqn hv with ⟨j, u, rfl, rfl⟩ | ⟨y, u, rfl, rfl⟩
   ·rw [tqJ] at h; exact wpAny_eqBool_int h
   ·rw [uqy] at h; exact SeqAt.EqAt.int_str i t y u _ _ _ _ h
  ·rcases bqn hv with ⟨j, u, rfl, rfl⟩ | ⟨y, u, rfl, rfl⟩
   ·rw [uqT] at h; exact SeqAt.EqAt.str_int x t j u _ _ _ _ h
   ·rw [uq0] at h; exact wpAny_eqBool_str h
 «strs» := fun k x t v h => by
  rcases bqn h with ⟨i, u, rfl, e⟩ | ⟨y, u, rfl, e⟩
  ·exact nomatch e
  ·injection e with e1 _
   subst e1
   cases v <;> rfl
inductive V where
 | non | bl (b : Bool) | int (i : Int) | str (x : Str) | byt (b : Array UInt8) | flt (b : UInt64) | ref (a : Addr) | ty (n : String)
 deriving DecidableEq
def RelV : V → Value → Prop
 | .non, u => u = Value.none
 | .bl b, u => u = Value.bool b
 | .int i, u => ∃ t, u = Value.int i t
 | .str x, u => ∃ t, u = Value.str x t
 | .byt b, u => ∃ t, u = Value.bytes b t
 | .flt b, u => ∃ t, u = Value.float b t
 | .ref a, u => u = Value.ref a
 | .ty n, u => u = Value.type n
abbrev Vals : List V → List Value → Prop := Paired RelV
theorem Vals.length {xs : List V} {us : List Value} (r : Vals xs us) : xs.length = us.length := Paired.length r
theorem Vals.get : ∀ {xs : List V} {us : List Value} {i : Nat} {x : V}, Vals xs us → xs[i]? = some x → ∃ u, us[i]? = some u ∧ RelV x u
 | _, _, _, _, .nil, e => by simp at e
 | _, _, 0, _, .cons r _, e => by simp at e; subst e; exact ⟨_, rfl, r⟩
 | _, _, i + 1, x, .cons _ t, e => by
  obtain ⟨u, h1, h2⟩ := Vals.get (i := i) (x := x) t (by simpa using e)
  exact ⟨u, by simpa using h1, h2⟩
theorem Vals.append : ∀ {xs ys : List V} {us ws : List Value}, Vals xs us → Vals ys ws → Vals (xs ++ ys) (us ++ ws)
 | _, _, _, _, .nil, s => s
 | _, _, _, _, .cons r t, s => .cons r (Vals.append t s)
theorem Vals.take : ∀ {xs : List V} {us : List Value} (n : Nat), Vals xs us → Vals (xs.take n) (us.take n)
 | _, _, 0, _ => .nil
 | _, _, _ + 1, .nil => .nil
 | _, _, n + 1, .cons r t => .cons r (Vals.take n t)
theorem Vals.drop : ∀ {xs : List V} {us : List Value} (n : Nat), Vals xs us → Vals (xs.drop n) (us.drop n)
 | _, _, 0, r => r
 | _, _, _ + 1, .nil => .nil
 | _, _, n + 1, .cons _ t => Vals.drop n t
def RelO : Option V → Option Value → Prop
 | some v, some u => RelV v u
 | none, none => True
 | _, _ => False
def KV {κ : Type} : List (κ × V) → List (κ × Value) → Prop := Paired fun (p : κ × V) (q : κ × Value) => p.1 = q.1 ∧ RelV p.2 q.2
def kV : Key → V
 | .inl i => .int i
 | .inr x => .str x
inductive HO where
 | lst (xs : List V)
 | tup (xs : List V)
 | dK (kvs : List (Key × V)) | dT (kvs : List (List Key × V))
 | set (S : Int → Bool) (n : Nat)
 | ins (C dx : Addr) (fs : List (Str × V))
 | own (x : Addr)
 | xd (fs : List (Str × V))
 | met (f x : Addr)
 | rng (lo hi : Int)
 | frz (o : Obj) (u : HO)
 | tbl (ps : Array Value)
 | ext (φ : Heap → Prop)
abbrev Hp := Addr → Option HO
def upd (H : Hp) (a : Addr) (o : HO) : Hp := fun b => if b = a then some o else H b
theorem aqh {H : Hp} {a : Addr} {o : HO} : upd H a o a = some o := by unfold upd; rw [if_pos rfl]
theorem aqt {H : Hp} {a b : Addr} {o : HO} (h : b ≠ a) : upd H a o b = H b := by unfold upd; rw [if_neg h]
theorem oqp {H : Hp} {a : Addr} {o u : HO} : upd (upd H a o) a u = upd H a u := by
 funext b; unfold upd; split <;> rfl
theorem qqO {H : Hp} {a b : Addr} {o u : HO} (h : H a = some o) (h' : H b = some u) (d : o ≠ u) : a ≠ b := by
 intro e; subst e; rw [h] at h'; exact d (Option.some.inj h')
theorem aqq {H : Hp} {a b : Addr} {o : HO} (h : H a = some o) (h' : H b = none) : a ≠ b := by
 intro e; subst e; rw [h] at h'; cases h'
section
variable (P : Program) (w : World)
def ObjOk (H : Hp) (h : Heap) (a : Addr) : HO → Prop
 | .lst xs => xs.length ≤ sizeLine ∧ ∃ (its : List Value) (n : Nat), Vals xs its ∧ h.get? a = some { cls := .type "list", data := .seq its.toArray n }
 | .tup xs => xs.length ≤ sizeLine ∧ ∃ its : List Value, Vals xs its ∧ IsTup h a its.toArray
 | .dK kvs => kvs.length ≤ sizeLine ∧ (a == sysModules) = false ∧ ∃ vs, KV kvs vs ∧ h.DictOf (mixKind P w) a vs
 | .dT kvs => kvs.length ≤ sizeLine ∧ (a == sysModules) = false ∧ ∃ xs : List (List Key × Addr × Value),
   Paired (fun (p : List Key × V) (q : List Key × Addr × Value) => p.1 = q.1 ∧ H q.2.1 = some (.tup (p.1.map kV)) ∧ RelV p.2 q.2.2) kvs xs ∧
   ∃ o es ep, h.get? a = some o ∧ o.ExactDict ∧ o.data = .dict es ep ∧ es.toList = xs.map (entryOfKey (tupleKind (mixKind P w))) ∧ (xs.map (·.1)).Nodup
 | .set S n => h.SetOf (intKind P w) a S n
 | .ins C dx fs => H dx = some (.own a) ∧ fs.length ≤ 1000 ∧ dx ≠ a ∧ h.get? a = some (PySem.W.instObj C dx) ∧
   ∃ mA, h.Ns1 dx mA ∧ (∀ f, RelO (fs.lookup f) (mA f)) ∧ PySem.Within mA (fs.map (·.1))
 | .own _ => ∃ o, h.get? a = some o
 | .xd fs => ∃ mA, h.Ns1 a mA ∧ ∀ f, RelO (fs.lookup f) (mA f)
 | .rng lo hi => ∃ t u v, h.get? a = some { cls := .type "range", data := .fields #[.int lo t, .int hi u, .int 1 v] }
 | .frz o u => h.get? a = some o ∧ ObjOk H h a u
 | .tbl ps => h.get? a = some { cls := .none, data := .fields ps }
 | .met f x => h.get? a = some (PySem.W.methodObj (.ref f) (.ref x))
 | .ext φ => φ h ∧ (∃ o, h.get? a = some o) ∧ ∀ h1 h2 : Heap, φ h1 → (∀ o, h1.get? a = some o → h2.get? a = some o) → φ h2
def HOk (H : Hp) (h : Heap) : Prop := ∀ a o, H a = some o → ObjOk P w H h a o
end
section
variable {P : Program} {w : World} {H H' : Hp} {h h' : Heap} {a : Addr} {o : HO}
theorem ObjOk.lt (x : ObjOk P w H h a o) : a < h.objs.size := by
 cases o with
 | lst xs => obtain ⟨_, _, _, _, e⟩ := x; exact Heap.lt_size e
 | tup xs => obtain ⟨_, _, _, p⟩ := x; exact p.lt
 | dK kvs => obtain ⟨_, _, _, _, o, _, _, e, _⟩ := x; exact Heap.lt_size e
 | dT kvs => obtain ⟨_, _, _, _, o, _, _, e, _⟩ := x; exact Heap.lt_size e
 | set S n => obtain ⟨o, _, _, _, e, _⟩ := x; exact Heap.lt_size e
 | ins C dx fs => obtain ⟨_, _, _, e, _⟩ := x; exact Heap.lt_size e
 | own y => obtain ⟨_, e⟩ := x; exact Heap.lt_size e
 | xd fs => obtain ⟨_, ⟨_, _, _, e, _⟩, _⟩ := x; exact Heap.lt_size e
 | rng lo hi => obtain ⟨_, _, _, e⟩ := x; exact Heap.lt_size e
 | frz ob u => obtain ⟨e, _⟩ := x; exact Heap.lt_size e
 | tbl ps => exact Heap.lt_size (show h.get? a = some _ from x)
 | met f y => exact Heap.lt_size (show h.get? a = some _ from x)
 | ext φ => obtain ⟨_, ⟨_, e⟩, _⟩ := x; exact Heap.lt_size e
theorem Paired.mapP {α β : Type} {F G : α → β → Prop} : ∀ {l₁ : List α} {l₂ : List β}, Paired F l₁ l₂ → (∀ a b, F a b → G a b) → Paired G l₁ l₂
 | _, _, .nil, _ => .nil
 | _, _, .cons r t, f => .cons (f _ _ r) (Paired.mapP t f)
theorem ObjOk.stay (x : ObjOk P w H h a o) (k : ∀ b u, (b = a ∨ H b = some (.own a)) → h.get? b = some u → h'.get? b = some u)
  (ho : ∀ b, H b = some (.own a) → H' b = some (.own a)) (ht : ∀ b xs, H b = some (.tup xs) → H' b = some (.tup xs)) : ObjOk P w H' h' a o := by
 induction o with
 | lst xs => obtain ⟨z, its, n, r, e⟩ := x; exact ⟨z, its, n, r, k _ _ (.inl rfl) e⟩
 | tup xs => obtain ⟨z, its, r, ob, e, c⟩ := x; exact ⟨z, its, r, ob, k _ _ (.inl rfl) e, c⟩
 | dK kvs => obtain ⟨z, y, vs, r, ob, es, ep, e, c⟩ := x; exact ⟨z, y, vs, r, ob, es, ep, k _ _ (.inl rfl) e, c⟩
 | dT kvs =>
  obtain ⟨z, y, xs, r, ob, es, ep, e, c⟩ := x
  exact ⟨z, y, xs, Paired.mapP r fun p q z => ⟨z.1, ht _ _ z.2.1, z.2.2⟩, ob, es, ep, k _ _ (.inl rfl) e, c⟩
 | set S n => obtain ⟨ob, es, ep, t, e, c⟩ := x; exact ⟨ob, es, ep, t, k _ _ (.inl rfl) e, c⟩
 | ins C dx fs =>
  obtain ⟨d, z, ne, e, mA, ⟨od, es, ep, e2, c⟩, r⟩ := x
  exact ⟨ho _ d, z, ne, k _ _ (.inl rfl) e, mA, ⟨od, es, ep, k _ _ (.inr d) e2, c⟩, r⟩
 | own y => obtain ⟨ob, e⟩ := x; exact ⟨ob, k _ _ (.inl rfl) e⟩
 | xd fs => obtain ⟨mA, ⟨od, es, ep, e, c⟩, r⟩ := x; exact ⟨mA, ⟨od, es, ep, k _ _ (.inl rfl) e, c⟩, r⟩
 | rng lo hi => obtain ⟨t, u, v, e⟩ := x; exact ⟨t, u, v, k _ _ (.inl rfl) e⟩
 | frz ob u ih => obtain ⟨e, q⟩ := x; exact ⟨k _ _ (.inl rfl) e, ih q⟩
 | tbl ps =>
  have e : h.get? a = some { cls := .none, data := .fields ps } := x
  show h'.get? a = some { cls := .none, data := .fields ps }
  exact k a _ (.inl rfl) e
 | met f y =>
  have e : h.get? a = some (PySem.W.methodObj (.ref f) (.ref y)) := x
  show h'.get? a = some (PySem.W.methodObj (.ref f) (.ref y))
  exact k a _ (.inl rfl) e
 | ext φ => obtain ⟨p, ⟨o, e⟩, st⟩ := x; exact ⟨st _ _ p fun o q => k _ _ (.inl rfl) q, ⟨o, k _ _ (.inl rfl) e⟩, st⟩
theorem HOk.lt (x : HOk P w H h) (e : H a = some o) : a < h.objs.size := (x a o e).lt
theorem HOk.fresh (x : HOk P w H h) (e : h.objs.size ≤ a) : H a = none := by
 cases q : H a with
 | none => rfl
 | some u => exact absurd (Nat.lt_of_lt_of_le (x.lt q) e) (Nat.lt_irrefl _)
theorem HOk.kept (x : HOk P w H h) (k : ∀ b u, h.get? b = some u → h'.get? b = some u) : HOk P w H h' := fun a o e =>
 (x a o e).stay (fun b u _ q => k b u q) (fun _ q => q) fun _ _ q => q
theorem HOk.laid (x : HOk P w H h) (k : ∀ b u, h.get? b = some u → h'.get? b = some u) (hp : h.objs.size ≤ a) (new : ObjOk P w (upd H a o) h' a o) : HOk P w (upd H a o) h' := fun b u e => by
 have hn := x.fresh hp
 by_cases hb : b = a
 ·subst hb; rw [aqh] at e; cases e; exact new
 ·rw [aqt hb] at e
  exact (x b u e).stay (fun c v _ q => k c v q) (fun c q => by rw [aqt (aqq q hn)]; exact q) fun c xs q => by rw [aqt (aqq q hn)]; exact q
end
def Rd (H : Hp) (a : Addr) (u : HO) : Prop := H a = some u ∨ ∃ o, H a = some (.frz o u)
theorem Rd.ok {P : Program} {w : World} {H : Hp} {h : Heap} {a : Addr} {u : HO} (r : Rd H a u) (x : HOk P w H h) : ObjOk P w H h a u := by
 rcases r with r | ⟨o, r⟩
 ·exact x a u r
 ·obtain ⟨_, q⟩ := x a _ r
  exact q
def Mut : Option HO → Prop
 | some (.lst _) => True
 | some (.dK _) => True
 | some (.dT _) => True
 | some (.set _ _) => True
 | some (.ins _ _ _) => True
 | some (.ext _) => True
 | _ => False
section
variable {P : Program} {w : World} {H : Hp} {h h' : Heap} {x e : Addr} {o' : HO}
theorem HOk.write (ok : HOk P w H h) (mu : Mut (H x)) (he : e = x ∨ H e = some (.own x)) (k : ∀ b u, b ≠ e → h.get? b = some u → h'.get? b = some u) (heo : ∃ u, h'.get? e = some u)
  (new : ObjOk P w (upd H x o') h' x o') : HOk P w (upd H x o') h' := fun b u q => by
 have nown : ∀ c y, H c = some (.own y) → c ≠ x := fun c y r z => by subst z; rw [r] at mu; exact mu
 have ntup : ∀ c xs, H c = some (.tup xs) → c ≠ x := fun c xs r z => by subst z; rw [r] at mu; exact mu
 by_cases hb : b = x
 ·subst hb; rw [aqh] at q; cases q; exact new
 ·rw [aqt hb] at q
  by_cases hbe : b = e
  ·have q' : H b = some (.own x) := by
    rcases he with z | z
    ·exact absurd (hbe.trans z) hb
    ·rw [hbe]; exact z
   rw [q] at q'; cases q'
   obtain ⟨v, hv⟩ := heo
   exact ⟨v, by rw [hbe]; exact hv⟩
  ·refine (ok b u q).stay (fun c v hc r => k c v ?_ r) (fun c r => by rw [aqt (nown c b r)]; exact r) fun c xs r => by rw [aqt (ntup c xs r)]; exact r
   rcases hc with rfl | hc
   ·exact hbe
   ·rintro rfl
    rcases he with z | z
    ·exact nown c b hc z
    ·rw [hc] at z; cases z; exact hb rfl
end
structure Un (fs ex : List Addr) (H H' : Hp) (h h' : Heap) : Prop where
 keep : ∀ b o, h.get? b = some o → H b = none → b ∉ fs → b ∉ ex → h'.get? b = some o
 slot : ∀ b o, h.get? b = some o → H b = none → b ∈ fs → b ∉ ex → ∃ sl, h'.get? b = some { o with slots := sl }
 free : ∀ b o, h.get? b = some o → H b = none → b ∉ ex → H' b = none
 there : ∀ b o, h.get? b = some o → b ∉ ex → ∃ o', h'.get? b = some o'
 tups : ∀ b xs, H b = some (.tup xs) → H' b = some (.tup xs)
 frzs : ∀ b o u, H b = some (.frz o u) → H' b = some (.frz o u)
 tbls : ∀ b ps, H b = some (.tbl ps) → ∃ more, H' b = some (.tbl (ps ++ more))
section
variable {fs fs' ex ex' : List Addr} {H H1 H2 : Hp} {h h1 h2 h' : Heap} {a x e : Addr} {o : HO}
theorem Un.any (u : Un fs ex H H1 h h1) {b : Addr} {ob : Obj} (q : h.get? b = some ob) (n : H b = none) (hx : b ∉ ex) : ∃ sl, h1.get? b = some { ob with slots := sl } := by
 by_cases hb : b ∈ fs
 ·exact u.slot b ob q n hb hx
 ·exact ⟨ob.slots, u.keep b ob q n hb hx⟩
theorem Un.kept (k : ∀ b u, h.get? b = some u → h'.get? b = some u) : Un fs ex H H h h' :=
 ⟨fun b ob q _ _ _ => k b ob q, fun b ob q _ _ _ => ⟨ob.slots, k b ob q⟩, fun _ _ _ n _ => n, fun b ob q _ => ⟨ob, k b ob q⟩, fun _ _ q => q, fun _ _ _ q => q, fun _ ps q => ⟨#[], by rw [q]; simp⟩⟩
theorem Un.refl : Un fs ex H H h h := Un.kept fun _ _ q => q
theorem Un.laid (k : ∀ b u, h.get? b = some u → h'.get? b = some u) (hp : h.objs.size ≤ a) (hn : H a = none) : Un fs ex H (upd H a o) h h' where
 keep := fun b u q _ _ _ => k b u q
 slot := fun b u q _ _ _ => ⟨u.slots, k b u q⟩
 free := fun b u q n _ => by rw [aqt (Nat.ne_of_lt (Nat.lt_of_lt_of_le (Heap.lt_size q) hp))]; exact n
 there := fun b u q _ => ⟨u, k b u q⟩
 tups := fun b xs q => by rw [aqt (aqq q hn)]; exact q
 frzs := fun b u xs q => by rw [aqt (aqq q hn)]; exact q
 tbls := fun b ps q => ⟨#[], by rw [aqt (aqq q hn), q]; simp⟩
theorem Un.write (mu : Mut (H x)) (he : e = x ∨ H e = some (.own x)) (k : ∀ b u, b ≠ e → h.get? b = some u → h'.get? b = some u) (heo : ∃ u, h'.get? e = some u) : Un fs ex H (upd H x o) h h' := by
 have hx : ∀ b, H b = none → b ≠ x := fun b n z => by subst z; rw [n] at mu; exact mu
 have hb : ∀ b, H b = none → b ≠ e := fun b n z => by
  subst z
  rcases he with r | r
  ·exact hx b n r
  ·rw [n] at r; cases r
 have hm : ∀ b u, H b = some u → ¬ Mut (some u) → b ≠ x := fun b u q nm z => by subst z; rw [q] at mu; exact nm mu
 refine ⟨fun b u q n _ _ => k b u (hb b n) q, fun b u q n _ _ => ⟨u.slots, k b u (hb b n) q⟩, fun b u q n _ => by rw [aqt (hx b n)]; exact n, fun b u q _ => ?_,
  fun b xs q => by rw [aqt (hm b _ q fun z => z)]; exact q, fun b u xs q => by rw [aqt (hm b _ q fun z => z)]; exact q, fun b ps q => ⟨#[], by rw [aqt (hm b _ q fun z => z), q]; simp⟩⟩
 by_cases hbe : b = e
 ·subst hbe; exact heo
 ·exact ⟨u, k b u hbe q⟩
end
def trk (h : Heap) (H : Hp) : List Addr := (List.range h.objs.size).filter fun a => (H a).isSome
def hidT (h : Heap) (H : Hp) : Heap := PySem.W.hideAll h (trk h H)
theorem pqN (h : Heap) (H : Hp) : (hidT h H).objs.size = h.objs.size := PySem.W.hideAll_size _ _
theorem qqt {h : Heap} {H : Hp} {b : Addr} {o : Obj} (e : h.get? b = some o) (n : H b = none) : (hidT h H).get? b = some o :=
 PySem.W.hideAll_get _ e fun hm => by
  have q : (H b).isSome = true := (List.mem_filter.mp hm).2
  rw [n] at q; simp at q
theorem tqu {h : Heap} {H : Hp} {b : Addr} {o : Obj} (e : (hidT h H).get? b = some o) : h.get? b = some o ∧ H b = none := by
 have e' : h.get? b = some o := PySem.W.of_hideAll (trk h H) e
 refine ⟨e', ?_⟩
 cases q : H b with
 | none => rfl
 | some x =>
  have hm : b ∈ trk h H := List.mem_filter.mpr ⟨List.mem_range.mpr (Heap.lt_size e'), by simp [q]⟩
  have z : (hidT h H).get? b = none := PySem.W.hideAll_none (trk h H) hm
  rw [z] at e; cases e
def allNews (g h : Heap) (L : Addr) : List (Addr × Obj) := (List.range h.objs.size).filterMap fun a => if a = L ∨ (g.get? a).isSome = true then none else (h.get? a).map fun o => (a, o)
def rest (g h : Heap) (L d : Addr) : List (Addr × Obj) := (allNews g h L).filter fun p => decide (p.1 ≠ d)
structure Mod (K : PySem.W.Frag) (mg : Str → Option Value) (base : Heap) : Prop where
 kin : K.In base
 glob : base.Ns mainGlobals mg
 blt : ∃ mb, base.Ns builtinsNs mb ∧ ∀ x : Str, x ≠ "__name__" → mb x = bootBuiltins x
 nolimit : base.NoLimit
structure Cx where
 prog : Program
 w : World
 K : PySem.W.Frag
 mg : Str → Option Value
 base : Heap
 A : Around
 N : List Str
 s₀ : Shared
 H₀ : Hp
 env : Env
 outer : List Env
 stack : List Env
 ex : List Addr
 fn : Str → Bool
 calm : Bool
 pn : List (Addr × Obj)
 xe : Value → Shared → Prop
def frs (l : List Env) : List Addr := l.filterMap (·.frame)
abbrev Cx.fs (X : Cx) : List Addr := frs X.outer
def Vis (sc : Scope) (x : Str) : Prop := sc.names.lookup x = some .local ∨ sc.names.lookup x = some .cell ∨ sc.names.lookup x = some .free
def Loc (sc : Scope) (x : Str) : Prop := sc.names.lookup x = some .local ∨ sc.names.lookup x = some .cell
def Look (env : Env) (h : Heap) (m : Str → Option Value) (x : Str) (u : Value) : Prop :=
 (env.kindOf x = some .local ∧ m x = some u) ∨ ((env.kindOf x = some .cell ∨ env.kindOf x = some .free) ∧ ∃ c, env.cells.lookup x = some c ∧ h.IsCell c (some u))
structure Cx.Ok (X : Cx) : Prop where
 mod : Mod X.K X.mg X.base
 kind : X.env.scope.kind = .function
 glob : X.env.globals = mainGlobals
 blt : X.env.builtins = builtinsNs
 above : X.s₀.heap.objs.size ≤ X.env.locals
 inj : ∀ x y c, X.env.cells.lookup x = some c → X.env.cells.lookup y = some c → x = y
 has : ∀ x, (X.env.kindOf x = some .cell ∨ X.env.kindOf x = some .free) → ∃ c, X.env.cells.lookup x = some c
 cab : ∀ x c, X.fn x = true → X.env.cells.lookup x = some c → X.s₀.heap.objs.size ≤ c
 hd : X.calm = true → X.A.handled = none
 frames : X.A.frames = some X.stack
 stk : X.stack = X.outer ∨ (X.stack = X.env :: X.outer ∧ X.env.frame = some X.env.locals)
 exf : ∀ b ∈ X.ex, b ≠ X.env.locals ∧ ∀ x c, X.env.cells.lookup x = some c → c ≠ b
 bs : ∀ b o, X.base.get? b = some o → X.s₀.heap.get? b = some o ∧ X.H₀ b = none
 bsz : X.base.objs.size ≤ X.s₀.heap.objs.size
 noex : ∀ b o, X.base.get? b = some o → b ∉ X.ex
 exfs : ∀ b ∈ X.ex, b ∉ X.fs
 funs : X.s₀.heap.FunFrames X.base X.outer
 frf : ∀ b ∈ X.fs, X.H₀ b = none
structure Inv (X : Cx) (pins : List (Addr × Obj)) (σ : List (Option V)) (H : Hp) (s : Shared) : Prop where
 ok : X.Ok
 os : s.os = X.s₀.os
 bare : AllBare s.gens
 base : Un X.fs X.ex X.H₀ H X.s₀.heap s.heap
 loc : ∃ m, s.heap.Ns X.env.locals m ∧ ∀ (i : Nat) (x : Str) (v : V), X.N[i]? = some x → σ[i]? = some (some v) → Vis X.env.scope x → ∃ u, RelV v u ∧ Look X.env s.heap m x u
 cell : ∀ x c, X.env.cells.lookup x = some c → ∃ v, s.heap.IsCell c v
 free : H X.env.locals = none
 freeC : ∀ x c, X.env.cells.lookup x = some c → H c = none
 pin : ∀ p ∈ X.pn ++ pins, s.heap.get? p.1 = some p.2 ∧ H p.1 = none ∧ p.1 ≠ X.env.locals ∧ p.1 ∉ X.fs ∧ ∀ v, p.2.data ≠ .cell v
 hok : HOk X.prog X.w H s.heap
 len : σ.length = X.N.length
section
variable {X : Cx} {pins : List (Addr × Obj)} {σ : List (Option V)} {H H' : Hp} {s : Shared} {h' : Heap}
theorem Cx.Ok.nofr (ok : X.Ok) {b : Addr} {o : Obj} (e : X.base.get? b = some o) : b ∉ X.fs := fun hb => by
 have := (ok.funs.mem hb).1
 rw [e] at this; cases this
theorem Inv.bs (I : Inv X pins σ H s) : ∀ b o, X.base.get? b = some o → s.heap.get? b = some o ∧ H b = none := fun b o e =>
 ⟨I.base.keep b o (I.ok.bs b o e).1 (I.ok.bs b o e).2 (I.ok.nofr e) (I.ok.noex b o e), I.base.free b o (I.ok.bs b o e).1 (I.ok.bs b o e).2 (I.ok.noex b o e)⟩
theorem Inv.bk (I : Inv X pins σ H s) : ∀ b o, X.base.get? b = some o → s.heap.get? b = some o := fun b o e => (I.bs b o e).1
theorem Inv.mod (I : Inv X pins σ H s) : Mod X.K X.mg X.base := I.ok.mod
theorem Inv.kIn (I : Inv X pins σ H s) : X.K.In s.heap := I.ok.mod.kin.keeps I.bk
theorem Inv.lt (I : Inv X pins σ H s) : X.env.locals < s.heap.objs.size := let ⟨_, hn, _⟩ := I.loc; hn.lt
theorem Inv.sz (I : Inv X pins σ H s) : X.s₀.heap.objs.size ≤ s.heap.objs.size := Nat.le_trans I.ok.above (Nat.le_of_lt I.lt)
theorem Inv.nofs (I : Inv X pins σ H s) {a : Addr} (h : s.heap.objs.size ≤ a) : a ∉ X.fs := fun hb => by
 obtain ⟨_, o, ho, _⟩ := I.ok.funs.mem hb
 exact absurd (Nat.lt_of_lt_of_le (Heap.lt_size ho) (Nat.le_trans I.sz h)) (Nat.lt_irrefl _)
theorem Inv.cne (I : Inv X pins σ H s) : ∀ x c, X.env.cells.lookup x = some c → c ≠ X.env.locals := fun x c e z => by
 obtain ⟨v, o, ho, hd⟩ := I.cell x c e
 obtain ⟨m, ⟨o', es, ep, ho', hd', _⟩, _⟩ := I.loc
 rw [z, ho'] at ho; cases ho; rw [hd'] at hd; cases hd
theorem Inv.funs (I : Inv X pins σ H s) : s.heap.FunFrames X.base X.outer := by
 have all : ∀ (l : List Env), (∀ b ∈ frs l, b ∈ X.fs) → X.s₀.heap.FunFrames X.base l → s.heap.FunFrames X.base l := by
  intro l
  induction l with
  | nil => intro _ _; trivial
  | cons env r ih =>
   intro hs hl
   obtain ⟨hk, ⟨L, o, hf, hn, ho, hd⟩, hr⟩ := hl
   have hL : L ∈ X.fs := hs L (by unfold frs; rw [List.filterMap_cons, hf]; exact List.mem_cons_self)
   obtain ⟨sl, e⟩ := I.base.slot L o ho (I.ok.frf L hL) hL fun z => I.ok.exfs L z hL
   exact ⟨hk, ⟨L, _, hf, hn, e, hd⟩, ih (fun b hb => hs b (by unfold frs; rw [List.filterMap_cons, hf]; exact List.mem_cons_of_mem _ hb)) hr⟩
 exact all X.outer (fun _ hb => hb) I.ok.funs
theorem Inv.stack (I : Inv X pins σ H s) : s.heap.FunFrames X.base X.stack := by
 rcases I.ok.stk with e | ⟨e, hf⟩
 ·rw [e]; exact I.funs
 ·rw [e]
  obtain ⟨m, hn, _⟩ := I.loc
  refine .cons (by rw [I.ok.kind]; decide) hf hn ?_ I.funs
  exact Heap.get?_none_of_le (Nat.le_trans I.ok.bsz I.ok.above)
theorem Inv.stkSub (I : Inv X pins σ H s) : ∀ b ∈ frs X.stack, b ∈ X.env.locals :: X.fs := fun b hb => by
 rcases I.ok.stk with e | ⟨e, hf⟩
 ·rw [e] at hb; exact List.mem_cons_of_mem _ hb
 ·rw [e] at hb
  unfold frs at hb
  rw [List.filterMap_cons, hf] at hb
  exact hb
theorem Inv.stkFree (I : Inv X pins σ H s) : ∀ b ∈ frs X.stack, H b = none := fun b hb => by
 rcases List.mem_cons.mp (I.stkSub b hb) with e | hb
 ·rw [e]; exact I.free
 ·obtain ⟨_, o, ho, _⟩ := I.ok.funs.mem hb
  exact I.base.free b o ho (I.ok.frf b hb) fun z => I.ok.exfs b z hb
theorem Inv.step {g' : Array GenState} {t' : Nat} {d' : Drawn} {ch : List Addr} (I : Inv X pins σ H s)
  (hch : ∀ b ∈ ch, (b ∈ X.ex ∨ X.s₀.heap.objs.size ≤ b) ∧ b ≠ X.env.locals ∧ (∀ x c, X.env.cells.lookup x = some c → c ≠ b) ∧ ∀ p ∈ X.pn ++ pins, p.1 ≠ b)
  (keep : ∀ b o, b ≠ X.env.locals → b ∉ X.fs → b ∉ ch → s.heap.get? b = some o → H b = none → h'.get? b = some o)
  (slot : ∀ b o, b ≠ X.env.locals → b ∈ X.fs → b ∉ ch → s.heap.get? b = some o → H b = none → ∃ sl, h'.get? b = some { o with slots := sl }) (free : ∀ b o, b ∉ ch → s.heap.get? b = some o → H b = none → H' b = none)
  (there : ∀ b o, b ∉ ch → s.heap.get? b = some o → ∃ o', h'.get? b = some o')
  (tups : ∀ b xs, H b = some (.tup xs) → H' b = some (.tup xs)) (frzs : ∀ b o u, H b = some (.frz o u) → H' b = some (.frz o u)) (tbls : ∀ b ps, H b = some (.tbl ps) → ∃ more, H' b = some (.tbl (ps ++ more)))
  (ns : ∀ m, s.heap.Ns X.env.locals m → h'.Ns X.env.locals m) (hok : HOk X.prog X.w H' h') (hg : AllBare g') :
  Inv X pins σ H' { s with heap := h', gens := g', drawn := d', toks := t' } := by
 have neL : ∀ b o, X.s₀.heap.get? b = some o → b ≠ X.env.locals := fun b o e => Nat.ne_of_lt (Nat.lt_of_lt_of_le (Heap.lt_size e) I.ok.above)
 have neC : ∀ b o, X.s₀.heap.get? b = some o → b ∉ X.ex → b ∉ ch := fun b o e hx hb => by
  rcases (hch b hb).1 with z | z
  ·exact hx z
  ·exact absurd (Nat.lt_of_lt_of_le (Heap.lt_size e) z) (Nat.lt_irrefl _)
 have cellK : ∀ x c, X.env.cells.lookup x = some c → ∀ v, s.heap.IsCell c v → h'.IsCell c v := fun x c e v ⟨o, ho, hd⟩ => by
  have nch : c ∉ ch := fun z => (hch c z).2.2.1 x c e rfl
  by_cases hc : c ∈ X.fs
  ·obtain ⟨sl, q⟩ := slot c o (I.cne x c e) hc nch ho (I.freeC x c e)
   exact ⟨_, q, hd⟩
  ·exact ⟨o, keep c o (I.cne x c e) hc nch ho (I.freeC x c e), hd⟩
 refine ⟨I.ok, I.os, hg, ⟨fun b o e n hb hx => ?_, fun b o e n hb hx => ?_, fun b o e n hx => ?_, fun b o e hx => ?_, fun b xs e => tups b xs (I.base.tups b xs e), fun b o xs e => frzs b o xs (I.base.frzs b o xs e), fun b ps e => ?_⟩, ?_, fun x c e => ?_, ?_, fun x c e => ?_, fun p hp => ?_, hok, I.len⟩
 ·exact keep b o (neL b o e) hb (neC b o e hx) (I.base.keep b o e n hb hx) (I.base.free b o e n hx)
 ·obtain ⟨sl, e1⟩ := I.base.slot b o e n hb hx
  obtain ⟨sl', e2⟩ := slot b _ (neL b o e) hb (neC b o e hx) e1 (I.base.free b o e n hx)
  exact ⟨sl', e2⟩
 ·obtain ⟨o', e1⟩ := I.base.there b o e hx
  exact free b o' (neC b o e hx) e1 (I.base.free b o e n hx)
 ·obtain ⟨o', e1⟩ := I.base.there b o e hx
  exact there b o' (neC b o e hx) e1
 ·obtain ⟨m1, e1⟩ := I.base.tbls b ps e
  obtain ⟨m2, e2⟩ := tbls b _ e1
  exact ⟨m1 ++ m2, by rw [e2, Array.append_assoc]⟩
 ·obtain ⟨m, hn, hl⟩ := I.loc
  refine ⟨m, ns m hn, fun i x v e1 e2 e3 => ?_⟩
  obtain ⟨u, r, l⟩ := hl i x v e1 e2 e3
  refine ⟨u, r, ?_⟩
  rcases l with l | ⟨k, c, e, z⟩
  ·exact .inl l
  ·exact .inr ⟨k, c, e, cellK x c e _ z⟩
 ·obtain ⟨v, z⟩ := I.cell x c e
  exact ⟨v, cellK x c e v z⟩
 ·obtain ⟨m, ⟨o, _, _, ho, _⟩, _⟩ := I.loc
  exact free _ o (fun z => (hch _ z).2.1 rfl) ho I.free
 ·obtain ⟨v, o, ho, hd⟩ := I.cell x c e
  exact free c o (fun z => (hch c z).2.2.1 x c e rfl) ho (I.freeC x c e)
 ·obtain ⟨e, n, ne, nf, d⟩ := I.pin p hp
  have nch : p.1 ∉ ch := fun z => (hch p.1 z).2.2.2 p hp rfl
  exact ⟨keep p.1 p.2 ne nf nch e n, free p.1 p.2 nch e n, ne, nf, d⟩
theorem Inv.un {t' : Nat} (I : Inv X pins σ H s) (u : Un X.fs [] H H' s.heap h') (hok : HOk X.prog X.w H' h') : Inv X pins σ H' { s with heap := h', toks := t' } := by
 obtain ⟨m, ⟨o, es, ep, ho, r⟩, _⟩ := id I.loc
 obtain ⟨sl, hL⟩ := u.any ho I.free (by simp)
 exact I.step (g' := s.gens) (d' := s.drawn) (ch := []) (fun _ z => nomatch z) (fun b o _ hb _ e n => u.keep b o e n hb (by simp)) (fun b o _ hb _ e n => u.slot b o e n hb (by simp)) (fun b o _ e n => u.free b o e n (by simp)) (fun b o _ e => u.there b o e (by simp)) u.tups u.frzs u.tbls (fun m' hm => by
  obtain ⟨o', es', ep', ho', r'⟩ := hm
  rw [ho] at ho'; cases ho'
  exact ⟨_, es', ep', hL, r'⟩) hok I.bare
theorem Inv.call {g' : Array GenState} {t' : Nat} {d' : Drawn} {ch : List Addr} (I : Inv X pins σ H s) (u : Un (frs X.stack) ch H H' s.heap h') (hok : HOk X.prog X.w H' h') (hg : AllBare g')
  (hch : ∀ b ∈ ch, (b ∈ X.ex ∨ X.s₀.heap.objs.size ≤ b) ∧ b ≠ X.env.locals ∧ (∀ x c, X.env.cells.lookup x = some c → c ≠ b) ∧ ∀ p ∈ X.pn ++ pins, p.1 ≠ b) :
  Inv X pins σ H' { s with heap := h', gens := g', drawn := d', toks := t' } := by
 obtain ⟨m, ⟨o, es, ep, ho, r⟩, _⟩ := id I.loc
 obtain ⟨sl, hL⟩ := u.any ho I.free fun z => (hch _ z).2.1 rfl
 exact I.step (ch := ch) hch (fun b o hL hb hc e n => u.keep b o e n (fun z => (List.mem_cons.mp (I.stkSub b z)).elim hL hb) hc) (fun b o _ _ hc e n => u.any e n hc) (fun b o hc e n => u.free b o e n hc) (fun b o hc e => u.there b o e hc) u.tups u.frzs u.tbls (fun m' hm => by
  obtain ⟨o', es', ep', ho', r'⟩ := hm
  rw [ho] at ho'; cases ho'
  exact ⟨_, es', ep', hL, r'⟩) hok hg
theorem Inv.turned {t' : Nat} {it : Addr} (I : Inv X pins σ H s) (k : ∀ b o, b ≠ it → s.heap.get? b = some o → h'.get? b = some o) (hn : H it = none) (hL : it ≠ X.env.locals)
  (h1 : it ∈ X.ex ∨ X.s₀.heap.objs.size ≤ it) (h2 : ∀ x c, X.env.cells.lookup x = some c → c ≠ it) (h3 : ∀ p ∈ X.pn ++ pins, p.1 ≠ it) : Inv X pins σ H { s with heap := h', toks := t' } := by
 have nit : ∀ b u, H b = some u → b ≠ it := fun b u e z => by rw [z, hn] at e; cases e
 refine I.step (g' := s.gens) (d' := s.drawn) (ch := [it]) (fun b hb => ?_) (fun b o _ _ hc e _ => k b o (fun z => hc (by simp [z])) e) (fun b o _ _ hc e _ => ⟨o.slots, k b o (fun z => hc (by simp [z])) e⟩) (fun _ _ _ _ n => n)
  (fun b o hc e => ⟨o, k b o (fun z => hc (by simp [z])) e⟩) (fun _ _ e => e) (fun _ _ _ e => e) (fun b ps e => ⟨#[], by rw [e]; simp⟩) (fun m hm => ?_) (fun b u e => ?_) I.bare
 ·have e : b = it := by simpa using hb
  subst e
  exact ⟨h1, hL, h2, h3⟩
 ·obtain ⟨o, es, ep, ho, r⟩ := hm
  exact ⟨o, es, ep, k _ o (Ne.symm hL) ho, r⟩
 ·refine (I.hok b u e).stay (fun c v hc q => k c v ?_ q) (fun _ q => q) fun _ _ q => q
  rcases hc with z | z
  ·rw [z]; exact nit b u e
  ·exact nit c _ z
theorem Inv.tok (I : Inv X pins σ H s) (t : Nat) : Inv X pins σ H { s with toks := t } := I.un (h' := s.heap) (t' := t) Un.refl I.hok
theorem Inv.kept {t' : Nat} (I : Inv X pins σ H s) (k : ∀ b u, s.heap.get? b = some u → h'.get? b = some u) : Inv X pins σ H { s with heap := h', toks := t' } := I.un (Un.kept k) (I.hok.kept k)
theorem Inv.laid {a : Addr} {o : HO} {t' : Nat} (I : Inv X pins σ H s) (k : ∀ b u, s.heap.get? b = some u → h'.get? b = some u) (hp : s.heap.objs.size ≤ a) (new : ObjOk X.prog X.w (upd H a o) h' a o) :
  Inv X pins σ (upd H a o) { s with heap := h', toks := t' } := I.un (Un.laid k hp (I.hok.fresh hp)) (I.hok.laid k hp new)
theorem Inv.write {x e : Addr} {o : HO} {t' : Nat} (I : Inv X pins σ H s) (mu : Mut (H x)) (he : e = x ∨ H e = some (.own x)) (k : ∀ b u, b ≠ e → s.heap.get? b = some u → h'.get? b = some u) (heo : ∃ u, h'.get? e = some u)
  (new : ObjOk X.prog X.w (upd H x o) h' x o) : Inv X pins σ (upd H x o) { s with heap := h', toks := t' } := I.un (Un.write mu he k heo) (I.hok.write mu he k heo new)
theorem Inv.pins_of {pins' : List (Addr × Obj)} (I : Inv X pins σ H s) (h : ∀ p ∈ pins', s.heap.get? p.1 = some p.2 ∧ H p.1 = none ∧ p.1 ≠ X.env.locals ∧ p.1 ∉ X.fs ∧ ∀ v, p.2.data ≠ .cell v) : Inv X pins' σ H s :=
 ⟨I.ok, I.os, I.bare, I.base, I.loc, I.cell, I.free, I.freeC, fun p hp => (List.mem_append.mp hp).elim (fun z => I.pin p (List.mem_append_left _ z)) (h p), I.hok, I.len⟩
theorem kqc {N : List Str} (hN : N.Nodup) {i j : Nat} {x : Str} (a : N[i]? = some x) (b : N[j]? = some x) : i = j := by
 obtain ⟨h1, e1⟩ := List.getElem?_eq_some_iff.mp a
 obtain ⟨h2, e2⟩ := List.getElem?_eq_some_iff.mp b
 exact (List.getElem_inj hN).mp (e1.trans e2.symm)
theorem pqo {M : Model} {A : Around} {E : Value → Shared → Prop} {i : Nat} {x : Str} {v : V} {u : Value} {Q : Unit → Shared → Prop} (I : Inv X pins σ H s) (hN : X.N.Nodup) (hi : X.N[i]? = some x) (hx : Loc X.env.scope x) (r : RelV v u)
  (h : ∀ s', Inv X pins (σ.set i (some v)) H s' → (∃ a, Heap.SameBut a s.heap s'.heap ∧ (a = X.env.locals ∨ X.env.cells.lookup x = some a)) → Q () s') (hf : X.fn x = true ∨ X.env.scope.names.lookup x = some .local := by first | exact .inl rfl | exact .inr rfl | assumption) : wpAny M A (storeName X.env x u) Q E s := by
 obtain ⟨m, hn, hl⟩ := id I.loc
 have hcls : (X.env.scope.kind == .class || (X.env.scope.kind == .module && X.env.locals != X.env.globals)) = false := by rw [I.ok.kind]; rfl
 have hiσ : i < σ.length := by rw [I.len]; exact (List.getElem?_eq_some_iff.mp hi).1
 have cne := I.cne
 have tracked : ∀ {a : Addr} {h' : Heap}, (∃ o, s.heap.get? a = some o ∧ H a = none) → Heap.SameBut a s.heap h' → HOk X.prog X.w H h' := fun {a h'} ha hs b ob e => by
  obtain ⟨_, _, hfree⟩ := ha
  refine (I.hok b ob e).stay (fun c w' hc q => (hs.2 c ?_).trans q) (fun _ q => q) fun _ _ q => q
  rintro rfl
  rcases hc with rfl | hc
  ·rw [hfree] at e; cases e
  ·rw [hfree] at hc; cases hc
 rcases hx with hk | hk
 ·refine wpAny_storeName_local hk hn (fun h' hn' hs => ?_) hcls
  obtain ⟨oL, _, _, hoL, _⟩ := id hn
  refine h _ ⟨I.ok, I.os, I.bare, ⟨fun b o e n hb hx => ?_, fun b o e n hb hx => ?_, I.base.free, fun b o e hx => ?_, I.base.tups, I.base.frzs, I.base.tbls⟩, ⟨_, hn', fun j y v' e1 e2 e3 => ?_⟩, fun y c e => ?_, I.free, I.freeC, fun p hp => ?_, tracked ⟨oL, hoL, I.free⟩ hs, by simpa using I.len⟩ ⟨_, hs, .inl rfl⟩
  ·exact (hs.2 b (Nat.ne_of_lt (Nat.lt_of_lt_of_le (Heap.lt_size e) I.ok.above))).trans (I.base.keep b o e n hb hx)
  ·obtain ⟨sl, e1⟩ := I.base.slot b o e n hb hx
   exact ⟨sl, (hs.2 b (Nat.ne_of_lt (Nat.lt_of_lt_of_le (Heap.lt_size e) I.ok.above))).trans e1⟩
  ·obtain ⟨o', e1⟩ := I.base.there b o e hx
   exact ⟨o', (hs.2 b (Nat.ne_of_lt (Nat.lt_of_lt_of_le (Heap.lt_size e) I.ok.above))).trans e1⟩
  ·by_cases hj : j = i
   ·subst hj
    rw [hi] at e1; cases e1
    rw [List.getElem?_set_self hiσ] at e2
    cases e2
    exact ⟨u, r, .inl ⟨hk, by simp⟩⟩
   ·rw [List.getElem?_set_ne (Ne.symm hj)] at e2
    obtain ⟨u', r', q⟩ := hl j y v' e1 e2 e3
    refine ⟨u', r', ?_⟩
    rcases q with ⟨k, e⟩ | ⟨k, c, e, z⟩
    ·refine .inl ⟨k, ?_⟩
     have : y ≠ x := fun e => hj (kqc hN e1 (e ▸ hi))
     simp [this, e]
    ·exact .inr ⟨k, c, e, z.sameBut hs (cne y c e)⟩
  ·obtain ⟨w', z⟩ := I.cell y c e
   exact ⟨w', z.sameBut hs (cne y c e)⟩
  ·obtain ⟨e, n, ne, nf, d⟩ := I.pin p hp
   exact ⟨(hs.2 p.1 ne).trans e, n, ne, nf, d⟩
 ·have hfn : X.fn x = true := by
   rcases hf with z | z
   ·exact z
   ·rw [z] at hk; cases hk
  obtain ⟨c, hc⟩ := I.ok.has x (.inl hk)
  obtain ⟨w', z⟩ := I.cell x c hc
  refine wpAny_storeName_cell I.ok.kind hk hc z (fun h' hc' hs => ?_)
  obtain ⟨oc, hoc, hocd⟩ := id z
  refine h { s with heap := h' } ⟨I.ok, I.os, I.bare, ⟨fun b o e n hb hx => ?_, fun b o e n hb hx => ?_, I.base.free, fun b o e hx => ?_, I.base.tups, I.base.frzs, I.base.tbls⟩, ⟨m, hn.sameBut hs (Ne.symm (cne x c hc)), fun j y v' e1 e2 e3 => ?_⟩, fun y c' e => ?_, I.free, I.freeC, fun p hp => ?_, tracked ⟨oc, hoc, I.freeC x c hc⟩ hs, by simpa using I.len⟩ ⟨c, hs, .inr hc⟩
  ·exact (hs.2 b (Nat.ne_of_lt (Nat.lt_of_lt_of_le (Heap.lt_size e) (I.ok.cab x c hfn hc)))).trans (I.base.keep b o e n hb hx)
  ·obtain ⟨sl, e1⟩ := I.base.slot b o e n hb hx
   exact ⟨sl, (hs.2 b (Nat.ne_of_lt (Nat.lt_of_lt_of_le (Heap.lt_size e) (I.ok.cab x c hfn hc)))).trans e1⟩
  ·obtain ⟨o', e1⟩ := I.base.there b o e hx
   exact ⟨o', (hs.2 b (Nat.ne_of_lt (Nat.lt_of_lt_of_le (Heap.lt_size e) (I.ok.cab x c hfn hc)))).trans e1⟩
  ·by_cases hj : j = i
   ·subst hj
    rw [hi] at e1; cases e1
    rw [List.getElem?_set_self hiσ] at e2
    cases e2
    exact ⟨u, r, .inr ⟨.inl hk, c, hc, hc'⟩⟩
   ·rw [List.getElem?_set_ne (Ne.symm hj)] at e2
    obtain ⟨u', r', q⟩ := hl j y v' e1 e2 e3
    refine ⟨u', r', ?_⟩
    rcases q with q | ⟨k, c', e, z'⟩
    ·exact .inl q
    ·refine .inr ⟨k, c', e, z'.sameBut hs ?_⟩
     rintro rfl
     exact hj (kqc hN e1 (I.ok.inj _ _ _ e hc ▸ hi))
  ·by_cases hcc : c' = c
   ·subst hcc; exact ⟨_, hc'⟩
   ·obtain ⟨w2, z2⟩ := I.cell y c' e
    exact ⟨w2, z2.sameBut hs hcc⟩
  ·obtain ⟨e, n, ne, nf, d⟩ := I.pin p hp
   refine ⟨(hs.2 p.1 ?_).trans e, n, ne, nf, d⟩
   intro q
   rw [q, hoc] at e
   have q' : oc = p.2 := Option.some.inj e
   exact d w' (by rw [← q']; exact hocd)
theorem kqv {M : Model} {A : Around} {E : Value → Shared → Prop} {i : Nat} {x : Str} {v : V} {u : Value} {Q : Unit → Shared → Prop} (I : Inv X pins σ H s) (hN : X.N.Nodup) (hi : X.N[i]? = some x) (hx : Loc X.env.scope x) (r : RelV v u)
  (h : ∀ s', Inv X pins (σ.set i (some v)) H s' → Q () s') (hf : X.fn x = true ∨ X.env.scope.names.lookup x = some .local := by first | exact .inl rfl | exact .inr rfl | assumption) : wpAny M A (storeName X.env x u) Q E s :=
 pqo I hN hi hx r (fun s' I' _ => h s' I') hf
theorem Inv.call' {s' : Shared} {ch : List Addr} (I : Inv X pins σ H s) (ho : s'.os = s.os) (u : Un (frs X.stack) ch H H' s.heap s'.heap) (hok : HOk X.prog X.w H' s'.heap) (hg : AllBare s'.gens)
  (hch : ∀ b ∈ ch, (b ∈ X.ex ∨ X.s₀.heap.objs.size ≤ b) ∧ b ≠ X.env.locals ∧ (∀ x c, X.env.cells.lookup x = some c → c ≠ b) ∧ ∀ p ∈ X.pn ++ pins, p.1 ≠ b) : Inv X pins σ H' s' := by
 obtain ⟨h', g', d', t', o'⟩ := s'
 have e : o' = s.os := ho
 subst e
 exact I.call (g' := g') (t' := t') (d' := d') u hok hg hch
end
abbrev XK := Value → Option Addr → Hp → Prop
abbrev St := List (Option V)
abbrev VK := V → Hp → Prop
abbrev TE := St → Hp → VK → Prop
abbrev TT := St → Hp → (Bool → Hp → Prop) → Prop
abbrev TA := St → Hp → (List V → Hp → Prop) → Prop
structure Ends where
 nx : St → Hp → Prop
 rt : VK
 bk : St → Hp → Prop := fun _ _ => False
 ct : St → Hp → Prop := fun _ _ => False
abbrev TS := Ends → St → Hp → Prop
def EP (X : Cx) (pins : List (Addr × Obj)) (σ : St) (Q : VK) (u : Value) (s' : Shared) : Prop := ∃ v H', Inv X pins σ H' s' ∧ RelV v u ∧ Q v H'
def TP (X : Cx) (pins : List (Addr × Obj)) (σ : St) (Q : Bool → Hp → Prop) (b : Bool) (s' : Shared) : Prop := ∃ H', Inv X pins σ H' s' ∧ Q b H'
def AP (X : Cx) (pins : List (Addr × Obj)) (σ : St) (Q : List V → Hp → Prop) (us : List Value) (s' : Shared) : Prop := ∃ vs H', Inv X pins σ H' s' ∧ Vals vs us ∧ Q vs H'
def SP (X : Cx) (pins : List (Addr × Obj)) (D : Ends) (f : Flow) (s' : Shared) : Prop :=
 match f with
 | .next => ∃ σ' H', Inv X pins σ' H' s' ∧ D.nx σ' H'
 | .brk => ∃ σ' H', Inv X pins σ' H' s' ∧ D.bk σ' H'
 | .cont => ∃ σ' H', Inv X pins σ' H' s' ∧ D.ct σ' H'
 | .ret u => ∃ v σ' H', Inv X pins σ' H' s' ∧ RelV v u ∧ D.rt v H'
def PE (X : Cx) (e : Expr) (t : TE) : Prop :=
 ∀ (pins : List (Addr × Obj)) (s : Shared) (σ : St) (H : Hp) (Q : VK), Inv X pins σ H s → t σ H Q → wpAny (model X.prog X.w) X.A (eval e X.env) (EP X pins σ Q) X.xe s
def PT (X : Cx) (e : Expr) (t : TT) : Prop :=
 ∀ (pins : List (Addr × Obj)) (s : Shared) (σ : St) (H : Hp) (Q : Bool → Hp → Prop), Inv X pins σ H s → t σ H Q → wpAny (model X.prog X.w) X.A (isTrue e X.env (eval e X.env)) (TP X pins σ Q) X.xe s
def PW (X : Cx) (e : Expr) (t : TT) : Prop :=
 ∀ (whole : Sem Value) (pins : List (Addr × Obj)) (s : Shared) (σ : St) (H : Hp) (Q : Bool → Hp → Prop), Inv X pins σ H s → t σ H Q → wpAny (model X.prog X.w) X.A (isTrue e X.env whole) (TP X pins σ Q) X.xe s
theorem PW.pt {X : Cx} {e : Expr} {t : TT} (h : PW X e t) : PT X e t := h _
def PA (X : Cx) (es : List Expr) (t : TA) : Prop :=
 ∀ (pos : Pos) (pins : List (Addr × Obj)) (s : Shared) (σ : St) (H : Hp) (Q : List V → Hp → Prop), Inv X pins σ H s → t σ H Q → wpAny (model X.prog X.w) X.A (spliced (backTo pos (starEach es X.env))) (AP X pins σ Q) X.xe s
def PS (X : Cx) (st : Stmt) (t : TS) : Prop :=
 ∀ (pins : List (Addr × Obj)) (s : Shared) (σ : St) (H : Hp) (D : Ends), Inv X pins σ H s → t D σ H → wpAny (model X.prog X.w) X.A (exec st X.env) (SP X pins D) X.xe s
def PSs (X : Cx) (st : List Stmt) (t : TS) : Prop :=
 ∀ (pins : List (Addr × Obj)) (s : Shared) (σ : St) (H : Hp) (D : Ends), Inv X pins σ H s → t D σ H → wpAny (model X.prog X.w) X.A (execs st X.env) (SP X pins D) X.xe s
theorem thn {α : Type} {t : Sem α} {Q Q' : α → Shared → Prop} {M : Model} {A : Around} {E : Value → Shared → Prop} {s : Shared} (h : wpAny M A t Q E s) (hQ : ∀ a s, Q a s → Q' a s) : wpAny M A t Q' E s := wpAny_mono h hQ fun _ _ x => x
section
variable {X : Cx}
theorem bin {a b : Expr} {ta tb : TE} (ha : PE X a ta) (hb : PE X b tb) {pins : List (Addr × Obj)} {s : Shared} {σ : St} {H : Hp} {R : V → V → Hp → Prop} (I : Inv X pins σ H s) (h : ta σ H fun x H1 => tb σ H1 fun y H2 => R x y H2)
  {α : Type} {Q : α → Shared → Prop} {f : Value → Value → Sem α}
  (hf : ∀ v u s2 x y H2, Inv X pins σ H2 s2 → RelV x v → RelV y u → R x y H2 → wpAny (model X.prog X.w) X.A (f v u) Q X.xe s2) :
  wpAny (model X.prog X.w) X.A (eval a X.env) (fun v s₁ => wpAny (model X.prog X.w) X.A (eval b X.env) (fun u s₂ => wpAny (model X.prog X.w) X.A (f v u) Q X.xe s₂) X.xe s₁) X.xe s := by
 refine thn (ha pins s σ H _ I h) fun v s1 W' => ?_
 obtain ⟨x, H1, I1, r1, q1⟩ := W'
 refine thn (hb pins s1 σ H1 _ I1 q1) fun u s2 W' => ?_
 obtain ⟨y, H2, I2, r2, q2⟩ := W'
 exact hf v u s2 x y H2 I2 r1 r2 q2
def tVar (i : Nat) : TE := fun σ H Q => ∃ v, σ[i]? = some (some v) ∧ Q v H
def tC (v : V) : TE := fun _ H Q => Q v H
theorem tqQ {i : Nat} {x : Str} {pos : Pos} (hN : X.N[i]? = some x) (hv : Vis X.env.scope x) (hd : (x == ("__debug__" : Str)) = false := by decide) (hcd : (x == ("__classdict__" : Str)) = false := by decide) : PE X (.Name x pos) (tVar i) := by
 intro pins s σ H Q I h
 obtain ⟨v, e, h⟩ := h
 obtain ⟨m, hn, hl⟩ := I.loc
 obtain ⟨u, r, l⟩ := hl i x v hN e hv
 have fin : EP X pins σ Q u s := ⟨v, H, I, r, h⟩
 rcases l with ⟨hk, hm⟩ | ⟨hk, c, hc, hcell⟩
 ·exact wpAny_Name (wpAny_loadName_local I.ok.kind hk hn hm fin) hd
 ·rcases hk with hk | hk
  ·exact wpAny_Name (wpAny_loadName_cell I.ok.kind hk hc hcell fin) hd
  ·exact wpAny_Name (wpAny_loadName_free I.ok.kind hk hc hcell fin hcd) hd
theorem aqe {i j pos} : PE X (.Constant (.int i) j pos) (tC (.int i)) := fun _ _ _ H _ I h => wpAny_Constant_int ⟨.int i, H, I.tok _, ⟨_, rfl⟩, h⟩
theorem dqQ {b j pos} : PE X (.Constant (.bool b) j pos) (tC (.bl b)) := fun _ _ _ H _ I h => Constant_bool ⟨.bl b, H, I, rfl, h⟩
theorem aqM {j pos} : PE X (.Constant .none j pos) (tC .non) := fun _ _ _ H _ I h => Constant_none ⟨.non, H, I, rfl, h⟩
theorem aqs {x j pos} : PE X (.Constant (.str x) j pos) (tC (.str x)) := fun _ _ _ H _ I h => Calls.Constant_str ⟨.str x, H, I.tok _, ⟨_, rfl⟩, h⟩
def Gl (X : Cx) (x : Str) : Prop := X.env.kindOf x = some .globalImplicit
theorem eqC {E : Value → Shared → Prop} {pins : List (Addr × Obj)} {s : Shared} {σ : St} {H : Hp} {x : Str} {u : Value} {pos : Pos} {Q : Value → Shared → Prop} (I : Inv X pins σ H s) (hg : Gl X x) (hm : X.mg x = some u) (h : Q u s)
  (hd : (x == ("__debug__" : Str)) = false := by decide) : wpAny (model X.prog X.w) X.A (eval (.Name x pos) X.env) Q E s :=
 Calls.Name_function_global I.ok.kind hg (Calls.loadGlobal_global (by rw [I.ok.glob]; exact I.mod.glob.keeps I.bk) hm h) hd
theorem mqQ {E : Value → Shared → Prop} {pins : List (Addr × Obj)} {s : Shared} {σ : St} {H : Hp} {x : Str} {u : Value} {pos : Pos} {Q : Value → Shared → Prop} (I : Inv X pins σ H s) (hg : Gl X x) (hm : X.mg x = none) (hv : bootBuiltins x = some u) (h : Q u s)
  (hn : x ≠ "__name__" := by decide) (hd : (x == ("__debug__" : Str)) = false := by decide) : wpAny (model X.prog X.w) X.A (eval (.Name x pos) X.env) Q E s := by
 obtain ⟨mb, h1, h2⟩ := I.mod.blt
 exact Calls.Name_function_global I.ok.kind hg (Calls.loadGlobal_builtin (by rw [I.ok.glob]; exact I.mod.glob.keeps I.bk) hm (by rw [I.ok.blt]; exact h1.keeps I.bk) ((h2 x hn).trans hv) h) hd
theorem aqf {x : Str} {v : V} {u : Value} {pos : Pos} (hg : Gl X x) (hm : X.mg x = some u) (r : RelV v u) (hd : (x == ("__debug__" : Str)) = false := by decide) : PE X (.Name x pos) (tC v) :=
 fun _ _ _ H _ I h => eqC I hg hm ⟨v, H, I, r, h⟩ hd
theorem hqQ {x : Str} {v : V} {u : Value} {pos : Pos} (hg : Gl X x) (hm : X.mg x = none) (hv : bootBuiltins x = some u) (r : RelV v u) (hn : x ≠ "__name__" := by decide) (hd : (x == ("__debug__" : Str)) = false := by decide) : PE X (.Name x pos) (tC v) :=
 fun _ _ _ H _ I h => mqQ I hg hm hv ⟨v, H, I, r, h⟩ hn hd
variable {a b : Expr} {ta tb : TE} {pos : Pos}
def PC (X : Cx) (op : CmpOp) (a b : Expr) (t : TE) : Prop :=
 ∀ (pins : List (Addr × Obj)) (s : Shared) (σ : St) (H : Hp) (Q : VK), Inv X pins σ H s → t σ H Q →
  wpAny (model X.prog X.w) X.A (eval a X.env) (fun v s₁ => wpAny (model X.prog X.w) X.A (eval b X.env) (fun u s₂ => wpAny (model X.prog X.w) X.A (compareOp op v u) (EP X pins σ Q) X.xe s₂) X.xe s₁) X.xe s
def tB (t : TE) : TT := fun σ H Q => t σ H fun x H1 => ∃ c, x = .bl c ∧ Q c H1
theorem vqK {op : CmpOp} {t : TE} (h : PC X op a b t) (h1 : behindInMarks op b = false := by first | exact nobehind _ (by decide) (by decide) | rfl) : PT X (.Compare a [op] [b] pos) (tB t) := by
 intro pins s σ H Q I hw
 refine wpAny_isTrue_Compare1 (thn (h pins s σ H _ I hw) fun v s1 h1 => thn h1 fun u s2 h2 => thn h2 fun c s3 W' => ?_) h1
 obtain ⟨x, H1, I1, r1, q1⟩ := W'
 obtain ⟨d, rfl, q⟩ := q1
 cases r1
 exact wpAny_truthy_bool ⟨H1, I1, q⟩
theorem aqI {e : Expr} {t : TE} (h : PE X e t) (he : ∀ whole, isTrue e X.env whole = (do let v ← whole; standAt e.pos; holding [v] (truthy v)) := by intro _; rfl) : PT X e (tB t) := by
 intro pins s σ H Q I hw
 refine isTrue_plain (thn (h pins s σ H _ I hw) fun v s1 W' => ?_) (he _)
 obtain ⟨x, H1, I1, r1, q1⟩ := W'
 obtain ⟨d, rfl, q⟩ := q1
 cases r1
 exact wpAny_truthy_bool ⟨H1, I1, q⟩
variable {tA tB' : TT} {rest : List Expr}
def tAnd (t u : TT) : TT := fun σ H Q => t σ H fun c H1 => if c = true then u σ H1 Q else Q false H1
def tOr (t u : TT) : TT := fun σ H Q => t σ H fun c H1 => if c = true then Q true H1 else u σ H1 Q
def tNot (t : TT) : TT := fun σ H Q => t σ H fun c H1 => Q (!c) H1
theorem fqD (ha : PT X a tA) : PW X (.BoolOp .And [a] pos) tA := by
 intro wh pins s σ H Q I h
 refine isTrue_and (thn (ha pins s σ H Q I h) fun c s1 e => ?_)
 cases c with
 | true => exact isTrue_and_nil e
 | false => exact e
theorem dqW (ha : PT X a tA) : PW X (.BoolOp .Or [a] pos) tA := by
 intro wh pins s σ H Q I h
 refine isTrue_or (thn (ha pins s σ H Q I h) fun c s1 e => ?_)
 cases c with
 | false => exact isTrue_or_nil e
 | true => exact e
theorem gqS (ha : PT X a tA) (hb : PW X (.BoolOp .And (b :: rest) pos) tB') : PW X (.BoolOp .And (a :: b :: rest) pos) (tAnd tA tB') := by
 intro wh pins s σ H Q I h
 refine isTrue_and (thn (ha pins s σ H _ I h) fun c s1 W' => ?_)
 obtain ⟨H1, I1, q1⟩ := W'
 cases c with
 | true => exact hb wh pins s1 σ H1 Q I1 q1
 | false => exact ⟨H1, I1, q1⟩
theorem eq9 (ha : PT X a tA) (hb : PW X (.BoolOp .Or (b :: rest) pos) tB') : PW X (.BoolOp .Or (a :: b :: rest) pos) (tOr tA tB') := by
 intro wh pins s σ H Q I h
 refine isTrue_or (thn (ha pins s σ H _ I h) fun c s1 W' => ?_)
 obtain ⟨H1, I1, q1⟩ := W'
 cases c with
 | true => exact ⟨H1, I1, q1⟩
 | false => exact hb wh pins s1 σ H1 Q I1 q1
theorem bqY (ha : PT X a tA) : PT X (.UnaryOp .Not a pos) (tNot tA) := by
 intro pins s σ H Q I h
 exact isTrue_not (ha pins s σ H (fun c H1 => Q (!c) H1) I h)
def tAndV (ta tb : TE) : TE := fun σ H Q => ta σ H fun x H1 => ∃ c, x = .bl c ∧ if c = true then tb σ H1 Q else Q (.bl false) H1
def tOrV (ta tb : TE) : TE := fun σ H Q => ta σ H fun x H1 => ∃ c, x = .bl c ∧ if c = true then Q (.bl true) H1 else tb σ H1 Q
def tNotV (ta : TE) : TE := fun σ H Q => ta σ H fun x H1 => ∃ c, x = .bl c ∧ Q (.bl (!c)) H1
theorem fqq {op} {t : TE} (h : PE X a t) : PE X (.BoolOp op [a] pos) t := fun pins s σ H Q I hw => BoolOp_one (h pins s σ H Q I hw)
theorem iqh (ha : PE X a ta) (hb : PE X (.BoolOp .And (b :: rest) pos) tb) : PE X (.BoolOp .And (a :: b :: rest) pos) (tAndV ta tb) := by
 intro pins s σ H Q I h
 refine BoolOp_and (thn (ha pins s σ H _ I h) fun v s1 W' => ?_)
 obtain ⟨x, H1, I1, r1, q1⟩ := W'
 obtain ⟨c, rfl, q1⟩ := q1
 cases r1
 refine wpAny_truthy_bool ?_
 cases c with
 | true => exact hb pins s1 σ H1 Q I1 q1
 | false => exact ⟨.bl false, H1, I1, rfl, q1⟩
theorem pqI (ha : PE X a ta) (hb : PE X (.BoolOp .Or (b :: rest) pos) tb) : PE X (.BoolOp .Or (a :: b :: rest) pos) (tOrV ta tb) := by
 intro pins s σ H Q I h
 refine BoolOp_or (thn (ha pins s σ H _ I h) fun v s1 W' => ?_)
 obtain ⟨x, H1, I1, r1, q1⟩ := W'
 obtain ⟨c, rfl, q1⟩ := q1
 cases r1
 refine wpAny_truthy_bool ?_
 cases c with
 | false => exact hb pins s1 σ H1 Q I1 q1
 | true => exact ⟨.bl true, H1, I1, rfl, q1⟩
theorem oqn (ha : PE X a ta) : PE X (.UnaryOp .Not a pos) (tNotV ta) := by
 intro pins s σ H Q I h
 refine UnaryOp_ (thn (ha pins s σ H _ I h) fun v s1 W' => ?_)
 obtain ⟨x, H1, I1, r1, q1⟩ := W'
 obtain ⟨c, rfl, q1⟩ := q1
 cases r1
 exact not_of (wpAny_truthy_bool ⟨.bl (!c), H1, I1, rfl, q1⟩)
def tIf (t : TT) (ta tb : TE) : TE := fun σ H Q => t σ H fun c H1 => if c = true then ta σ H1 Q else tb σ H1 Q
theorem aq4 {c : Expr} (hc : PT X c tA) (ha : PE X a ta) (hb : PE X b tb) : PE X (.IfExp c a b pos) (tIf tA ta tb) := by
 intro pins s σ H Q I h
 refine wpAny_IfExp (thn (hc pins s σ H _ I h) fun d s1 W' => ?_)
 obtain ⟨H1, I1, q1⟩ := W'
 cases d with
 | true => exact ha pins s1 σ H1 Q I1 q1
 | false => exact hb pins s1 σ H1 Q I1 q1
end
def SqL (K : PySem.W.Frag) (H : Hp) (a : Addr) (xs : List V) : Prop :=
 Rd H a (.lst xs) ∨
  ∃ (o : Obj) (its : Array Value) (n : Nat), K.lookup a = some o ∧ o.cls = .type "list" ∧ o.dict = none ∧ o.data = .seq its n ∧ its.size ≤ sizeLine ∧ Vals xs its.toList
def SqT (K : PySem.W.Frag) (H : Hp) (a : Addr) (xs : List V) : Prop :=
 Rd H a (.tup xs) ∨
  ∃ (o : Obj) (its : Array Value) (n : Nat), K.lookup a = some o ∧ o.cls = .type "tuple" ∧ o.data = .seq its n ∧ its.size ≤ sizeLine ∧ Vals xs its.toList
def absV : Value → Option V
 | .none => some .non
 | .bool b => some (.bl b)
 | .int i _ => some (.int i)
 | .str x _ => some (.str x)
 | .bytes b _ => some (.byt b)
 | .float b _ => some (.flt b)
 | .ref a => some (.ref a)
 | .type n => some (.ty n)
 | _ => none
theorem RelV.abs {x : V} {u : Value} (r : RelV x u) : absV u = some x := by
 cases x with
 | non => cases r; rfl
 | bl _ => cases r; rfl
 | int _ => obtain ⟨t, rfl⟩ := r; rfl
 | str _ => obtain ⟨t, rfl⟩ := r; rfl
 | byt _ => obtain ⟨t, rfl⟩ := r; rfl
 | flt _ => obtain ⟨t, rfl⟩ := r; rfl
 | ref _ => cases r; rfl
 | ty _ => cases r; rfl
theorem RelV.inj {x y : V} {u : Value} (r : RelV x u) (q : RelV y u) : x = y := Option.some.inj (r.abs.symm.trans q.abs)
theorem Vals.inj : ∀ {xs ys : List V} {us : List Value}, Vals xs us → Vals ys us → xs = ys
 | _, _, _, .nil, .nil => rfl
 | _, _, _, .cons r t, .cons r' t' => by rw [r.inj r', Vals.inj t t']
section
variable {X : Cx} {pins : List (Addr × Obj)} {σ : St} {H : Hp} {s : Shared} {a : Addr} {xs ys : List V}
theorem SqL.of {K : PySem.W.Frag} (h : H a = some (.lst xs)) : SqL K H a xs := .inl (.inl h)
theorem SqT.of {K : PySem.W.Frag} (h : H a = some (.tup xs)) : SqT K H a xs := .inl (.inl h)
theorem Inv.list (I : Inv X pins σ H s) (h : SqL X.K H a xs) : ∃ its : List Value, Vals xs its ∧ PlainL s.heap a its.toArray ∧ xs.length ≤ sizeLine := by
 rcases h with h | ⟨o, its, n, hk, hc, hd, hs, hz, r⟩
 ·obtain ⟨z, its, n, r, e⟩ := h.ok I.hok
  exact ⟨its, r, ⟨_, n, e, rfl, rfl, rfl⟩, z⟩
 ·refine ⟨its.toList, r, ⟨o, n, I.kIn a o hk, hc, hd, by simpa using hs⟩, ?_⟩
  have e := r.length
  simp only [Array.length_toList] at e
  lia
theorem Inv.tuple (I : Inv X pins σ H s) (h : SqT X.K H a xs) : ∃ its : List Value, Vals xs its ∧ IsTup s.heap a its.toArray ∧ xs.length ≤ sizeLine := by
 rcases h with h | ⟨o, its, n, hk, hc, hs, hz, r⟩
 ·obtain ⟨z, its, r, p⟩ := h.ok I.hok
  exact ⟨its, r, p, z⟩
 ·refine ⟨its.toList, r, ⟨o, I.kIn a o hk, hc, n, by simpa using hs⟩, ?_⟩
  have e := r.length
  simp only [Array.length_toList] at e
  lia
theorem Inv.tuple_inj (I : Inv X pins σ H s) (h : SqT X.K H a xs) (h' : SqT X.K H a ys) : xs = ys := by
 obtain ⟨its, r, ⟨o, e, _, n, d⟩, _⟩ := I.tuple h
 obtain ⟨its', r', ⟨o', e', _, n', d'⟩, _⟩ := I.tuple h'
 rw [e] at e'; cases e'
 rw [d] at d'
 injection d' with d1 _
 have : its = its' := by simpa using congrArg Array.toList d1
 subst this
 exact r.inj r'
end
abbrev Cx.wish (X : Cx) (E : Value → Shared → Prop) : Cx := { X with xe := E }
abbrev Cx.nox (X : Cx) : Cx := X.wish fun _ _ => False
theorem Cx.Ok.wish {X : Cx} (ok : X.Ok) (E : Value → Shared → Prop) : (X.wish E).Ok :=
 ⟨ok.mod, ok.kind, ok.glob, ok.blt, ok.above, ok.inj, ok.has, ok.cab, ok.hd, ok.frames, ok.stk, ok.exf, ok.bs, ok.bsz, ok.noex, ok.exfs, ok.funs, ok.frf⟩
theorem Cx.Ok.unwish {X : Cx} {E : Value → Shared → Prop} (ok : (X.wish E).Ok) : X.Ok :=
 ⟨ok.mod, ok.kind, ok.glob, ok.blt, ok.above, ok.inj, ok.has, ok.cab, ok.hd, ok.frames, ok.stk, ok.exf, ok.bs, ok.bsz, ok.noex, ok.exfs, ok.funs, ok.frf⟩
section
variable {X : Cx} {pins : List (Addr × Obj)} {σ : St} {H : Hp} {s : Shared} {E : Value → Shared → Prop}
theorem Inv.wish (I : Inv X pins σ H s) (E : Value → Shared → Prop) : Inv (X.wish E) pins σ H s := ⟨I.ok.wish E, I.os, I.bare, I.base, I.loc, I.cell, I.free, I.freeC, I.pin, I.hok, I.len⟩
theorem Inv.unwish (I : Inv (X.wish E) pins σ H s) : Inv X pins σ H s := ⟨I.ok.unwish, I.os, I.bare, I.base, I.loc, I.cell, I.free, I.freeC, I.pin, I.hok, I.len⟩
theorem SP.unwish {D : Ends} {f : Flow} {s' : Shared} (h : SP (X.wish E) pins D f s') : SP X pins D f s' := by
 cases f with
 | next => obtain ⟨σ', H', I, q⟩ := h; exact ⟨σ', H', I.unwish, q⟩
 | brk => obtain ⟨σ', H', I, q⟩ := h; exact ⟨σ', H', I.unwish, q⟩
 | cont => obtain ⟨σ', H', I, q⟩ := h; exact ⟨σ', H', I.unwish, q⟩
 | ret u => obtain ⟨v, σ', H', I, r, q⟩ := h; exact ⟨v, σ', H', I.unwish, r, q⟩
theorem PSs.nox {st : List Stmt} {t : TS} (h : PSs X.nox st t) : PSs X st t := fun pins s σ H D I hw =>
 wpAny_mono (h pins s σ H D (I.wish _) hw) (fun _ _ q => q.unwish) fun _ _ z => False.elim z
end
section
variable {X : Cx} {st : Stmt} {rest : List Stmt} {t u : TS} {e : Expr} {te : TE} {pos : Pos}
def tNext : TS := fun D σ H => D.nx σ H
def tSeq (t u : TS) : TS := fun D σ H => t { D with nx := u D } σ H
theorem aqu : PSs X [] tNext := fun _ _ σ H _ I h => wpAny_execs_nil ⟨σ, H, I, h⟩
theorem aqc (h1 : PS X st t) (h2 : PSs X rest u) : PSs X (st :: rest) (tSeq t u) := by
 intro pins s σ H D I h
 refine wpAny_execs_cons (thn (h1 pins s σ H { D with nx := u D } I h) fun f s1 q => ?_)
 cases f with
 | next =>
  obtain ⟨σ', H', I', q⟩ := q
  exact h2 pins s1 σ' H' D I' q
 | ret v => exact q
 | brk => exact q
 | cont => exact q
theorem aqd (h1 : PS X st t) : PSs X [st] t := by
 intro pins s σ H D I h
 refine wpAny_execs_cons (thn (h1 pins s σ H D I h) fun f s1 q => ?_)
 cases f with
 | next => exact wpAny_execs_nil q
 | ret v => exact q
 | brk => exact q
 | cont => exact q
def tBreak : TS := fun D σ H => D.bk σ H
theorem Inv.quiet {pins : List (Addr × Obj)} {σ : St} {H : Hp} {s : Shared} (I : Inv X pins σ H s) : interactive X.env = false := by simp [interactive, I.ok.kind]
def tDrop (te : TE) : TS := fun D σ H => te σ H fun _ H1 => D.nx σ H1
theorem dqG (he : PE X e te) (hs : swapsWith e none pos.line X.env = pure false := by rfl) : PS X (.Expr e pos) (tDrop te) := by
 intro pins s σ H D I h
 exact wpAny_Expr_any (thn (he pins s σ H _ I h) fun v s1 ⟨x, H1, I1, r1, q1⟩ => ⟨σ, H1, I1, q1⟩) I.quiet hs
def tRet (te : TE) : TS := fun D σ H => te σ H D.rt
theorem aqk (he : PE X e te) : PS X (.Return (some e) pos) (tRet te) := by
 intro pins s σ H D I h
 exact wpAny_Return_some (thn (he pins s σ H _ I h) fun v s1 ⟨x, H1, I1, r1, q1⟩ => ⟨x, σ, H1, I1, r1, q1⟩)
def tIfS (c : TT) (t u : TS) : TS := fun D σ H => c σ H fun b H1 => if b = true then t D σ H1 else u D σ H1
theorem aqO {c : Expr} {a b : List Stmt} {tc : TT} (hc : PT X c tc) (ha : PSs X a t) (hb : PSs X b u) : PS X (.If c a b pos) (tIfS tc t u) := by
 intro pins s σ H D I h
 refine wpAny_If (thn (hc pins s σ H _ I h) fun d s1 W' => ?_)
 obtain ⟨H1, I1, q1⟩ := W'
 cases d with
 | true => exact ha pins s1 σ H1 D I1 q1
 | false => exact hb pins s1 σ H1 D I1 q1
def tNever : TS := fun _ _ _ => False
theorem eqd : PS X st tNever := fun _ _ _ _ _ _ h => h.elim
end
abbrev TG := V → St → Hp → (St → Hp → Prop) → Prop
abbrev TGs := List V → St → Hp → (St → Hp → Prop) → Prop
def PG (X : Cx) (target : Expr) (t : TG) : Prop :=
 ∀ (pins : List (Addr × Obj)) (s : Shared) (σ : St) (H : Hp) (v : V) (u : Value) (Q : St → Hp → Prop), Inv X pins σ H s → RelV v u → t v σ H Q →
  wpAny (model X.prog X.w) X.A (assign target X.env u) (fun _ s' => ∃ σ' H', Inv X pins σ' H' s' ∧ Q σ' H') X.xe s
def PGs (X : Cx) (ts : List Expr) (t : TGs) : Prop :=
 ∀ (pins : List (Addr × Obj)) (s : Shared) (σ : St) (H : Hp) (vs : List V) (us : List Value) (Q : St → Hp → Prop), Inv X pins σ H s → Vals vs us → t vs σ H Q →
  wpAny (model X.prog X.w) X.A (assignInOrder ((assignEach ts X.env).map (·.2)) us) (fun _ s' => ∃ σ' H', Inv X pins σ' H' s' ∧ Q σ' H') X.xe s
abbrev TSet := V → V → V → Hp → (Hp → Prop) → Prop
section
variable {X : Cx} {pos : Pos}
def gName (i : Nat) : TG := fun v σ H Q => Q (σ.set i (some v)) H
theorem dqY {i : Nat} {x : Str} (hN : X.N.Nodup) (hi : X.N[i]? = some x) (hx : Loc X.env.scope x) (hf : X.fn x = true ∨ X.env.scope.names.lookup x = some .local := by first | exact .inl rfl | exact .inr rfl | assumption) : PG X (.Name x pos) (gName i) := by
 intro pins s σ H v u Q I r h
 exact wpAny_assign_Name (kqv I hN hi hx r (fun s' I' => ⟨_, H, I', h⟩) hf)
def gNil : TGs := fun vs σ H Q => vs = [] ∧ Q σ H
def gCons (t : TG) (u : TGs) : TGs := fun vs σ H Q => ∃ v r, vs = v :: r ∧ t v σ H fun σ' H' => u r σ' H' Q
theorem rqY : PGs X [] gNil := by
 intro pins s σ H vs us Q I r h
 obtain ⟨e, h⟩ := h
 subst e
 cases r
 exact assignInOrder_nil ⟨σ, H, I, h⟩
theorem nqm {e : Expr} {es : List Expr} {t : TG} {u : TGs} (h1 : PG X e t) (h2 : PGs X es u)
  (hs : (assignEach (e :: es) X.env).map (·.2) = assign e X.env :: (assignEach es X.env).map (·.2) := by rfl) : PGs X (e :: es) (gCons t u) := by
 intro pins s σ H vs us Q I r h
 obtain ⟨v, vr, e1, h⟩ := h
 subst e1
 cases r with
 | cons r rr =>
  rw [hs]
  refine assignInOrder_cons (thn (h1 pins s σ H _ _ _ I r h) fun _ s1 W' => ?_)
  obtain ⟨σ1, H1, I1, q1⟩ := W'
  exact h2 pins s1 σ1 H1 _ _ Q I1 rr q1
def gTup (K : PySem.W.Frag) (n : Nat) (t : TGs) : TG := fun v σ H Q => ∃ a xs, v = .ref a ∧ SqT K H a xs ∧ xs.length = n ∧ t xs σ H Q
theorem tq7 {es : List Expr} {k : Nat} {t : TGs} {n : Nat} (hc : X.calm = true) (h : PGs X es t)
  (hn : (assignEach es X.env).length = n := by rfl) (hst : (assignEach es X.env).findIdx? (·.1) = none := by rfl) : PG X (.Tuple es k pos) (gTup X.K n t) := by
 intro pins s σ H v u Q I r hw
 obtain ⟨a, xs, e1, hq, hl, hw⟩ := hw
 subst e1
 cases r
 obtain ⟨its, rv, ht, hz⟩ := I.tuple hq
 refine assign_Tuple_tuple (I.ok.hd hc) ht (by simp [hn, ← hl, rv.length]) hst fun h' hx => ?_
 have I1 : Inv X pins σ H { s with heap := h' } := I.kept (t' := s.toks) fun b o e => hx b o (Nat.ne_of_lt (Heap.lt_size e)) e
 exact h pins _ σ H xs _ Q I1 (by simpa using rv) hw
def gSub (to ti : TE) (t : TSet) : TG := fun v σ H Q => to σ H fun o H1 => ti σ H1 fun i H2 => t o i v H2 fun H3 => Q σ H3
def tAsg (te : TE) (g : TG) : TS := fun D σ H => te σ H fun x H1 => g x σ H1 D.nx
theorem aql {i : Nat} {x : Str} {e : Expr} {te : TE} {pos' : Pos} (hN : X.N.Nodup) (hi : X.N[i]? = some x) (hx : Loc X.env.scope x) (he : PE X e te) (hs : swapsWith e (some (.Name x pos')) pos.line X.env = pure false := by rfl) (hf : X.fn x = true ∨ X.env.scope.names.lookup x = some .local := by first | exact .inl rfl | exact .inr rfl | assumption) :
  PS X (.Assign [.Name x pos'] e pos) (tAsg te (gName i)) := by
 intro pins s σ H D I h
 refine wpAny_Assign_Name (thn (he pins s σ H _ I h) fun v s1 W' => ?_) hs
 obtain ⟨y, H1, I1, r1, q1⟩ := W'
 exact kqv I1 hN hi hx r1 (fun s2 I2 => ⟨_, H1, I2, q1⟩) hf
def tPar (i j : Nat) (ta : TA) : TS := fun D σ H => ta σ H fun vs H1 => ∃ v w, vs = [v, w] ∧ D.nx ((σ.set i (some v)).set j (some w)) H1
end
section
variable {X : Cx} {pos : Pos}
def tWhile (c : TT) (tb : TS) : TS := fun D σ H => ∃ W : Nat → St → Hp → Prop, (∃ m, W m σ H) ∧ ∀ m σ H, W m σ H →
 c σ H fun b H1 => if b = true then ∃ N : St → Hp → Prop, (∀ σ' H', N σ' H' → ∃ m', m' < m ∧ W m' σ' H') ∧ tb { D with nx := N, ct := N, bk := D.nx } σ H1 else D.nx σ H1
theorem hqE {c : Expr} {body : List Stmt} {tc : TT} {tb : TS} (hp : PassesOwn (model X.prog X.w) X.A X.env X.xe) (hc : PT X c tc) (hb : PSs X body tb) : PS X (.While c body [] pos) (tWhile tc tb) := by
 intro pins s σ H D I h
 obtain ⟨W, ⟨m0, w0⟩, turn⟩ := h
 refine wpAny_While (codeAny_whileLoop (fun n s' => ∃ σ' H', Inv X pins σ' H' s' ∧ W n σ' H') ?_ m0 ⟨σ, H, I, w0⟩)
 rintro n s1 ⟨σ1, H1, I1, w1⟩
 refine wpAny_passesOwn hp (thn (hc pins s1 σ1 H1 _ I1 (turn n σ1 H1 w1)) fun b s2 W' => ?_)
 obtain ⟨H2, I2, q2⟩ := W'
 cases b with
 | true =>
  obtain ⟨N, hN, q2⟩ := q2
  rw [if_pos rfl]
  refine wpAny_passesOwn hp (thn (hb pins s2 σ1 H2 _ I2 q2) fun f s3 q3 => ?_)
  cases f with
  | next =>
   obtain ⟨σ3, H3, I3, n3⟩ := q3
   obtain ⟨m', hm, w3⟩ := hN σ3 H3 n3
   exact ⟨m', hm, σ3, H3, I3, w3⟩
  | cont =>
   obtain ⟨σ3, H3, I3, n3⟩ := q3
   obtain ⟨m', hm, w3⟩ := hN σ3 H3 n3
   exact ⟨m', hm, σ3, H3, I3, w3⟩
  | brk => exact q3
  | ret v => exact q3
 | false =>
  rw [if_neg Bool.false_ne_true]
  exact wpAny_execs_nil ⟨σ1, H2, I2, q2⟩
end
structure It where
 go : Nat → Hp → Prop
 yld : Nat → Hp → V → Hp → Prop
 stop : Nat → Hp → Prop
def FpOk (X : Cx) (pins : List (Addr × Obj)) (H : Hp) (b : Addr) : Prop :=
 H b = none ∧ b ≠ X.env.locals ∧ b ∉ X.fs ∧ (b ∈ X.ex ∨ X.s₀.heap.objs.size ≤ b) ∧ (∀ x c, X.env.cells.lookup x = some c → c ≠ b) ∧ ∀ p ∈ X.pn ++ pins, p.1 ≠ b
theorem Inv.fpOk {X : Cx} {pins : List (Addr × Obj)} {σ : St} {H H' : Hp} {s : Shared} {b : Addr} (I : Inv X pins σ H s) (hb : s.heap.objs.size ≤ b) (hn : H' b = none) : FpOk X pins H' b := by
 refine ⟨hn, Nat.ne_of_gt (Nat.lt_of_lt_of_le I.lt hb), I.nofs hb, .inr (Nat.le_trans I.sz hb), fun x c e z => ?_, fun p hp z => ?_⟩
 ·obtain ⟨v, q⟩ := I.cell x c e
  exact absurd (Nat.lt_of_lt_of_le q.lt (by rw [z]; exact hb)) (Nat.lt_irrefl _)
 ·exact absurd (Nat.lt_of_lt_of_le (Heap.lt_size (I.pin p hp).1) (by rw [z]; exact hb)) (Nat.lt_irrefl _)
structure Turn (P : Program) (w : World) (K : PySem.W.Frag) (tg : Expr) (J : It) (fp : List Addr) (it : Addr) (tn : Nat → Heap → Prop) : Prop where
 mem : it ∈ fp
 obj : ∀ i h, tn i h → ∀ b ∈ fp, ∃ o, h.get? b = some o ∧ ∀ v, o.data ≠ .cell v
 keep : ∀ i h h', tn i h → (∀ b ∈ fp, ∀ o, h.get? b = some o → h'.get? b = some o) → tn i h'
 item : ∀ (X : Cx), X.prog = P → X.w = w → X.K = K → X.calm = true → ∀ (i : Nat) (pins : List (Addr × Obj)) (s : Shared) (σ : St) (H : Hp) (E : Value → Shared → Prop), Inv X pins σ H s → (∀ b ∈ fp, FpOk X pins H b) → tn i s.heap → J.go i H →
  wpAny (model P w) X.A (pyNext (.ref it)) (fun r s1 => ∃ u, r = some u ∧
   wpAny (model P w) X.A (letOwnedTupleGo tg (.ref it) u) (fun _ s2 => ∃ x H', Inv X pins σ H' s2 ∧ RelV x u ∧ J.yld i H x H' ∧ tn (i + 1) s2.heap ∧ ∀ b ∈ fp, H' b = none) E s1) E s
 done : ∀ (X : Cx), X.prog = P → X.w = w → X.K = K → X.calm = true → ∀ (i : Nat) (pins : List (Addr × Obj)) (s : Shared) (σ : St) (H : Hp) (E : Value → Shared → Prop), Inv X pins σ H s → (∀ b ∈ fp, FpOk X pins H b) → tn i s.heap → J.stop i H →
  wpAny (model P w) X.A (pyNext (.ref it)) (fun r s1 => r = none ∧ Inv X pins σ H s1) E s
 self : ∀ (A : Around) (i : Nat) (s : Shared) (Q : Value → Shared → Prop) (E : Value → Shared → Prop), tn i s.heap → Q (.ref it) s → wpAny (model P w) A (pyIter (.ref it)) Q E s
abbrev TI := St → Hp → (It → Hp → Prop) → Prop
def PIE (X : Cx) (pins : List (Addr × Obj)) (σ : St) (tg : Expr) (R : It → Hp → Prop) (itv : Value) (s2 : Shared) : Prop :=
 ∃ (it : Addr) (fp : List Addr) (tn : Nat → Heap → Prop) (J : It) (H' : Hp), itv = .ref it ∧ Inv X pins σ H' s2 ∧ Turn X.prog X.w X.K tg J fp it tn ∧ tn 0 s2.heap ∧ (∀ b ∈ fp, FpOk X pins H' b) ∧ R J H'
def PI (X : Cx) (tg iter : Expr) (wi : TI) : Prop :=
 ∀ (pins : List (Addr × Obj)) (s : Shared) (σ : St) (H : Hp) (R : It → Hp → Prop), Inv X pins σ H s → wi σ H R →
  wpAny (model X.prog X.w) X.A (eval iter X.env) (fun v s1 => wpAny (model X.prog X.w) X.A (pyIter v) (PIE X pins σ tg R) X.xe s1) X.xe s
theorem qqz {M : Model} {A : Around} {E : Value → Shared → Prop} {s : Shared} {tg : Expr} {it : Addr} {u : Value} {o : Obj} {n : String} {vs : Array Value} {Q : Unit → Shared → Prop} (ho : s.heap.get? it = some o) (hc : o.cls = .type n) (hd : o.data = .fields vs)
  (hn : ["enumerate", "zip", "dict_itemiterator", "dict_reverseitemiterator", "odict_iterator", "itertools.zip_longest", "itertools.pairwise"].contains n = false) (hQ : Q () s) : wpAny M A (letOwnedTupleGo tg (.ref it) u) Q E s := by
 unfold letOwnedTupleGo
 cases tg <;> first
  | exact wpAny_pure hQ
  | (cases u <;> first
    | exact wpAny_pure hQ
    | (refine wpAny_bind (wpAny_load ho ?_)
       rw [hc, hd]
       show wpAny M A (if (["enumerate", "zip", "dict_itemiterator", "dict_reverseitemiterator", "odict_iterator", "itertools.zip_longest", "itertools.pairwise"].contains n && vs[0]? == some (rawInt _)) = true then _ else _) Q E s
       rw [if_neg (by intro h; rw [hn, Bool.false_and] at h; cases h)]
       exact wpAny_pure hQ))
def Itl (K : PySem.W.Frag) (a : Addr) : It :=
 ⟨fun i H => ∃ xs x, SqL K H a xs ∧ xs[i]? = some x, fun i H x H' => H' = H ∧ ∀ xs, SqL K H a xs → xs[i]? = some x, fun i H => ∃ xs, SqL K H a xs ∧ xs.length ≤ i⟩
def Itt (K : PySem.W.Frag) (a : Addr) : It :=
 ⟨fun i H => ∃ xs x, SqT K H a xs ∧ xs[i]? = some x, fun i H x H' => H' = H ∧ ∀ xs, SqT K H a xs → xs[i]? = some x, fun i H => ∃ xs, SqT K H a xs ∧ xs.length ≤ i⟩
def Itr (lo : Int) (n : Nat) : It := ⟨fun i _ => i < n, fun i H x H' => H' = H ∧ x = .int (lo + i), fun i _ => n ≤ i⟩
theorem nqG {P : Program} {w : World} {K : PySem.W.Frag} {tg : Expr} (a it : Addr) : Turn P w K tg (Itt K a) [it] it (fun i h => h.IsTupleIter it a i) where
 mem := by simp
 obj := fun i h st b hb => by
  have e : b = it := by simpa using hb
  subst e
  obtain ⟨o, e, c, d⟩ := st
  exact ⟨o, e, fun v z => by rw [d] at z; cases z⟩
 keep := fun i h h' st k => st.at fun o e => k it (by simp) o e
 item := by
  intro X hP hw hK hc i pins s σ H E I hf st hg
  subst hP hw hK
  obtain ⟨xs, x, hq, hx⟩ := hg
  obtain ⟨its, rv, p, hz⟩ := I.tuple hq
  obtain ⟨u, hu, ru⟩ := rv.get hx
  obtain ⟨f0, f1, f2, f3, f4, f5⟩ := hf it (by simp)
  refine wpAny_pyNext_tuple_item st (show s.heap.IsTuple a its.toArray from p) (x := u) (by simpa using hu) fun h' st' sb => ?_
  have I1 : Inv X pins σ H { s with heap := h' } := I.turned (t' := s.toks) (fun b o hb e => (sb.2 b hb).trans e) f0 f1 f3 f4 f5
  obtain ⟨o, e, c, d⟩ := id st'
  exact ⟨u, rfl, qqz (s := { s with heap := h' }) e c d (by decide) ⟨x, H, I1, ru, ⟨rfl, fun ys hy => by rw [I.tuple_inj hy hq]; exact hx⟩, st', fun b hb => (hf b hb).1⟩⟩
 done := by
  intro X hP hw hK hc i pins s σ H E I hf st hg
  subst hP hw hK
  obtain ⟨xs, hq, hx⟩ := hg
  obtain ⟨its, rv, p, hz⟩ := I.tuple hq
  obtain ⟨f0, f1, f2, f3, f4, f5⟩ := hf it (by simp)
  have hl := rv.length
  exact wpAny_pyNext_tuple_end (I.ok.hd hc) st (show s.heap.IsTuple a its.toArray from p) (by simp; lia) fun h' eb => ⟨rfl, I.turned (t' := s.toks) (fun b o hb e => eb b o hb e) f0 f1 f3 f4 f5⟩
 self := fun _ _ _ _ _ st h => wpAny_pyIter_tupleiter st h
theorem nqU {P : Program} {w : World} {K : PySem.W.Frag} {tg : Expr} (it : Addr) (lo : Int) (n : Nat) : Turn P w K tg (Itr lo n) [it] it (fun i h => IsRangeIter h it (lo + (i : Nat) * 1) ((n : Int) - (i : Nat)) 1) where
 mem := by simp
 obj := fun i h st b hb => by
  have e : b = it := by simpa using hb
  subst e
  exact ⟨_, st, fun v z => by
   have z' : Data.fields _ = Data.cell v := z
   cases z'⟩
 keep := fun i h h' st k => k it (by simp) _ st
 item := by
  intro X hP hw hK hc i pins s σ H E I hf st hg
  subst hP hw hK
  obtain ⟨f0, f1, f2, f3, f4, f5⟩ := hf it (by simp)
  have W := Walks.range (prog := X.prog) (w := X.w) (I.ok.hd hc) it lo 1 n
  refine W.item i s _ _ hg st fun v h' tk hv st' kk => ?_
  obtain ⟨t, rfl⟩ := hv
  have I1 : Inv X pins σ H { s with heap := h', toks := tk } := I.turned (fun b o hb e => kk b o (by simpa using hb) e) f0 f1 f3 f4 f5
  refine ⟨_, rfl, qqz (s := { s with heap := h', toks := tk }) (n := "range_iterator") st' rfl rfl (by decide) ⟨.int (lo + i), H, I1, ⟨t, ?_⟩, ⟨rfl, rfl⟩, st', fun b hb => (hf b hb).1⟩⟩
  rw [Int.mul_one]
 done := by
  intro X hP hw hK hc i pins s σ H E I hf st hg
  subst hP hw hK
  obtain ⟨f0, f1, f2, f3, f4, f5⟩ := hf it (by simp)
  exact wpAny_pyNext_range_end (I.ok.hd hc) st (by have : n ≤ i := hg; lia) fun h' eb => ⟨rfl, I.turned (t' := s.toks) (fun b o hb e => eb b o hb e) f0 f1 f3 f4 f5⟩
 self := fun _ _ _ _ _ st h => wpAny_pyIter_rangeiter st h
section
variable {X : Cx} {tg : Expr}
def iList (K : PySem.W.Frag) (tl : TE) : TI := fun σ H R => tl σ H fun x H1 => ∃ a, x = .ref a ∧ (∃ xs, SqL K H1 a xs) ∧ R (Itl K a) H1
def iTup (K : PySem.W.Frag) (tl : TE) : TI := fun σ H R => tl σ H fun x H1 => ∃ a, x = .ref a ∧ (∃ xs, SqT K H1 a xs) ∧ R (Itt K a) H1
theorem tqW {l : Expr} {tl : TE} (hl : PE X l tl) : PI X tg l (iTup X.K tl) := by
 intro pins s σ H R I h
 refine thn (hl pins s σ H _ I h) fun v s1 W' => ?_
 obtain ⟨x, H1, I1, r1, q1⟩ := W'
 obtain ⟨a, e, ⟨xs, hq⟩, q⟩ := q1
 subst e
 cases r1
 obtain ⟨its, rv, p, hz⟩ := I1.tuple hq
 refine wpAny_pyIter_tuple (show s1.heap.IsTuple a its.toArray from p) ?_
 refine ⟨s1.heap.objs.size, [s1.heap.objs.size], _, _, H1, rfl, I1.kept (t' := s1.toks) fun b o e => Heap.get?_push_of_some _ e, nqG a _, ⟨_, Heap.get?_push_size _ rfl, rfl, rfl⟩, fun b hb => ?_, q⟩
 have e : b = s1.heap.objs.size := by simpa using hb
 subst e
 exact I1.fpOk (Nat.le_refl _) (I1.hok.fresh (Nat.le_refl _))
theorem pqR {pins : List (Addr × Obj)} {σ : St} {H : Hp} {s : Shared} {R : It → Hp → Prop} {E : Value → Shared → Prop} {lo hi : Int} {t u v : Tok} {tk : Nat} (I : Inv X pins σ H s) (h1 : -(2 ^ 62) ≤ lo) (h2 : lo < 2 ^ 62) (h3 : -(2 ^ 62) ≤ hi) (h4 : hi < 2 ^ 62)
  (q : R (Itr lo (hi - lo).toNat) H) : wpAny (model X.prog X.w) X.A (pyIter (.ref s.heap.objs.size)) (PIE X pins σ tg R) E { s with heap := s.heap.push { cls := .type "range", data := .fields #[.int lo t, .int hi u, .int 1 v] }, toks := tk } := by
 refine wpAny_pyIter_range (IsRange.new ..) (small_one h1 h2 h3 h4) ?_
 have I1 : Inv X pins σ H { s with heap := s.heap.push { cls := .type "range", data := .fields #[.int lo t, .int hi u, .int 1 v] }, toks := tk } := I.kept fun b o e => Heap.get?_push_of_some _ e
 refine ⟨(s.heap.push { cls := .type "range", data := .fields #[.int lo t, .int hi u, .int 1 v] }).objs.size, [(s.heap.push { cls := .type "range", data := .fields #[.int lo t, .int hi u, .int 1 v] }).objs.size], _, _, H, rfl,
  I1.kept (t' := tk) fun b o e => Heap.get?_push_of_some _ e, nqU _ lo (hi - lo).toNat, ?_, fun b hb => ?_, q⟩
 ·have e1 : lo + ((0 : Nat) : Int) * 1 = lo := by simp
  have e2 : (((hi - lo).toNat : Nat) : Int) - ((0 : Nat) : Int) = Builtin.Range.rangeSize lo hi 1 := by rw [rangeSize_one]; split <;> lia
  show IsRangeIter _ _ (lo + ((0 : Nat) : Int) * 1) ((((hi - lo).toNat : Nat) : Int) - ((0 : Nat) : Int)) 1
  rw [e1, e2]
  exact Heap.get?_push_size _ rfl
 ·have e : b = (s.heap.push { cls := .type "range", data := .fields #[.int lo t, .int hi u, .int 1 v] }).objs.size := by simpa using hb
  subst e
  exact I1.fpOk (Nat.le_refl _) (I1.hok.fresh (Nat.le_refl _))
def iRng1 (ta : TA) : TI := fun σ H R => ta σ H fun vs H1 => ∃ j : Int, vs = [.int j] ∧ -(2 ^ 62) ≤ j ∧ j < 2 ^ 62 ∧ R (Itr 0 j.toNat) H1
theorem dqj {a : Expr} {ta : TA} {p pos : Pos} (hg : Gl X "range") (hm : X.mg "range" = none) (ha : PA X [a] ta) (hs : starEach [a] X.env = [(false, eval a X.env)] := by rfl) : PI X tg (.Call (.Name "range" p) [a] [] pos) (iRng1 ta) := by
 intro pins s σ H R I h
 refine Call_ (mqQ I hg hm boot_range (PyProof.Rows.callWith_type1 (thn (ha pos pins s σ H _ I h) fun us s1 W' => ?_) hs rfl))
 obtain ⟨vs, H1, I1, r1, q1⟩ := W'
 obtain ⟨j, e, q1, q2, q⟩ := q1
 subst e
 cases r1 with
 | cons r rr =>
  cases rr
  obtain ⟨t, rfl⟩ := r
  exact call_range_1 (pqR I1 (by lia) (by lia) q1 q2 (by simpa using q))
def tFor (wi : TI) (g : TG) (tb : TS) : TS := fun D σ H => wi σ H fun J H1 => ∃ W : Nat → Nat → St → Hp → Prop, (∃ m, W 0 m σ H1) ∧ ∀ i m σ H, W i m σ H →
 (J.stop i H ∧ D.nx σ H) ∨ (J.go i H ∧ ∃ N : St → Hp → Prop, (∀ σ' H', N σ' H' → ∃ m', m' < m ∧ W (i + 1) m' σ' H') ∧ ∀ x H', J.yld i H x H' → g x σ H' fun σ2 H2 => tb { D with nx := N, ct := N, bk := D.nx } σ2 H2)
def pinsAt (fp : List Addr) (h : Heap) : List (Addr × Obj) := fp.filterMap fun b => (h.get? b).map fun o => (b, o)
theorem cq1 {fp : List Addr} {h : Heap} {b : Addr} {o : Obj} (hb : b ∈ fp) (e : h.get? b = some o) : (b, o) ∈ pinsAt fp h := List.mem_filterMap.mpr ⟨b, hb, by rw [e]; rfl⟩
theorem pqm {fp : List Addr} {h : Heap} {p : Addr × Obj} (hp : p ∈ pinsAt fp h) : p.1 ∈ fp ∧ h.get? p.1 = some p.2 := by
 obtain ⟨b, hb, e⟩ := List.mem_filterMap.mp hp
 cases q : h.get? b with
 | none => rw [q] at e; cases e
 | some o =>
  rw [q] at e
  have e' : (b, o) = p := Option.some.inj e
  subst e'
  exact ⟨hb, q⟩
theorem Inv.pinned {pins : List (Addr × Obj)} {σ : St} {H : Hp} {s : Shared} {fp : List Addr} (I : Inv X pins σ H s) (hf : ∀ b ∈ fp, FpOk X pins H b) (ho : ∀ b ∈ fp, ∃ o, s.heap.get? b = some o ∧ ∀ v, o.data ≠ .cell v) : Inv X (pins ++ pinsAt fp s.heap) σ H s :=
 I.pins_of fun p hp => (List.mem_append.mp hp).elim (fun z => I.pin p (List.mem_append_right _ z)) fun z => by
  obtain ⟨hb, e⟩ := pqm z
  obtain ⟨f0, f1, f2, _⟩ := hf p.1 hb
  obtain ⟨o, e', d⟩ := ho p.1 hb
  rw [e] at e'; cases e'
  exact ⟨e, f0, f1, f2, d⟩
theorem Inv.unpinned {pins pl : List (Addr × Obj)} {σ : St} {H : Hp} {s : Shared} (I : Inv X (pins ++ pl) σ H s) : Inv X pins σ H s := I.pins_of fun p hp => I.pin p (List.mem_append_right _ (List.mem_append_left _ hp))
theorem jqr {iter : Expr} {body : List Stmt} {wi : TI} {g : TG} {tb : TS} {pos : Pos} (hp : PassesOwn (model X.prog X.w) X.A X.env X.xe) (hc : X.calm = true) (hi : PI X tg iter wi) (hg : PG X tg g) (hb : PSs X body tb)
  (hs : ∀ x, foldedSetIterable iter X.env x = pure x := by intro _; rfl) : PS X (.For tg iter body [] pos) (tFor wi g tb) := by
 intro pins s σ H D I h
 refine wpAny_For (thn (hi pins s σ H _ I h) fun v s1 h1 => thn h1 fun itv s2 h2 => ?_) hs
 obtain ⟨it, fp, tn, J, H2, e, I2, T, st2, f2, W, ⟨m0, w0⟩, turn⟩ := h2
 subst e
 have stat : ∀ {H' : Hp}, (∀ b ∈ fp, H' b = none) → ∀ b ∈ fp, FpOk X pins H' b := fun hn b hb => ⟨hn b hb, (f2 b hb).2⟩
 refine codeAny_forLoop_any (fun n s' => ∃ i σ' H', Inv X pins σ' H' s' ∧ tn i s'.heap ∧ (∀ b ∈ fp, H' b = none) ∧ W i n σ' H') ?_ m0 ⟨0, σ, H2, I2, st2, fun b hb => (f2 b hb).1, w0⟩
 rintro n s3 ⟨i, σ3, H3, I3, st3, fr3, w3⟩
 rcases turn i n σ3 H3 w3 with ⟨stop, qn⟩ | ⟨go, N, hN, step⟩
 ·refine wpAny_passesOwn hp (thn (T.done X rfl rfl rfl hc i pins s3 σ3 H3 X.xe I3 (stat fr3) st3 stop) fun r s4 W' => ?_)
  obtain ⟨hr, I4⟩ := W'
  subst hr
  exact wpAny_execs_nil ⟨σ3, H3, I4, qn⟩
 ·refine wpAny_passesOwn hp (thn (T.item X rfl rfl rfl hc i pins s3 σ3 H3 X.xe I3 (stat fr3) st3 go) fun r s4 W' => ?_)
  obtain ⟨u, hr, h4⟩ := W'
  subst hr
  refine wpAny_passesOwn hp (thn h4 fun _ s5 W' => ?_)
  obtain ⟨x, H5, I5, r5, y5, st5, fr5⟩ := W'
  have I5' := I5.pinned (stat fr5) (T.obj _ _ st5)
  refine wpAny_passesOwn hp (thn (hg _ s5 σ3 H5 x u _ I5' r5 (step x H5 y5)) fun _ s6 W' => ?_)
  obtain ⟨σ6, H6, I6, q6⟩ := W'
  refine wpAny_passesOwn hp (thn (hb _ s6 σ6 H6 _ I6 q6) fun f s7 q7 => ?_)
  have again : ∀ {σ7 : St} {H7 : Hp}, Inv X (pins ++ pinsAt fp s5.heap) σ7 H7 s7 → N σ7 H7 → ∃ m, m < n ∧ ∃ i σ' H', Inv X pins σ' H' s7 ∧ tn i s7.heap ∧ (∀ b ∈ fp, H' b = none) ∧ W i m σ' H' := fun {σ7 H7} I7 n7 => by
   obtain ⟨m', hm, w7⟩ := hN σ7 H7 n7
   refine ⟨m', hm, i + 1, σ7, H7, I7.unpinned, T.keep _ _ _ st5 fun b hb o e => (I7.pin (b, o) (List.mem_append_right _ (List.mem_append_right _ (cq1 hb e)))).1, fun b hb => ?_, w7⟩
   obtain ⟨o, e, d⟩ := T.obj _ _ st5 b hb
   exact (I7.pin (b, o) (List.mem_append_right _ (List.mem_append_right _ (cq1 hb e)))).2.1
  cases f with
  | next => obtain ⟨σ7, H7, I7, n7⟩ := q7; exact again I7 n7
  | cont => obtain ⟨σ7, H7, I7, n7⟩ := q7; exact again I7 n7
  | brk => obtain ⟨σ7, H7, I7, q7⟩ := q7; exact ⟨σ7, H7, I7.unpinned, q7⟩
  | ret v => obtain ⟨x7, σ7, H7, I7, r7, q7⟩ := q7; exact ⟨x7, σ7, H7, I7.unpinned, r7, q7⟩
end
theorem sq9 {K : PySem.W.Frag} {a : Addr} {xs : List V} {g : TG} {tb : TS} {D : Ends} {σ : St} {H : Hp} (Pv : Nat → St → Hp → Prop) (h0 : Pv 0 σ H) (hl : ∀ i σ H, i ≤ xs.length → Pv i σ H → SqT K H a xs)
  (hs : ∀ i x σ H, xs[i]? = some x → Pv i σ H → g x σ H fun σ2 H2 => tb { D with nx := Pv (i + 1), ct := Pv (i + 1), bk := D.nx } σ2 H2) (hd : ∀ σ H, Pv xs.length σ H → D.nx σ H) :
  ∃ W : Nat → Nat → St → Hp → Prop, (∃ m, W 0 m σ H) ∧ ∀ i m σ H, W i m σ H →
   ((Itt K a).stop i H ∧ D.nx σ H) ∨ ((Itt K a).go i H ∧ ∃ N : St → Hp → Prop, (∀ σ' H', N σ' H' → ∃ m', m' < m ∧ W (i + 1) m' σ' H') ∧ ∀ x H', (Itt K a).yld i H x H' → g x σ H' fun σ2 H2 => tb { D with nx := N, ct := N, bk := D.nx } σ2 H2) := by
 refine ⟨fun i m σ H => m = xs.length - i ∧ i ≤ xs.length ∧ Pv i σ H, ⟨xs.length, by simp, Nat.zero_le _, h0⟩, ?_⟩
 rintro i m σ H ⟨rfl, hi, p⟩
 have q := hl i σ H hi p
 by_cases hlt : i < xs.length
 ·refine .inr ⟨⟨xs, xs[i], q, by simp [hlt]⟩, Pv (i + 1), fun σ' H' p' => ⟨xs.length - (i + 1), by lia, rfl, hlt, p'⟩, fun x H' y => ?_⟩
  obtain ⟨e, y⟩ := y
  subst e
  exact hs i x σ _ (y xs q) p
 ·have e : i = xs.length := by lia
  subst e
  exact .inl ⟨⟨xs, q, Nat.le_refl _⟩, hd σ H p⟩
theorem pqs {lo : Int} {n : Nat} {g : TG} {tb : TS} {D : Ends} {σ : St} {H : Hp} (Pv : Nat → St → Hp → Prop) (h0 : Pv 0 σ H)
  (hs : ∀ i σ H, i < n → Pv i σ H → g (.int (lo + i)) σ H fun σ2 H2 => tb { D with nx := Pv (i + 1), ct := Pv (i + 1), bk := D.nx } σ2 H2) (hd : ∀ σ H, Pv n σ H → D.nx σ H) :
  ∃ W : Nat → Nat → St → Hp → Prop, (∃ m, W 0 m σ H) ∧ ∀ i m σ H, W i m σ H →
   ((Itr lo n).stop i H ∧ D.nx σ H) ∨ ((Itr lo n).go i H ∧ ∃ N : St → Hp → Prop, (∀ σ' H', N σ' H' → ∃ m', m' < m ∧ W (i + 1) m' σ' H') ∧ ∀ x H', (Itr lo n).yld i H x H' → g x σ H' fun σ2 H2 => tb { D with nx := N, ct := N, bk := D.nx } σ2 H2) := by
 refine ⟨fun i m σ H => m = n - i ∧ i ≤ n ∧ Pv i σ H, ⟨n, by simp, Nat.zero_le _, h0⟩, ?_⟩
 rintro i m σ H ⟨rfl, hi, p⟩
 by_cases hlt : i < n
 ·refine .inr ⟨hlt, Pv (i + 1), fun σ' H' p' => ⟨n - (i + 1), by lia, rfl, hlt, p'⟩, fun x H' y => ?_⟩
  obtain ⟨e, y⟩ := y
  subst e y
  exact hs i σ _ hlt p
 ·have e : i = n := by lia
  subst e
  exact .inl ⟨Nat.le_refl _, hd σ H p⟩
abbrev R2 := V → V → Hp → VK → Prop
def OpR (X : Cx) (f : Value → Value → Sem Value) (r : R2) : Prop :=
 ∀ (pins : List (Addr × Obj)) (s : Shared) (σ : St) (H : Hp) (x y : V) (v u : Value) (Q : VK), Inv X pins σ H s → RelV x v → RelV y u → r x y H Q →
  wpAny (model X.prog X.w) X.A (f v u) (EP X pins σ Q) X.xe s
def UnR (X : Cx) (f : Value → Sem Value) (r : V → Hp → VK → Prop) : Prop :=
 ∀ (pins : List (Addr × Obj)) (s : Shared) (σ : St) (H : Hp) (x : V) (v : Value) (Q : VK), Inv X pins σ H s → RelV x v → r x H Q →
  wpAny (model X.prog X.w) X.A (f v) (EP X pins σ Q) X.xe s
def CallR (X : Cx) (f : Value) (r : List V → Hp → VK → Prop) : Prop :=
 ∀ (pins : List (Addr × Obj)) (s : Shared) (σ : St) (H : Hp) (xs : List V) (us : List Value) (Q : VK), Inv X pins σ H s → Vals xs us → r xs H Q →
  wpAny (model X.prog X.w) X.A (call f us) (EP X pins σ Q) X.xe s
def tOp (r : R2) (ta tb : TE) : TE := fun σ H Q => ta σ H fun x H1 => tb σ H1 fun y H2 => r x y H2 Q
def tUn (r : V → Hp → VK → Prop) (ta : TE) : TE := fun σ H Q => ta σ H fun x H1 => r x H1 Q
def rI (C : Int → Int → Prop) (g : Int → Int → V) : R2 := fun x y H Q => ∃ i j, x = .int i ∧ y = .int j ∧ C i j ∧ Q (g i j) H
def rI0 (g : Int → Int → V) : R2 := fun x y H Q => ∃ i j, x = .int i ∧ y = .int j ∧ Q (g i j) H
def rU (g : Int → V) : V → Hp → VK → Prop := fun x H Q => ∃ i, x = .int i ∧ Q (g i) H
section
variable {X : Cx} {a b c : Expr} {ta tb tc : TE} {pos : Pos}
theorem binT (ha : PE X a ta) (hb : PE X b tb) {pins : List (Addr × Obj)} {s : Shared} {σ : St} {H : Hp} {R : V → V → Hp → Prop} (I : Inv X pins σ H s)
  (h : ta σ H fun x H1 => tb σ H1 fun y H2 => R x y H2) {Q : Value → Shared → Prop} {f : Value → Value → Sem Value}
  (hf : ∀ v u s2 x y H2, Inv X pins σ H2 s2 → RelV x v → RelV y u → R x y H2 → wpAny (model X.prog X.w) X.A (f v u) Q X.xe s2) :
  wpAny (model X.prog X.w) X.A (eval a X.env) (fun v s₁ => wpAny (model X.prog X.w) X.A (eval b X.env) (fun u s₂ => wpAny (model X.prog X.w) X.A (f v u) Q X.xe s₂) X.xe s₁) X.xe s := by
 refine thn (ha pins s σ H _ I h) fun v s1 W' => ?_
 obtain ⟨x, H1, I1, r1, q1⟩ := W'
 refine thn (hb pins s1 σ H1 _ I1 q1) fun u s2 W' => ?_
 obtain ⟨y, H2, I2, r2, q2⟩ := W'
 exact hf v u s2 x y H2 I2 r1 r2 q2
theorem aqn {op : Operator} {r : R2} (ho : OpR X (binaryOp op) r) (ha : PE X a ta) (hb : PE X b tb) : PE X (.BinOp a op b pos) (tOp r ta tb) := by
 intro pins s σ H Q I h
 exact wpAny_BinOp (binT ha hb I h fun v u s2 x y H2 I2 rx ry q => ho pins s2 σ H2 x y v u Q I2 rx ry q)
theorem oq3 {op : UnaryOp} {r : V → Hp → VK → Prop} (ho : UnR X (unaryOp op) r) (ha : PE X a ta) : PE X (.UnaryOp op a pos) (tUn r ta) := by
 intro pins s σ H Q I h
 exact UnaryOp_ (thn (ha pins s σ H _ I h) fun v s1 ⟨x, H1, I1, r1, q1⟩ => ho pins s1 σ H1 x v Q I1 r1 q1)
theorem opI {f : Value → Value → Sem Value} {C : Int → Int → Prop} {g : Int → Int → Int}
  (rule : ∀ (i j : Int) (t u : Tok) (s : Shared) (Q : Value → Shared → Prop) (E : Value → Shared → Prop), C i j → Q (.int (g i j) s.toks) { s with toks := s.toks + 1 } → wpAny (model X.prog X.w) X.A (f (.int i t) (.int j u)) Q E s) :
  OpR X f (rI C fun i j => .int (g i j)) := by
 intro pins s σ H x y v u Q I rx ry h
 obtain ⟨i, j, rfl, rfl, hc, q⟩ := h
 obtain ⟨t, rfl⟩ := rx
 obtain ⟨t', rfl⟩ := ry
 exact rule i j t t' s _ _ hc ⟨.int (g i j), H, I.tok _, ⟨_, rfl⟩, q⟩
theorem opI0 {f : Value → Value → Sem Value} {g : Int → Int → Int}
  (rule : ∀ (i j : Int) (t u : Tok) (s : Shared) (Q : Value → Shared → Prop) (E : Value → Shared → Prop), Q (.int (g i j) s.toks) { s with toks := s.toks + 1 } → wpAny (model X.prog X.w) X.A (f (.int i t) (.int j u)) Q E s) :
  OpR X f (rI0 fun i j => .int (g i j)) := by
 intro pins s σ H x y v u Q I rx ry h
 obtain ⟨i, j, rfl, rfl, q⟩ := h
 obtain ⟨t, rfl⟩ := rx
 obtain ⟨t', rfl⟩ := ry
 exact rule i j t t' s _ _ ⟨.int (g i j), H, I.tok _, ⟨_, rfl⟩, q⟩
theorem opB0 {f : Value → Value → Sem Value} {g : Int → Int → Bool}
  (rule : ∀ (i j : Int) (t u : Tok) (s : Shared) (Q : Value → Shared → Prop) (E : Value → Shared → Prop), Q (.bool (g i j)) s → wpAny (model X.prog X.w) X.A (f (.int i t) (.int j u)) Q E s) :
  OpR X f (rI0 fun i j => .bl (g i j)) := by
 intro pins s σ H x y v u Q I rx ry h
 obtain ⟨i, j, rfl, rfl, q⟩ := h
 obtain ⟨t, rfl⟩ := rx
 obtain ⟨t', rfl⟩ := ry
 exact rule i j t t' s _ _ ⟨.bl (g i j), H, I, rfl, q⟩
def CDiv (i j : Int) : Prop := 0 < j ∧ j < 1073741824
def CMul (i j : Int) : Prop := (-(2 ^ 64) < i ∧ i < 2 ^ 64) ∨ (-(2 ^ 64) < j ∧ j < 2 ^ 64)
theorem CMul.ok {i j : Int} (h : CMul i j) : IntMulOk i j := by
 rcases h with ⟨h1, h2⟩ | ⟨h1, h2⟩
 ·exact .of_left (intBits_le_64 h1 h2)
 ·exact .of_right (intBits_le_64 h1 h2)
theorem uqM : OpR X (binaryOp .Add) (rI0 fun i j => .int (i + j)) := opI0 fun _ _ _ _ _ _ _ q => add_int q
theorem rqF : OpR X (binaryOp .Sub) (rI0 fun i j => .int (i - j)) := opI0 fun _ _ _ _ _ _ _ q => sub_int q
theorem uqr : OpR X (binaryOp .Mult) (rI CMul fun i j => .int (i * j)) := opI fun _ _ _ _ _ _ _ hc q => mul_int q hc.ok
theorem aqW : OpR X (binaryOp .FloorDiv) (rI CDiv fun i j => .int (i / j)) := opI fun i j _ _ _ _ _ hc q => by
 have h1 : (0 : Int) < j := hc.1
 have h2 : j < 1073741824 := hc.2
 exact floordiv_int (by lia) (by rw [Int.fdiv_eq_ediv_of_nonneg i (by lia)]; exact q) (.inl (PyProof.noPylong_small (by lia)))
theorem aq0 : OpR X (binaryOp .Mod) (rI (fun _ j => 0 < j) fun i j => .int (i % j)) := opI fun i j _ _ _ _ _ hc q => by
 have h1 : (0 : Int) < j := hc
 exact mod_int' (by lia) (by rw [Int.fmod_eq_emod_of_nonneg i (by lia)]; exact q)
theorem unI {f : Value → Sem Value} {g : Int → Int}
  (rule : ∀ (i : Int) (t : Tok) (s : Shared) (Q : Value → Shared → Prop) (E : Value → Shared → Prop), Q (.int (g i) s.toks) { s with toks := s.toks + 1 } → wpAny (model X.prog X.w) X.A (f (.int i t)) Q E s) :
  UnR X f (rU fun i => .int (g i)) := by
 intro pins s σ H x v Q I rx h
 obtain ⟨i, rfl, q⟩ := h
 obtain ⟨t, rfl⟩ := rx
 exact rule i t s _ _ ⟨.int (g i), H, I.tok _, ⟨_, rfl⟩, q⟩
theorem lqx : UnR X (unaryOp .USub) (rU fun i => .int (-i)) := unI fun _ _ _ _ _ q => neg_int q
end
def scal : V → V → Bool
 | .non, .non => true | .non, .int _ => true | .int _, .non => true | .non, .bl _ => true | .bl _, .non => true | .non, .str _ => true | .str _, .non => true
 | .int _, .int _ => true | .bl _, .bl _ => true | .str _, .str _ => true | .byt _, .byt _ => true
 | .int _, .str _ => true | .str _, .int _ => true | .bl _, .str _ => true | .str _, .bl _ => true
 | _, _ => false
def rEq : R2 := fun x y H Q => scal x y = true ∧ Q (.bl (decide (x = y))) H
def rNe : R2 := fun x y H Q => scal x y = true ∧ Q (.bl (!decide (x = y))) H
theorem oqT {i j : Int} : decide (V.int i = V.int j) = (i == j) := by
 rw [Bool.eq_iff_iff]
 simp
theorem rqq {i j : Bool} : decide (V.bl i = V.bl j) = (i == j) := by
 rw [Bool.eq_iff_iff]
 simp
theorem oqU {i j : Str} : decide (V.str i = V.str j) = (i == j) := by
 rw [Bool.eq_iff_iff]
 simp
theorem oqZ {i j : Array UInt8} : decide (V.byt i = V.byt j) = (i.toList == j.toList) := by
 rw [Bool.eq_iff_iff]
 cases i
 cases j
 simp
section
variable {X : Cx} {a b c : Expr} {ta tb tc : TE} {pos : Pos}
theorem aqT {pins : List (Addr × Obj)} {σ : St} {H : Hp} {s : Shared} {Q : VK} {k k' : Bool} (I : Inv X pins σ H s) (q : Q (.bl k) H) (e : k = k') : EP X pins σ Q (.bool k') s := by
 subst e
 exact ⟨.bl k, H, I, rfl, q⟩
theorem cqH : OpR X (compareOp .Eq) rEq := by
 intro pins s σ H x y v u Q I rx ry h
 obtain ⟨hs, q⟩ := h
 cases x with
 | non =>
  cases rx
  cases y with
  | non => cases ry; exact PySem.EqNone.eq_none_none (aqT I q (by simp))
  | bl j => cases ry; exact PySem.EqNone.eq_none_bool (aqT I q (by simp))
  | int j => obtain ⟨t', rfl⟩ := ry; exact PySem.EqNone.eq_none_int (aqT I q (by simp))
  | str j => obtain ⟨t', rfl⟩ := ry; exact PySem.EqNone.eq_none_str (aqT I q (by simp))
  | _ => exact absurd (show false = true from hs) Bool.false_ne_true
 | bl i =>
  cases rx
  cases y with
  | non => cases ry; exact PySem.EqNone.eq_bool_none (aqT I q (by simp))
  | bl j => cases ry; exact eq_bool (aqT I q rqq)
  | str j => obtain ⟨t', rfl⟩ := ry; exact PySem.EqMixed.eq_bool_str (aqT I q (by simp))
  | _ => exact absurd (show false = true from hs) Bool.false_ne_true
 | int i =>
  obtain ⟨t, rfl⟩ := rx
  cases y with
  | non => cases ry; exact PySem.EqNone.eq_int_none (aqT I q (by simp))
  | int j => obtain ⟨t', rfl⟩ := ry; exact eq_int (aqT I q oqT)
  | str j => obtain ⟨t', rfl⟩ := ry; exact PySem.EqMixed.eq_int_str (aqT I q (by simp))
  | _ => exact absurd (show false = true from hs) Bool.false_ne_true
 | str i =>
  obtain ⟨t, rfl⟩ := rx
  cases y with
  | non => cases ry; exact PySem.EqNone.eq_str_none (aqT I q (by simp))
  | bl j => cases ry; exact PySem.EqMixed.eq_str_bool (aqT I q (by simp))
  | int j => obtain ⟨t', rfl⟩ := ry; exact PySem.EqMixed.eq_str_int (aqT I q (by simp))
  | str j => obtain ⟨t', rfl⟩ := ry; exact eq_str (aqT I q oqU)
  | _ => exact absurd (show false = true from hs) Bool.false_ne_true
 | byt i =>
  obtain ⟨t, rfl⟩ := rx
  cases y with
  | byt j => obtain ⟨t', rfl⟩ := ry; exact PySem.W.eq_bytes (aqT I q oqZ)
  | _ => exact absurd (show false = true from hs) Bool.false_ne_true
 | _ => cases y <;> exact absurd (show false = true from hs) Bool.false_ne_true
theorem fqF : OpR X (compareOp .NotEq) rNe := by
 intro pins s σ H x y v u Q I rx ry h
 obtain ⟨hs, q⟩ := h
 cases x with
 | non =>
  cases rx
  cases y with
  | non => cases ry; exact PySem.EqNone.ne_none_none (aqT I q (by simp))
  | bl j => cases ry; exact PySem.EqNone.ne_none_bool (aqT I q (by simp))
  | int j => obtain ⟨t', rfl⟩ := ry; exact PySem.EqNone.ne_none_int (aqT I q (by simp))
  | str j => obtain ⟨t', rfl⟩ := ry; exact PySem.EqNone.ne_none_str (aqT I q (by simp))
  | _ => exact absurd (show false = true from hs) Bool.false_ne_true
 | bl i =>
  cases rx
  cases y with
  | non => cases ry; exact PySem.EqNone.ne_bool_none (aqT I q (by simp))
  | bl j => cases ry; exact ne_bool (aqT I q (congrArg not rqq))
  | str j => obtain ⟨t', rfl⟩ := ry; exact PySem.EqMixed.ne_bool_str (aqT I q (by simp))
  | _ => exact absurd (show false = true from hs) Bool.false_ne_true
 | int i =>
  obtain ⟨t, rfl⟩ := rx
  cases y with
  | non => cases ry; exact PySem.EqNone.ne_int_none (aqT I q (by simp))
  | int j => obtain ⟨t', rfl⟩ := ry; exact ne_int (aqT I q (congrArg not oqT))
  | str j => obtain ⟨t', rfl⟩ := ry; exact PySem.EqMixed.ne_int_str (aqT I q (by simp))
  | _ => exact absurd (show false = true from hs) Bool.false_ne_true
 | str i =>
  obtain ⟨t, rfl⟩ := rx
  cases y with
  | non => cases ry; exact PySem.EqNone.ne_str_none (aqT I q (by simp))
  | bl j => cases ry; exact PySem.EqMixed.ne_str_bool (aqT I q (by simp))
  | int j => obtain ⟨t', rfl⟩ := ry; exact PySem.EqMixed.ne_str_int (aqT I q (by simp))
  | str j => obtain ⟨t', rfl⟩ := ry; exact ne_str (aqT I q (congrArg not oqU))
  | _ => exact absurd (show false = true from hs) Bool.false_ne_true
 | byt i =>
  obtain ⟨t, rfl⟩ := rx
  cases y with
  | byt j => obtain ⟨t', rfl⟩ := ry; exact PySem.W.ne_bytes (aqT I q (congrArg not oqZ))
  | _ => exact absurd (show false = true from hs) Bool.false_ne_true
 | _ => cases y <;> exact absurd (show false = true from hs) Bool.false_ne_true
theorem qqd : OpR X (compareOp .Lt) (rI0 fun i j => .bl (decide (i < j))) := opB0 fun _ _ _ _ _ _ _ q => lt_int q
theorem vqk : OpR X (compareOp .LtE) (rI0 fun i j => .bl (decide (i ≤ j))) := opB0 fun _ _ _ _ _ _ _ q => le_int q
theorem mqt : OpR X (compareOp .Gt) (rI0 fun i j => .bl (decide (j < i))) := opB0 fun _ _ _ _ _ _ _ q => gt_int q
theorem oqA : OpR X (compareOp .In) (fun x y H Q => ∃ i j, x = .str i ∧ y = .str j ∧ Q (.bl (!(Builtin.Str.occurrences j i 0 j.length 1).isEmpty)) H) := by
 intro pins s σ H x y v u Q I rx ry h
 obtain ⟨i, j, rfl, rfl, q⟩ := h
 obtain ⟨t, rfl⟩ := rx
 obtain ⟨t', rfl⟩ := ry
 exact in_str (aqT I q rfl)
theorem uqf : OpR X (compareOp .Is) (fun x y H Q => y = .non ∧ Q (.bl (decide (x = .non))) H) := by
 intro pins s σ H x y v u Q I rx ry h
 obtain ⟨rfl, q⟩ := h
 cases ry
 refine is_none_gen (aqT I q ?_)
 cases x <;> first
  | (cases rx; rfl)
  | (obtain ⟨t, rfl⟩ := rx; rfl)
theorem sqt : OpR X (compareOp .IsNot) (fun x y H Q => y = .non ∧ Q (.bl (!decide (x = .non))) H) := by
 intro pins s σ H x y v u Q I rx ry h
 obtain ⟨rfl, q⟩ := h
 cases ry
 refine isnot_none_gen (aqT I q ?_)
 cases x <;> first
  | (cases rx; rfl)
  | (obtain ⟨t, rfl⟩ := rx; rfl)
theorem nomark (b : Expr) {op : CmpOp} (h : op ≠ .In := by decide) (h2 : op ≠ .NotIn := by decide) : behindInMarks op b = false := by
 have e1 : (op == CmpOp.In) = false := by cases op <;> first | rfl | exact absurd rfl h
 have e2 : (op == CmpOp.NotIn) = false := by cases op <;> first | rfl | exact absurd rfl h2
 cases b <;> simp [behindInMarks, e1, e2]
theorem bqp {op : CmpOp} {r : R2} (ho : OpR X (compareOp op) r) (ha : PE X a ta) (hb : PE X b tb) (hm : behindInMarks op b = false) : PE X (.Compare a [op] [b] pos) (tOp r ta tb) := by
 intro pins s σ H Q I h
 exact wpAny_Compare1 (binT ha hb I h fun v u s2 x y H2 I2 rx ry q => ho pins s2 σ H2 x y v u Q I2 rx ry q) hm
def tTest (t : TE) : TT := fun σ H Q => t σ H fun x H' => ∃ k, x = .bl k ∧ Q k H'
theorem aqm {op : CmpOp} {r : R2} (ho : OpR X (compareOp op) r) (ha : PE X a ta) (hb : PE X b tb) (hm : behindInMarks op b = false) : PT X (.Compare a [op] [b] pos) (tTest (tOp r ta tb)) := by
 intro pins s σ H Q I h
 refine wpAny_isTrue_Compare1 (thn (ha pins s σ H _ I h) fun v s1 ⟨x, H1, I1, r1, q1⟩ => thn (hb pins s1 σ H1 _ I1 q1) fun u s2 ⟨y, H2, I2, r2, q2⟩ =>
  thn (ho pins s2 σ H2 x y v u _ I2 r1 r2 q2) fun c s3 ⟨z, H3, I3, r3, k, e, q3⟩ => ?_) hm
 subst e
 cases r3
 exact wpAny_truthy_bool ⟨H3, I3, q3⟩
def tChain (r r' : R2) (ta tb tc : TE) : TE := fun σ H Q => ta σ H fun x H1 => tb σ H1 fun y H2 => r x y H2 fun z H3 => ∃ k, z = .bl k ∧
 (if k = true then tc σ H3 fun w' H4 => r' y w' H4 Q else Q (.bl false) H3)
theorem line63 : (sizeLine : Nat) < 2 ^ 63 := by rw [sizeLine_eq]; decide
theorem nqo : OpR X (binaryOp .Add) (fun x y H Q => ∃ i j, x = .str i ∧ y = .str j ∧ i.length + j.length ≤ sizeLine ∧ Q (.str (i ++ j)) H) := by
 intro pins s σ H x y v u Q I rx ry h
 obtain ⟨i, j, rfl, rfl, hz, q⟩ := h
 obtain ⟨t, rfl⟩ := rx
 obtain ⟨t', rfl⟩ := ry
 exact add_str (fun t' tk => ⟨.str (i ++ j), H, I.tok _, ⟨_, rfl⟩, q⟩) hz
theorem vals1 {x : V} {us : List Value} (r : Vals [x] us) : ∃ u, us = [u] ∧ RelV x u := by
 cases r with
 | cons r1 r2 => cases r2; exact ⟨_, rfl, r1⟩
theorem vals2 {x y : V} {us : List Value} (r : Vals [x, y] us) : ∃ u w', us = [u, w'] ∧ RelV x u ∧ RelV y w' := by
 cases r with
 | cons r1 r2 =>
  cases r2 with
  | cons r3 r4 => cases r4; exact ⟨_, _, rfl, r1, r3⟩
theorem kqF : CallR X (.type "int") (fun xs H Q => (∃ i, xs = [.int i] ∧ Q (.int i) H) ∨ ∃ k, xs = [.bl k] ∧ Q (.int (if k then 1 else 0)) H) := by
 intro pins s σ H xs us Q I r h
 rcases h with ⟨i, rfl, q⟩ | ⟨k, rfl, q⟩
 ·obtain ⟨u, rfl, t, rfl⟩ := vals1 r
  exact call_int_int ⟨.int i, H, I, ⟨_, rfl⟩, q⟩
 ·obtain ⟨u, rfl, r1⟩ := vals1 r
  cases r1
  exact call_int_bool ⟨.int (if k then 1 else 0), H, I.tok _, ⟨_, rfl⟩, q⟩
theorem kq4 : CallR X (.type "str") (fun xs H Q => ∃ i, xs = [.int i] ∧ i.natAbs.log2 < 1920 ∧ Q (.str (toString i)) H) := by
 intro pins s σ H xs us Q I r h
 obtain ⟨i, rfl, hz, q⟩ := h
 obtain ⟨u, rfl, t, rfl⟩ := vals1 r
 exact PySem.P.str_of_int hz ⟨.str _, H, I.tok _, ⟨_, rfl⟩, q⟩
theorem pq8 : CallR X (.builtin "ord") (fun xs H Q => ∃ x, xs = [.str x] ∧ x.length = 1 ∧ Q (.int (x.cps.getD 0 0 : Nat)) H) := by
 intro pins s σ H xs us Q I r h
 obtain ⟨x, rfl, hz, q⟩ := h
 obtain ⟨u, rfl, t, rfl⟩ := vals1 r
 exact ord_of_one hz ⟨.int _, H, I.tok _, ⟨_, rfl⟩, q⟩
end
structure ObjM (h : Heap) (x dx C : Addr) (mA : Str → Option Value) : Prop where
 obj : h.get? x = some (PySem.W.instObj C dx)
 ns : h.Ns1 dx mA
 ne : dx ≠ x
theorem lqA {h : Heap} {dx : Addr} {mA : Str → Option Value} (n : h.Ns1 dx mA) : ∃ od, h.get? dx = some od ∧ ∀ name, PySem.W.lookIn name od = some (mA name) := by
 obtain ⟨o, es, ep, ho, hd, hk, _, hm⟩ := n
 refine ⟨o, ho, fun name => ?_⟩
 have e := hm name
 unfold nsFind findBy at e
 rw [← Array.find?_toList] at e
 unfold PySem.W.lookIn
 rw [hd]
 dsimp only
 split
 ·rename_i y q
  rw [q] at e
  exact congrArg some e
 ·rename_i q
  rw [q] at e
  have a : es.toList.any (·.refKey) = false := by
   rw [List.any_eq_false]
   intro y hy
   obtain ⟨z, t, hkey⟩ := hk y (Array.mem_toList_iff.mp hy)
   simp [DictEntry.refKey, hkey]
  have a' : ¬ es.toList.any (·.refKey) = true := by rw [a]; exact Bool.false_ne_true
  rw [if_neg a']
  exact congrArg some e
theorem ObjM.look {h : Heap} {x dx C : Addr} {mA : Str → Option Value} (I : ObjM h x dx C mA) : ∃ od, PySem.W.InstAt h x (PySem.W.instObj C dx) C (some od) ∧ ∀ name, PySem.W.lookIn name od = some (mA name) :=
 let ⟨od, ho, hl⟩ := lqA I.ns
 ⟨od, ⟨I.obj, rfl, rfl, ho⟩, hl⟩
section
variable {prog : Program} {w : World} {A : Around} {E : Value → Shared → Prop} {s : Shared} {K : PySem.W.Frag} {x dx C f : Addr} {mA : Str → Option Value} {name : Str} {v : Value}
theorem tqA {expr : Bool} {Q : Value → Shared → Prop} (X : K.In s.heap) (I : ObjM s.heap x dx C mA) (hg : PySem.W.plainGet K C name = true) (hh : PySem.W.hasDictIn K C = true)
  (ha : PySem.W.findIn K (.ref C) name = some none) (hv : mA name = some v) (hv' : PySem.W.handedIn v = true) (h : Q v { s with toks := s.toks + 1 }) :
  wpAny (model prog w) A (getAttr (.ref x) name expr) Q E s := by
 obtain ⟨od, J, hl⟩ := I.look
 exact PySem.W.get_value X J (PySem.W.plainGet_of hg).1 (PySem.W.findObj_own hh ha rfl (by rw [hl, hv])) hv' h
theorem qqK {pl : Sem Bool} {Q : Value × List Value → Shared → Prop} (X : K.In s.heap) (I : ObjM s.heap x dx C mA) (hg : PySem.W.plainGet K C name = true)
  (hf : PySem.W.findIn K (.ref C) name = some (some (.ref f))) (ht : PySem.W.isFn K (.ref f) = true) (hv : mA name = none) (h : Q (.ref f, [.ref x]) s) :
  wpAny (model prog w) A (getMethod (.ref x) name pl) Q E s := by
 obtain ⟨od, J, hl⟩ := I.look
 exact PySem.W.method_fn X J (PySem.W.plainGet_of hg).1 (PySem.W.plainGet_of hg).2 hf (beq_iff_eq.mp ht) (by show (PySem.W.lookIn name od).map (·.isSome) = some false; rw [hl, hv]; rfl) h
theorem tqn {ns : List Str} {Q : Unit → Shared → Prop} (X : K.In s.heap) (I : ObjM s.heap x dx C mA)
  (hs : PySem.W.findIn K (.ref C) "__setattr__" = some (some (.builtin "object.__setattr__"))) (hp : PySem.W.plainOver K C = true) (ht : PySem.W.takerIn K C name = some none) (hh : PySem.W.hasDictIn K C = true)
  (hw : PySem.Within mA ns) (hsz : ns.length ≤ sizeLine)
  (h : ∀ h', ObjM h' x dx C (fun y => if y = name then some v else mA y) → Heap.SameBut dx s.heap h' → Q () { s with heap := h', toks := s.toks + 2 }) :
  wpAny (model prog w) A (setAttr (.ref x) name v) Q E s := by
 obtain ⟨od, J, hl⟩ := I.look
 refine PySem.W.set_plain X J hs (PySem.W.osa_open (s := { s with toks := s.toks + 1 }) (r := none) X J hp ht fun b => ?_)
 obtain ⟨cd, hc, hd'⟩ := PySem.W.any_some hh
 have hx : s.heap.get? x = some ⟨.ref C, some dx, .plain, #[]⟩ := I.obj
 refine wpAny_bind (wpAny_pure (wpAny_bind (wpAny_bind (wpAny_loadPart hx (wpAny_bind (PySem.W.Looks.here (s := { s with toks := s.toks + 1 }) (PySem.W.looks_clsIn X hc) ?_))))))
 rw [hd']
 refine wpAny_pure (a := some dx) (wpAny_bind (wpAny_pure (wpAny_bind ?_)))
 refine wpAny_nsSet1 (s := { s with toks := s.toks + 1 }) I.ns fun h' hn2 hs2 => ?_
 obtain ⟨oD, esD, epD, hoD, hdD, hcD⟩ := hn2.count (PySem.Within.cons name v hw)
 refine wpAny_bind (wpAny_lookBehind hoD (by rw [hdD]; exact pastItsLine_dict (Nat.le_trans hcD (by rw [List.length_cons]; lia))) ?_)
 exact wpAny_pure (h _ ⟨(hs2.2 _ (Ne.symm I.ne)).trans I.obj, hn2, I.ne⟩ hs2)
theorem mq5 {R : Result → Shared → Prop} {vs : List Value} {kw : List (Str × Value)} (X : K.In s.heap) (hm : PySem.W.makesIn K C = true)
  (hi : PySem.W.findIn K (.ref C) "__init__" = some (some (.ref f))) (hf : PySem.W.typeIn K (.ref f) = some (.type "function"))
  (h : codeAny (model prog w) (A.under (.builtin "type.__call__" ⟨.ref C :: vs, kw⟩)) (.call (.ref f) ⟨.ref (s.heap.objs.size + 1) :: vs, kw⟩) (PySem.W.InitBack (s.heap.objs.size + 1) R)
   { s with heap := (s.heap.push PySem.W.emptyDict).push (PySem.W.instObj C s.heap.objs.size) }) :
  codeAny (model prog w) A (.call (.ref C) ⟨vs, kw⟩) R s := by
 obtain ⟨hh, g, d, t, os⟩ := s
 exact PySem.W.make_core (PySem.W.makes_of X hm) (PySem.W.looks_findIn X hi) (fun self => PySem.W.bind_fn X self hf) (.inl rfl) h
end
def putF (f : Str) (v : V) : List (Str × V) → List (Str × V)
 | [] => [(f, v)]
 | (g, x) :: r => if g = f then (g, v) :: r else (g, x) :: putF f v r
theorem iqj (f g : Str) (v : V) : ∀ fs : List (Str × V), (putF f v fs).lookup g = if g = f then some v else fs.lookup g
 | [] => by
  show List.lookup g [(f, v)] = _
  by_cases h : g = f
  ·have hb : (g == f) = true := beq_iff_eq.mpr h
   simp only [List.lookup, hb, if_pos h]
  ·have hb : (g == f) = false := beq_eq_false_iff_ne.mpr h
   simp only [List.lookup, hb, if_neg h]
 | (k, x) :: r => by
  have ih := iqj f g v r
  rw [show putF f v ((k, x) :: r) = (if k = f then (k, v) :: r else (k, x) :: putF f v r) from rfl]
  by_cases hk : k = f
  ·rw [if_pos hk]
   by_cases h : g = k
   ·have hb : (g == k) = true := beq_iff_eq.mpr h
    simp only [List.lookup, hb, if_pos (h.trans hk)]
   ·have hb : (g == k) = false := beq_eq_false_iff_ne.mpr h
    simp only [List.lookup, hb, if_neg (fun e : g = f => h (e.trans hk.symm))]
  ·rw [if_neg hk]
   by_cases h : g = k
   ·have hb : (g == k) = true := beq_iff_eq.mpr h
    simp only [List.lookup, hb, if_neg (fun e : g = f => hk (h.symm.trans e))]
   ·have hb : (g == k) = false := beq_eq_false_iff_ne.mpr h
    simp only [List.lookup, hb]
    exact ih
theorem iqx (f : Str) (v : V) : ∀ fs : List (Str × V), f ∈ (putF f v fs).map (·.1) ∧ ∀ g, g ∈ fs.map (·.1) → g ∈ (putF f v fs).map (·.1)
 | [] => ⟨by simp [putF], fun g h => by simp at h⟩
 | (k, x) :: r => by
  obtain ⟨i1, i2⟩ := iqx f v r
  rw [show putF f v ((k, x) :: r) = (if k = f then (k, v) :: r else (k, x) :: putF f v r) from rfl]
  by_cases hk : k = f
  ·rw [if_pos hk]
   subst hk
   exact ⟨by simp, fun g h => by simpa using h⟩
  ·rw [if_neg hk]
   refine ⟨?_, fun g h => ?_⟩
   ·rw [List.map_cons]
    exact List.mem_cons_of_mem _ i1
   ·rw [List.map_cons] at h ⊢
    rcases List.mem_cons.mp h with e | e
    ·exact List.mem_cons.mpr (.inl e)
    ·exact List.mem_cons_of_mem _ (i2 g e)
theorem hqR (f : Str) (v : V) : ∀ fs : List (Str × V), (putF f v fs).length ≤ fs.length + 1
 | [] => by simp [putF]
 | (k, x) :: r => by
  have ih := hqR f v r
  rw [show putF f v ((k, x) :: r) = (if k = f then (k, v) :: r else (k, x) :: putF f v r) from rfl]
  by_cases hk : k = f
  ·rw [if_pos hk, List.length_cons, List.length_cons]; lia
  ·rw [if_neg hk, List.length_cons, List.length_cons]; lia
theorem RelO.some_of {v : V} {o : Option Value} (r : RelO (some v) o) : ∃ u, o = some u ∧ RelV v u := by
 cases o with
 | none => exact (show False from r).elim
 | some u => exact ⟨u, rfl, r⟩
theorem RelO.none_of {o : Option Value} (r : RelO none o) : o = none := by
 cases o with
 | none => rfl
 | some u => exact (show False from r).elim
theorem lqp {v : V} {u : Value} (r : RelV v u) : PySem.W.handedIn u = true := by
 cases v with
 | non => cases (show u = Value.none from r); rfl
 | bl b => cases (show u = Value.bool b from r); rfl
 | int i => obtain ⟨t, e⟩ := (show ∃ t, u = Value.int i t from r); cases e; rfl
 | str x => obtain ⟨t, e⟩ := (show ∃ t, u = Value.str x t from r); cases e; rfl
 | byt b => obtain ⟨t, e⟩ := (show ∃ t, u = Value.bytes b t from r); cases e; rfl
 | flt b => obtain ⟨t, e⟩ := (show ∃ t, u = Value.float b t from r); cases e; rfl
 | ref a => cases (show u = Value.ref a from r); rfl
 | ty n => cases (show u = Value.type n from r); rfl
section
variable {P : Program} {w : World} {H H' : Hp} {h h' : Heap} {a C dx : Addr} {fs fs' : List (Str × V)}
theorem jqL (hok : HOk P w H h) (e : H a = some (.ins C dx fs)) : ∃ mA, ObjM h a dx C mA ∧ (∀ f, RelO (fs.lookup f) (mA f)) ∧ PySem.Within mA (fs.map (·.1)) ∧ fs.length ≤ 1000 ∧ H dx = some (.own a) := by
 obtain ⟨d, z, ne, ob, mA, n, r, q⟩ := (show ObjOk P w H h a (.ins C dx fs) from hok a _ e)
 exact ⟨mA, ⟨ob, n, ne⟩, r, q, z, d⟩
end
structure Cls (K : PySem.W.Frag) (C : Addr) : Prop where
 pg : PySem.W.plainGet K C Str.empty = true
 hd : PySem.W.hasDictIn K C = true
 po : PySem.W.plainOver K C = true
 sa : PySem.W.findIn K (.ref C) "__setattr__" = some (some (.builtin "object.__setattr__"))
theorem Cls.get {K : PySem.W.Frag} {C : Addr} (c : Cls K C) (f : Str) : PySem.W.plainGet K C f = true := c.pg
def NoAttr (K : PySem.W.Frag) (C : Addr) (f : Str) : Prop := PySem.W.findIn K (.ref C) f = some none
theorem NoAttr.taker {K : PySem.W.Frag} {C : Addr} {f : Str} (n : NoAttr K C f) : PySem.W.takerIn K C f = some none := by
 unfold PySem.W.takerIn
 rw [show PySem.W.findIn K (.ref C) f = some none from n]
 rfl
structure Con (K : PySem.W.Frag) (C : Addr) (f : Str) (v : V) (u : Value) : Prop where
 at_ : PySem.W.findIn K (.ref C) f = some (some u)
 rel : RelV v u
 get : PySem.W.specialIn K u "__get__" = some none
 cp : PySem.W.copiedNames.contains f = false
structure Meth (K : PySem.W.Frag) (C : Addr) (m : Str) (f : Addr) : Prop where
 at_ : PySem.W.findIn K (.ref C) m = some (some (.ref f))
 fn : PySem.W.isFn K (.ref f) = true
 kp : PySem.W.keepIn K (.ref f) = true
section
variable {X : Cx} {pins : List (Addr × Obj)} {σ : St} {H : Hp} {s : Shared} {a C dx : Addr} {fs : List (Str × V)} {f : Str} {v : V} {A : Around} {E : Value → Shared → Prop}
theorem nq6 {b : Bool} {Q : Value → Shared → Prop} (I : Inv X pins σ H s) (e : H a = some (.ins C dx fs)) (c : Cls X.K C) (n : NoAttr X.K C f) (l : fs.lookup f = some v)
  (h : ∀ u s', Inv X pins σ H s' → RelV v u → Q u s') : wpAny (model X.prog X.w) A (getAttr (.ref a) f b) Q E s := by
 obtain ⟨mA, O, r, _, _, _⟩ := jqL I.hok e
 obtain ⟨u, hu, ru⟩ := RelO.some_of (v := v) (o := mA f) (by rw [← l]; exact r f)
 exact tqA I.kIn O (c.get f) c.hd n hu (lqp ru) (h u _ (I.tok _) ru)
theorem fqh {m : Str} {g : Addr} {pl : Sem Bool} {Q : Value × List Value → Shared → Prop} (I : Inv X pins σ H s) (e : H a = some (.ins C dx fs)) (c : Cls X.K C) (k : Meth X.K C m g) (l : fs.lookup m = none)
  (h : Q (.ref g, [.ref a]) s) : wpAny (model X.prog X.w) A (getMethod (.ref a) m pl) Q E s := by
 obtain ⟨mA, O, r, _, _, _⟩ := jqL I.hok e
 have hn : mA m = none := RelO.none_of (by rw [← l]; exact r m)
 exact qqK I.kIn O (c.get m) k.at_ k.fn hn h
theorem nqV {y : V} {u : Value} {Q : Unit → Shared → Prop} (I : Inv X pins σ H s) (e : H a = some (.ins C dx fs)) (c : Cls X.K C) (n : NoAttr X.K C f) (hl : fs.length < 1000) (ry : RelV y u)
  (h : ∀ s', Inv X pins σ (upd H a (.ins C dx (putF f y fs))) s' → Q () s') : wpAny (model X.prog X.w) A (setAttr (.ref a) f u) Q E s := by
 obtain ⟨mA, O, r, wi, _, ho⟩ := jqL I.hok e
 have hz : (fs.map (·.1)).length ≤ sizeLine := by rw [List.length_map, sizeLine_eq]; lia
 refine tqn I.kIn O c.sa c.po n.taker c.hd wi hz fun h' O' sb => h _ ?_
 have hd : ∃ o, h'.get? dx = some o := let ⟨o, _, _, e', _⟩ := O'.ns; ⟨o, e'⟩
 refine I.write (x := a) (e := dx) (by rw [e]; exact True.intro) (.inr ho) (fun b q hb z => (sb.2 b hb).trans z) hd ?_
 refine ⟨by rw [aqt O.ne]; exact ho, ?_, O.ne, O'.obj, _, O'.ns, fun g => ?_, fun g hg => ?_⟩
 ·have := hqR f y fs; lia
 ·show RelO ((putF f y fs).lookup g) (if g = f then some u else mA g)
  rw [iqj]
  by_cases q : g = f
  ·rw [if_pos q, if_pos q]; exact ry
  ·rw [if_neg q, if_neg q]; exact r g
 ·by_cases q : g = f
  ·rw [q]; exact (iqx f y fs).1
  ·refine (iqx f y fs).2 g (wi g fun z => hg ?_)
   show (if g = f then some u else mA g) = none
   rw [if_neg q]; exact z
theorem Inv.made (I : Inv X pins σ H s) : Inv X pins σ (upd (upd H s.heap.objs.size (.own (s.heap.objs.size + 1))) (s.heap.objs.size + 1) (.ins C s.heap.objs.size []))
  { s with heap := (s.heap.push PySem.W.emptyDict).push (PySem.W.instObj C s.heap.objs.size) } := by
 have e1 : (s.heap.push PySem.W.emptyDict).get? s.heap.objs.size = some PySem.W.emptyDict := Heap.get?_push_size s.heap rfl
 have e2 : ((s.heap.push PySem.W.emptyDict).push (PySem.W.instObj C s.heap.objs.size)).get? (s.heap.objs.size + 1) = some (PySem.W.instObj C s.heap.objs.size) := by
  have := Heap.get?_push_size (s.heap.push PySem.W.emptyDict) (o := PySem.W.instObj C s.heap.objs.size) rfl
  rwa [Heap.size_push] at this
 have e3 : (s.heap.push PySem.W.emptyDict).Ns s.heap.objs.size (fun _ => none) := ⟨PySem.W.emptyDict, #[], _, e1, rfl, (fun e he => absurd he (by simp)), fun _ => rfl⟩
 have I1 := I.laid (a := s.heap.objs.size) (o := .own (s.heap.objs.size + 1)) (h' := s.heap.push PySem.W.emptyDict) (t' := s.toks) (fun b u q => Heap.get?_push_of_some _ q) (Nat.le_refl _) ⟨_, e1⟩
 refine I1.laid (a := s.heap.objs.size + 1) (o := .ins C s.heap.objs.size []) (t' := s.toks) (fun b u q => Heap.get?_push_of_some _ q) (Nat.le_of_eq (Heap.size_push _ _)) ?_
 have ne : s.heap.objs.size ≠ s.heap.objs.size + 1 := Nat.ne_of_lt (Nat.lt_succ_self _)
 refine ⟨by rw [aqt ne, aqh], Nat.zero_le _, ne, e2, fun _ => none, (Heap.Ns1.of_empty e3).at fun o q => Heap.get?_push_of_some _ q, fun _ => True.intro, fun y hy => absurd rfl hy⟩
theorem oq1 {prog : Program} {w : World} {env : Env} {e : Expr} {f : Str} {pos : Pos} {s : Shared} {Q : Value → Shared → Prop} (hb : attributeBase e f env (eval e env) = eval e env)
  (h : wpAny (model prog w) A (eval e env) (fun o s₁ => wpAny (model prog w) A (getAttr o f true) Q E s₁) E s) : wpAny (model prog w) A (eval (.Attribute e f pos) env) Q E s :=
 Attribute_any_ h (by rw [arm_eval_Attribute, hb])
end
def tFld (K : PySem.W.Frag) (ta : TE) (f : Str) : TE := fun σ H Q => ta σ H fun x H1 => ∃ a C dx fs v, x = .ref a ∧ H1 a = some (.ins C dx fs) ∧ Cls K C ∧ NoAttr K C f ∧ fs.lookup f = some v ∧ Q v H1
def sFld (K : PySem.W.Frag) (ta tv : TE) (f : Str) : TS := fun D σ H => tv σ H fun y H1 => ta σ H1 fun x H2 => ∃ a C dx fs, x = .ref a ∧ H2 a = some (.ins C dx fs) ∧ Cls K C ∧ NoAttr K C f ∧ fs.length < 1000 ∧
 D.nx σ (upd H2 a (.ins C dx (putF f y fs)))
section
variable {X : Cx} {o e value : Expr} {f : Str} {pos pos' tpos : Pos} {ta tv : TE}
theorem bqt (he : PE X e ta) (hb : attributeBase e f X.env (eval e X.env) = eval e X.env) : PE X (.Attribute e f pos) (tFld X.K ta f) := by
 intro pins s σ H Q I h
 refine oq1 hb (thn (he pins s σ H _ I h) fun u s1 W' => ?_)
 obtain ⟨x, H1, I1, rx, a, C, dx, fs, v, ex, ea, c, n, l, q⟩ := W'
 subst ex
 obtain rfl : u = Value.ref a := rx
 exact nq6 I1 ea c n l fun u' s2 I2 ru => ⟨v, H1, I2, ru, q⟩
theorem iqP (ha : PE X o ta) (hv : PE X value tv) (hs : swapsWith value (some (.Attribute o f pos')) pos.line X.env = pure false) : PS X (.Assign [.Attribute o f pos'] value pos) (sFld X.K ta tv f) := by
 intro pins s σ H D I h
 refine plainObj_wpAny_Assign_Attribute (thn (hv pins s σ H _ I h) fun u s1 ⟨y, H1, I1, ry, q⟩ => thn (ha pins s1 σ H1 _ I1 q) fun ov s2 W' => ?_) hs
 obtain ⟨x, H2, I2, rx, a, C, dx, fs, ex, ea, c, n, l, q2⟩ := W'
 subst ex
 obtain rfl : ov = Value.ref a := rx
 exact nqV I2 ea c n l ry fun s3 I3 => ⟨σ, _, I3, q2⟩
theorem sqw {pl : Sem Bool} {m : Str} {apos : Pos} {args : List Expr} {pins : List (Addr × Obj)} {s : Shared} {σ : St} {H : Hp} {Q : Value → Shared → Prop} {te : TE} (he : PE X e te) (I : Inv X pins σ H s)
  (h : te σ H fun x H1 => ∃ a C dx fs g, x = .ref a ∧ H1 a = some (.ins C dx fs) ∧ Cls X.K C ∧ Meth X.K C m g ∧ fs.lookup m = none ∧
   ∀ s1, Inv X pins σ H1 s1 → wpAny (model X.prog X.w) X.A (callWith pos (.ref g) [.ref a] (backTo pos (starEach args X.env)) (backToKw pos (keywordEach [] X.env))) Q X.xe s1)
  (ht : eval (.Call (.Attribute e m apos) args [] pos) X.env = (do
   let ov ← eval e X.env
   standAt apos.atName
   let (f, first) ← holding [ov] (getMethod ov m pl)
   callWith pos f first (backTo pos (starEach args X.env)) (backToKw pos (keywordEach [] X.env)))) :
  wpAny (model X.prog X.w) X.A (eval (.Call (.Attribute e m apos) args [] pos) X.env) Q X.xe s := by
 refine PySem.W.methodCall_KW (pl := pl) (thn (he pins s σ H _ I h) fun u s1 W' => ?_) ht
 obtain ⟨x, H1, I1, rx, a, C, dx, fs, g, ex, ea, c, k, l, q⟩ := W'
 subst ex
 obtain rfl : u = Value.ref a := rx
 exact fqh I1 ea c k l (q s1 I1)
end
section
variable {X : Cx} {pins : List (Addr × Obj)} {σ : St} {H : Hp} {s : Shared} {A : Around} {E : Value → Shared → Prop} {Q : Value → Shared → Prop} {c : Value} {b : Bool}
inductive TyOf (K : PySem.W.Frag) (H : Hp) : V → Value → Prop where
 | non : TyOf K H .non (.type "NoneType")
 | bl (x : Bool) : TyOf K H (.bl x) (.type "bool")
 | int (i : Int) : TyOf K H (.int i) (.type "int")
 | str (x : Str) : TyOf K H (.str x) (.type "str")
 | flt (x : UInt64) : TyOf K H (.flt x) (.type "float")
 | lst {a : Addr} {xs : List V} (e : H a = some (.lst xs)) : TyOf K H (.ref a) (.type "list")
 | frz {a : Addr} {o : Obj} {xs : List V} (e : H a = some (.frz o (.lst xs))) : TyOf K H (.ref a) (.type "list")
 | tup {a : Addr} {xs : List V} (e : H a = some (.tup xs)) : TyOf K H (.ref a) (.type "tuple")
 | dK {a : Addr} {kvs : List (Key × V)} (e : H a = some (.dK kvs)) : TyOf K H (.ref a) (.type "dict")
 | dT {a : Addr} {kvs : List (List Key × V)} (e : H a = some (.dT kvs)) : TyOf K H (.ref a) (.type "dict")
 | ins {a C dx : Addr} {fs : List (Str × V)} (e : H a = some (.ins C dx fs)) (cl : Cls K C) (ha : PySem.W.findIn K (.ref C) "__class__" = some (some (.builtin "object.__class__")))
   (hn : PySem.W.specialIn K (.builtin "object.__class__") "__get__" = some (some (.builtin "getset_descriptor.__get__"))) (htk : PySem.W.takesIn K (.builtin "object.__class__") = some true)
   (hm : PySem.W.mroIn K C (.type "object") = some true) : TyOf K H (.ref a) (.ref C)
theorem pqf {x : V} {u t : Value} (I : Inv X pins σ H s) (rx : RelV x u) (ty : TyOf X.K H x t) (e : PySem.W.kitOne X.K t c = some b) (h : ∀ tk, Q (.bool b) { s with toks := tk }) :
  wpAny (model X.prog X.w) A (call (.builtin "isinstance") [u, c]) Q E s := by
 cases ty with
 | non => cases (show u = Value.none from rx); exact PySem.W.kia_one PySem.W.kitx_none I.kIn True.intro e (fun z => nomatch z) h
 | bl y => cases (show u = Value.bool y from rx); exact PySem.W.kia_one PySem.W.kitx_bool I.kIn True.intro e (fun z => nomatch z) h
 | int i => obtain ⟨t, q⟩ := (show ∃ t, u = Value.int i t from rx); cases q; exact PySem.W.kia_one PySem.W.kitx_int I.kIn True.intro e (fun z => nomatch z) h
 | str y => obtain ⟨t, q⟩ := (show ∃ t, u = Value.str y t from rx); cases q; exact PySem.W.kia_one PySem.W.kitx_str I.kIn True.intro e (fun z => nomatch z) h
 | flt y => obtain ⟨t, q⟩ := (show ∃ t, u = Value.float y t from rx); cases q; exact PySem.W.kia_one PySem.W.kitx_float I.kIn True.intro e (fun z => nomatch z) h
 | @lst a xs ea =>
  cases (show u = Value.ref a from rx)
  obtain ⟨_, _, n, _, h1⟩ := (show ObjOk X.prog X.w H s.heap a (.lst xs) from I.hok a _ ea)
  exact PySem.W.kia_one PySem.W.kitx_list I.kIn ⟨_, h1, rfl⟩ e (fun z => nomatch z) h
 | @frz a ob xs ea =>
  cases (show u = Value.ref a from rx)
  obtain ⟨_, _, _, n, _, h1⟩ := (show ObjOk X.prog X.w H s.heap a (.frz ob (.lst xs)) from I.hok a _ ea)
  exact PySem.W.kia_one PySem.W.kitx_list I.kIn ⟨_, h1, rfl⟩ e (fun z => nomatch z) h
 | @tup a xs ea =>
  cases (show u = Value.ref a from rx)
  obtain ⟨_, _, _, p⟩ := (show ObjOk X.prog X.w H s.heap a (.tup xs) from I.hok a _ ea)
  obtain ⟨o, h1, h2, _⟩ := p
  exact PySem.W.kia_one PySem.W.kitx_tuple I.kIn ⟨o, h1, h2⟩ e (fun z => nomatch z) h
 | @dK a kvs ea =>
  cases (show u = Value.ref a from rx)
  obtain ⟨_, _, vs, _, p⟩ := (show ObjOk X.prog X.w H s.heap a (.dK kvs) from I.hok a _ ea)
  obtain ⟨o, es, ep, h1, h2, _⟩ := p
  exact PySem.W.kia_one PySem.W.kitx_dict I.kIn ⟨o, h1, h2.1⟩ e (fun z => nomatch z) h
 | @dT a kvs ea =>
  cases (show u = Value.ref a from rx)
  obtain ⟨_, _, xs, _, o, es, ep, h1, h2, _⟩ := (show ObjOk X.prog X.w H s.heap a (.dT kvs) from I.hok a _ ea)
  exact PySem.W.kia_one PySem.W.kitx_dict I.kIn ⟨o, h1, h2.1⟩ e (fun z => nomatch z) h
 | @ins a C dx fs ea cl ha hn htk hm =>
  cases (show u = Value.ref a from rx)
  obtain ⟨mA, O, _⟩ := jqL I.hok ea
  obtain ⟨od, J, _⟩ := O.look
  exact PySem.W.kia_one (PySem.W.kitx_own (cl.get _) cl.hd ha hn htk hm) I.kIn J e (fun z => nomatch z) h
end
structure Room (k : Nat) (A : Around) : Prop where
 hd : A.handled = none
 dp : A.depth + 3 * k + 5 < recursionLimit
 un : A.units + 16 * k + 200 < cLine
theorem Room.mono {j k : Nat} {A : Around} (r : Room k A) (h : j ≤ k) : Room j A := ⟨r.hd, by have := r.dp; lia, by have := r.un; lia⟩
theorem Room.deeper {k : Nat} {A : Around} (r : Room (k + 1) A) (env : Env) : Room k (A.deeper env) :=
 ⟨r.hd, by have := r.dp; show A.depth + 1 + 3 * k + 5 < _; lia, by have := r.un; show A.units + 3 + 16 * k + 200 < _; lia⟩
theorem nqn {A : Around} {C : Addr} {us : List Value} {kw : List (Str × Value)} : (A.under (.builtin "type.__call__" ⟨.ref C :: us, kw⟩)).depth = A.depth + 1 := by
 first | rfl | simp [Around.under, Code.weight, Code.isCreation, Code.isGuard, Code.isCaller, Code.frames, Code.isFrame, guardIds]
theorem nqA {A : Around} {C : Addr} {us : List Value} {kw : List (Str × Value)} : (A.under (.builtin "type.__call__" ⟨.ref C :: us, kw⟩)).units = A.units + 1 := by
 first | rfl | simp [Around.under, Code.cUnits, Code.frames, Code.isFrame]
theorem Room.make {k : Nat} {A : Around} (r : Room (k + 1) A) (C : Addr) (us : List Value) (kw : List (Str × Value)) : Room k (A.under (.builtin "type.__call__" ⟨.ref C :: us, kw⟩)) :=
 ⟨r.hd, by have := r.dp; rw [nqn]; lia, by have := r.un; rw [nqA]; lia⟩
theorem Room.depth {k : Nat} {A : Around} (r : Room k A) : A.depth < recursionLimit := by have := r.dp; lia
theorem Room.units {k : Nat} {A : Around} (r : Room k A) : A.units + 64 < cLine := by have := r.un; lia
def tNil : TA := fun _ H Q => Q [] H
def tCons (ta : TE) (tr : TA) : TA := fun σ H Q => ta σ H fun x H1 => tr σ H1 fun xs H2 => Q (x :: xs) H2
section
variable {X : Cx} {e : Expr} {es : List Expr} {te : TE} {t : TA} {pos : Pos}
theorem aqb : PA X [] tNil := fun _ _ _ _ H Q I h => Calls.spliced_nil ⟨[], H, I, .nil, h⟩
theorem aqa (ha : PE X e te) (hr : PA X es t) (hs : starEach (e :: es) X.env = (false, eval e X.env) :: starEach es X.env := by rfl) : PA X (e :: es) (tCons te t) := by
 intro pos pins s σ H Q I h
 rw [hs]
 show wpAny _ _ (spliced ((false, eval e X.env) :: backTo pos (starEach es X.env))) _ _ s
 refine Calls.spliced_cons (thn (ha pins s σ H _ I h) fun u s1 W' => ?_)
 obtain ⟨x, H1, I1, r1, q1⟩ := W'
 exact thn (hr pos pins s1 σ H1 _ I1 q1) fun us s2 ⟨xs, H2, I2, r2, q2⟩ => ⟨x :: xs, H2, I2, .cons r1 r2, q2⟩
def tTup (t : TA) : TE := fun σ H Q => t σ H fun xs H1 => xs.length ≤ sizeLine ∧ ∀ p, H1 p = none → Q (.ref p) (upd H1 p (.tup xs))
def tLst (t : TA) : TE := fun σ H Q => t σ H fun xs H1 => xs.length ≤ sizeLine ∧ ∀ p, H1 p = none → Q (.ref p) (upd H1 p (.lst xs))
theorem uqh (h : PA X es t) : PE X (.List es pos) (tLst t) := by
 intro pins s σ H Q I hq
 refine wpAny_List_spliced (thn (h pos pins s σ H _ I hq) fun us s1 ⟨xs, H1, I1, r, z, q⟩ => ⟨by rw [← r.length]; exact z, ?_⟩)
 have hf : H1 s1.heap.objs.size = none := I1.hok.fresh (Nat.le_refl _)
 refine ⟨.ref s1.heap.objs.size, upd H1 s1.heap.objs.size (.lst xs), I1.laid (t' := s1.toks) (fun b u e => Heap.get?_push_of_some _ e) (Nat.le_refl _) ?_, rfl, q _ hf⟩
 exact ⟨z, us, 0, r, Heap.get?_push_size _ rfl⟩
end
abbrev Sp := List V → Hp → VK → XK → Prop
abbrev CXT := List Env → Hp → Shared → XK → Value → Shared → Prop
structure Env0 (P : Program) (w : World) (K : PySem.W.Frag) (mg : Str → Option Value) (base : Heap) (A : Around) (outer : List Env) (s : Shared) (H : Hp) : Prop where
 frames : A.frames = some outer
 mod : Mod K mg base
 bs : ∀ b o, base.get? b = some o → s.heap.get? b = some o ∧ H b = none
 bsz : base.objs.size ≤ s.heap.objs.size
 funs : s.heap.FunFrames base outer
 frf : ∀ b ∈ frs outer, H b = none
 hok : HOk P w H s.heap
 bare : AllBare s.gens
def CE (outer : List Env) (P : Program) (w : World) (H : Hp) (s : Shared) (Q : VK) (u : Value) (s' : Shared) : Prop :=
 ∃ v H', s'.os = s.os ∧ AllBare s'.gens ∧ Un (frs outer) [] H H' s.heap s'.heap ∧ HOk P w H' s'.heap ∧ RelV v u ∧ Q v H'
def CR (CX : CXT) (outer : List Env) (P : Program) (w : World) (H : Hp) (s : Shared) (Q : VK) (E : XK) (r : Result) (s' : Shared) : Prop :=
 match r with
 | .ok (.ret u) => CE outer P w H s Q u s'
 | .ok _ => False
 | .error e => CX outer H s E e s'
structure FnOk (P : Program) (w : World) (K : PySem.W.Frag) (mg : Str → Option Value) (base : Heap) (CX : CXT) (k : Nat) (f : Addr) (fd : FuncData) (ps : List Str) (sp : Sp) : Prop where
 len : ∀ vs H Q E, sp vs H Q E → vs.length = ps.length
 run : ∀ (A : Around) (outer : List Env) (s : Shared) (H : Hp) (args : Args) (us : List Value) (vs : List V) (Q : VK) (E : XK), Room k A → Env0 P w K mg base A outer s H → BindsTo s fd args (ps.zip us) → Vals vs us → sp vs H Q E →
  codeAny (model P w) A (.call (.ref f) args) (CR CX outer P w H s Q E) s
theorem Env0.make {P : Program} {w : World} {K : PySem.W.Frag} {mg : Str → Option Value} {base : Heap} {A : Around} {outer : List Env} {s : Shared} {H : Hp} (e : Env0 P w K mg base A outer s H) (C : Addr) (us : List Value) (kw : List (Str × Value)) :
  Env0 P w K mg base (A.under (.builtin "type.__call__" ⟨.ref C :: us, kw⟩)) outer s H := ⟨by first | exact e.frames | (simpa [Around.under, Code.envs, Code.isFrame, pushEnvs] using e.frames), e.mod, e.bs, e.bsz, e.funs, e.frf, e.hok, e.bare⟩
section
variable {X : Cx} {pins : List (Addr × Obj)} {σ : St} {H : Hp} {s s' : Shared}
theorem Inv.env0 (I : Inv X pins σ H s) : Env0 X.prog X.w X.K X.mg X.base X.A X.stack s H :=
 ⟨I.ok.frames, I.ok.mod, I.bs, Nat.le_trans I.ok.bsz I.sz, I.stack, I.stkFree, I.hok, I.bare⟩
theorem Inv.after {Q : VK} {u : Value} (I : Inv X pins σ H s) (h : CE X.stack X.prog X.w H s Q u s') : EP X pins σ Q u s' := by
 obtain ⟨v, H', os, bare, un, hok, r, q⟩ := h
 obtain ⟨hh, g, d, t, os'⟩ := s'
 obtain rfl : os' = s.os := os
 exact ⟨v, H', I.call (h' := hh) (g' := g) (d' := d) (t' := t) (ch := []) un hok bare (fun b z => absurd z (by simp)), r, q⟩
end
def tCall (sp : Sp) (dvs : List V) (E : XK) (t : TA) : TE := fun σ H Q => t σ H fun vs H1 => sp (vs ++ dvs) H1 Q E
def tMeth (C : Addr) (m : Str) (sp : Sp) (dvs : List V) (E : XK) (ta : TE) (t : TA) : TE := fun σ H Q => ta σ H fun x H1 => ∃ a dx fs, x = .ref a ∧ H1 a = some (.ins C dx fs) ∧ fs.lookup m = none ∧
 t σ H1 fun vs H2 => sp (x :: (vs ++ dvs)) H2 Q E
def tMake (C : Addr) (sp : Sp) (dvs : List V) (E : XK) (t : TA) : TE := fun σ H Q => t σ H fun vs H1 => ∀ x dx, H1 x = none → H1 dx = none → dx ≠ x →
 sp (.ref x :: (vs ++ dvs)) (upd (upd H1 dx (.own x)) x (.ins C dx [])) (fun v H2 => v = .non ∧ Q (.ref x) H2) E
def Binds (K : PySem.W.Frag) (fd : FuncData) (ps : List Str) (ds : List Value) : Prop :=
 ∀ (s : Shared) (us : List Value), K.In s.heap → (us ++ ds).length = ps.length → BindsTo s fd ⟨us, []⟩ (ps.zip (us ++ ds))
theorem Binds.all {K : PySem.W.Frag} {fd : FuncData} {ps : List Str} (h : ∀ us : List Value, us.length = ps.length → bindArgs fd ⟨us, []⟩ = pure (ps.zip us)) : Binds K fd ps [] := fun s us _ hl => by
 rw [List.append_nil] at hl ⊢
 exact .of_eq (h us hl)
def Passes (CX : CXT) (X : Cx) (E : XK) : Prop := ∀ (pins : List (Addr × Obj)) (σ : St) (H : Hp) (s : Shared) (e : Value) (s' : Shared), Inv X pins σ H s → CX X.stack H s E e s' → X.xe e s'
section
variable {X : Cx} {CX : CXT} {k : Nat} {f C : Addr} {fd : FuncData} {ps : List Str} {sp : Sp} {dvs : List V} {ds : List Value} {E : XK} {x m : Str} {p pos apos : Pos} {e o : Expr} {es : List Expr} {ta : TE} {t : TA}
theorem pqL {pins : List (Addr × Obj)} {σ : St} {H : Hp} {s : Shared} {Q : VK} {us : List Value} {vs : List V} (F : FnOk X.prog X.w X.K X.mg X.base CX k f fd ps sp) (hr : Room k X.A) (hb : Binds X.K fd ps ds) (hd : Vals dvs ds) (hx : Passes CX X E)
  (I : Inv X pins σ H s) (r : Vals vs us) (h : sp (vs ++ dvs) H Q E) : wpAny (model X.prog X.w) X.A (call (.ref f) us) (EP X pins σ Q) X.xe s := by
 have r2 : Vals (vs ++ dvs) (us ++ ds) := r.append hd
 have hl : (us ++ ds).length = ps.length := by rw [← r2.length]; exact F.len _ _ _ _ h
 refine wpAny_call (codeAny_mono (F.run X.A X.stack s H ⟨us, []⟩ (us ++ ds) (vs ++ dvs) Q E hr I.env0 (hb s us I.kIn hl) r2 h) fun r s' hq => ?_)
 cases r with
 | error e => exact hx pins σ H s e s' I hq
 | ok fl =>
  cases fl with
  | ret u => exact I.after hq
  | next => exact False.elim hq
  | brk => exact False.elim hq
  | cont => exact False.elim hq
theorem bqr (F : FnOk X.prog X.w X.K X.mg X.base CX k f fd ps sp) (hr : Room k X.A) (hg : Gl X x) (hm : X.mg x = some (.ref f)) (hk : PySem.W.keepIn X.K (.ref f) = true) (hb : Binds X.K fd ps ds) (hd : Vals dvs ds) (hx : Passes CX X E)
  (ha : PA X (e :: es) t) (hdb : (x == ("__debug__" : Str)) = false := by decide) (he : starEach (e :: es) X.env = (false, eval e X.env) :: starEach es X.env := by rfl) (hpl : (backTo pos (starEach es X.env)).any (·.1) = false := by rfl) :
  PE X (.Call (.Name x p) (e :: es) [] pos) (tCall sp dvs E t) := by
 intro pins s σ H Q I h
 refine wpAny_Call_Name_kw (eqC I hg hm ?_ hdb)
 refine PySem.W.callWith_K (h₀ := X.base) I.ok.mod.kin hk (thn (ha pos pins s σ H _ I h) fun us s1 ⟨vs, H1, I1, r, q⟩ => ⟨I1.kIn, ?_⟩) he hpl
 exact pqL F hr hb hd hx I1 r q
theorem aq5 {pl : Sem Bool} (he : PE X o ta) (c : Cls X.K C) (hm : Meth X.K C m f) (F : FnOk X.prog X.w X.K X.mg X.base CX k f fd ps sp) (hr : Room k X.A) (hb : Binds X.K fd ps ds) (hd : Vals dvs ds) (hx : Passes CX X E) (ha : PA X (e :: es) t)
  (hst : starEach (e :: es) X.env = (false, eval e X.env) :: starEach es X.env := by rfl) (hpl : (backTo pos (starEach es X.env)).any (·.1) = false := by rfl)
  (ht : eval (.Call (.Attribute o m apos) (e :: es) [] pos) X.env = (do
   let ov ← eval o X.env
   standAt apos.atName
   let (f, first) ← holding [ov] (getMethod ov m pl)
   callWith pos f first (backTo pos (starEach (e :: es) X.env)) (backToKw pos (keywordEach [] X.env))) := by rfl) :
  PE X (.Call (.Attribute o m apos) (e :: es) [] pos) (tMeth C m sp dvs E ta t) := by
 intro pins s σ H Q I h
 refine PySem.W.methodCall_KW (pl := pl) (thn (he pins s σ H _ I h) fun u s1 W' => ?_) ht
 obtain ⟨x, H1, I1, rx, a, dx, fs, ex, ea, l, q⟩ := W'
 subst ex
 obtain rfl : u = Value.ref a := rx
 refine fqh I1 ea c hm l ?_
 refine PySem.W.callWith_K (first := [.ref a]) (h₀ := X.base) I.ok.mod.kin hm.kp (thn (ha pos pins s1 σ H1 _ I1 q) fun us s2 ⟨vs, H2, I2, r, q2⟩ => ⟨I2.kIn, ?_⟩) hst hpl
 exact pqL (us := .ref a :: us) (vs := .ref a :: vs) F hr hb hd hx I2 (.cons rfl r) q2
theorem dq3 {pl : Sem Bool} (he : PE X o ta) (c : Cls X.K C) (hm : Meth X.K C m f) (F : FnOk X.prog X.w X.K X.mg X.base CX k f fd ps sp) (hr : Room k X.A) (hb : Binds X.K fd ps ds) (hd : Vals dvs ds) (hx : Passes CX X E)
  (ht : eval (.Call (.Attribute o m apos) [] [] pos) X.env = (do
   let ov ← eval o X.env
   standAt apos.atName
   let (f, first) ← holding [ov] (getMethod ov m pl)
   callWith pos f first (backTo pos (starEach [] X.env)) (backToKw pos (keywordEach [] X.env))) := by rfl) :
  PE X (.Call (.Attribute o m apos) [] [] pos) (tMeth C m sp dvs E ta tNil) := by
 intro pins s σ H Q I h
 refine PySem.W.methodCall_KW (pl := pl) (thn (he pins s σ H _ I h) fun u s1 W' => ?_) ht
 obtain ⟨x, H1, I1, rx, a, dx, fs, ex, ea, l, q⟩ := W'
 subst ex
 obtain rfl : u = Value.ref a := rx
 refine fqh I1 ea c hm l ?_
 exact PySem.W.callWith_K0 (first := [.ref a]) I1.kIn hm.kp (pqL (us := [.ref a]) (vs := [.ref a]) F hr hb hd hx I1 (.cons rfl .nil) q)
structure Mk (K : PySem.W.Frag) (C f : Addr) : Prop where
 makes : PySem.W.makesIn K C = true
 init : PySem.W.findIn K (.ref C) "__init__" = some (some (.ref f))
 fn : PySem.W.isFn K (.ref f) = true
 kp : PySem.W.keepIn K (.ref C) = true
theorem qqw {pins : List (Addr × Obj)} {σ : St} {H : Hp} {s : Shared} {Q : VK} {us : List Value} {vs : List V} (M : Mk X.K C f) (F : FnOk X.prog X.w X.K X.mg X.base CX k f fd ps sp) (hr : Room (k + 1) X.A) (hb : Binds X.K fd ps ds) (hd : Vals dvs ds)
  (hx : Passes CX X E) (I : Inv X pins σ H s) (r : Vals vs us)
  (h : ∀ x dx, H x = none → H dx = none → dx ≠ x → sp (.ref x :: (vs ++ dvs)) (upd (upd H dx (.own x)) x (.ins C dx [])) (fun v H2 => v = .non ∧ Q (.ref x) H2) E) :
  wpAny (model X.prog X.w) X.A (call (.ref C) us) (EP X pins σ Q) X.xe s := by
 have hq := h (s.heap.objs.size + 1) s.heap.objs.size (I.hok.fresh (Nat.le_succ _)) (I.hok.fresh (Nat.le_refl _)) (Nat.ne_of_lt (Nat.lt_succ_self _))
 have I2 := Inv.made (C := C) I
 have r2 : Vals (V.ref (s.heap.objs.size + 1) :: (vs ++ dvs)) (Value.ref (s.heap.objs.size + 1) :: (us ++ ds)) := .cons rfl (r.append hd)
 have hl : (Value.ref (s.heap.objs.size + 1) :: us ++ ds).length = ps.length := by
  have e := r2.length
  rw [F.len _ _ _ _ hq] at e
  exact e.symm
 refine wpAny_call (mq5 (f := f) I.kIn M.makes M.init (beq_iff_eq.mp M.fn) (codeAny_mono (F.run _ X.stack _ _ ⟨Value.ref (s.heap.objs.size + 1) :: us, []⟩ (Value.ref (s.heap.objs.size + 1) :: (us ++ ds)) _ _ E (hr.make C us [])
  (I2.env0.make C us []) (hb _ (Value.ref (s.heap.objs.size + 1) :: us) I2.kIn hl) r2 hq) fun r s' hq' => ?_))
 cases r with
 | error e => exact hx pins σ _ _ e s' I2 hq'
 | ok fl =>
  cases fl with
  | ret u =>
   obtain ⟨v, H', I3, rv, ev, q3⟩ := I2.after hq'
   subst ev
   exact ⟨rv, ⟨V.ref (s.heap.objs.size + 1), H', I3, rfl, q3⟩⟩
  | next => exact False.elim hq'
  | brk => exact False.elim hq'
  | cont => exact False.elim hq'
theorem lqR (M : Mk X.K C f) (F : FnOk X.prog X.w X.K X.mg X.base CX k f fd ps sp) (hr : Room (k + 1) X.A) (hg : Gl X x) (hm : X.mg x = some (.ref C)) (hb : Binds X.K fd ps ds) (hd : Vals dvs ds) (hx : Passes CX X E)
  (ha : PA X (e :: es) t) (hdb : (x == ("__debug__" : Str)) = false := by decide) (he : starEach (e :: es) X.env = (false, eval e X.env) :: starEach es X.env := by rfl) (hpl : (backTo pos (starEach es X.env)).any (·.1) = false := by rfl) :
  PE X (.Call (.Name x p) (e :: es) [] pos) (tMake C sp dvs E t) := by
 intro pins s σ H Q I h
 refine wpAny_Call_Name_kw (eqC I hg hm ?_ hdb)
 refine PySem.W.callWith_K (h₀ := X.base) I.ok.mod.kin M.kp (thn (ha pos pins s σ H _ I h) fun us s1 ⟨vs, H1, I1, r, q⟩ => ⟨I1.kIn, ?_⟩) he hpl
 exact qqw M F hr hb hd hx I1 r q
end
section
variable {X : Cx} {CX : CXT} {k : Nat} {f C : Addr} {fd : FuncData} {ps ks : List Str} {sp : Sp} {E : XK} {x m : Str} {p pos apos kpos : Pos} {e o : Expr} {es : List Expr} {kws : List Keyword} {te ta : TE} {t tk : TA} {nm : Option Str}
structure KBinds (K : PySem.W.Frag) (fd : FuncData) (ps ks : List Str) (g : List Value → List Value → List Value) (gV : List V → List V → List V) : Prop where
 to : ∀ (s : Shared) (us ws : List Value), K.In s.heap → (g us ws).length = ps.length → BindsTo s fd ⟨us, ks.zip ws⟩ (ps.zip (g us ws))
 rel : ∀ {vs : List V} {us : List Value} {zs : List V} {ws : List Value}, Vals vs us → Vals zs ws → Vals (gV vs zs) (g us ws)
variable {g : List Value → List Value → List Value} {gV : List V → List V → List V}
end
structure FnScope (N P : List Str) (sc : Scope) : Prop where
 kind : sc.kind = .function
 co : sc.isCoroutine = false
 gen : sc.isGenerator = false
 nd : N.Nodup
 pre : N.take P.length = P
 par : ∀ x ∈ P, sc.names.lookup x = some .local ∨ sc.names.lookup x = some .cell
 nofree : ∀ y ∈ sc.names, y.2 ≠ .free
theorem lqG {kindOf : Str → Option NameKind} {x : Str} : ∀ {binds : List (Str × Value)} {m : Str → Option Value}, (∀ v, (x, v) ∉ binds) → bindL kindOf binds m x = m x
 | [], _, _ => rfl
 | (n, v) :: r, m, h => by
  unfold bindL
  rw [lqG fun w hw => h w (List.mem_cons_of_mem _ hw)]
  split
  ·have : x ≠ n := by rintro rfl; exact h v List.mem_cons_self
   simp [this]
  ·rfl
theorem kqY {kindOf : Str → Option NameKind} {x : Str} : ∀ {binds : List (Str × Value)} {m : Str → Option Value}, (∀ v, (x, v) ∉ binds) → bindC kindOf binds m x = m x
 | [], _, _ => rfl
 | (n, v) :: r, m, h => by
  unfold bindC
  rw [kqY fun w hw => h w (List.mem_cons_of_mem _ hw)]
  split
  ·rfl
  ·have : x ≠ n := by rintro rfl; exact h v List.mem_cons_self
   simp [this]
theorem kqE {kindOf : Str → Option NameKind} {x : Str} {v : Value} : ∀ {P : List Str} {vs : List Value} {i : Nat} {m : Str → Option Value}, P.Nodup → P[i]? = some x → vs[i]? = some v → kindOf x = some .local →
  bindL kindOf (P.zip vs) m x = some v
 | [], _, _, _, _, h, _, _ => by simp at h
 | _ :: _, [], _, _, _, _, h, _ => by simp at h
 | p :: P, w :: vs, 0, m, nd, h1, h2, hk => by
  simp at h1 h2; subst h1; subst h2
  show bindL kindOf ((p, w) :: P.zip vs) m p = _
  unfold bindL
  rw [lqG fun v hv => (List.nodup_cons.mp nd).1 (List.of_mem_zip hv).1, if_pos hk]
  simp
 | p :: P, w :: vs, i + 1, m, nd, h1, h2, hk => by
  show bindL kindOf ((p, w) :: P.zip vs) m x = _
  unfold bindL
  exact kqE (i := i) (List.nodup_cons.mp nd).2 (by simpa using h1) (by simpa using h2) hk
theorem lqd {kindOf : Str → Option NameKind} {x : Str} {v : Value} : ∀ {P : List Str} {vs : List Value} {i : Nat} {m : Str → Option Value}, P.Nodup → P[i]? = some x → vs[i]? = some v → kindOf x ≠ some .local →
  bindC kindOf (P.zip vs) m x = some v
 | [], _, _, _, _, h, _, _ => by simp at h
 | _ :: _, [], _, _, _, _, h, _ => by simp at h
 | p :: P, w :: vs, 0, m, nd, h1, h2, hk => by
  simp at h1 h2; subst h1; subst h2
  show bindC kindOf ((p, w) :: P.zip vs) m p = _
  unfold bindC
  rw [kqY fun v hv => (List.nodup_cons.mp nd).1 (List.of_mem_zip hv).1, if_neg hk]
  simp
 | p :: P, w :: vs, i + 1, m, nd, h1, h2, hk => by
  show bindC kindOf ((p, w) :: P.zip vs) m x = _
  unfold bindC
  exact lqd (i := i) (List.nodup_cons.mp nd).2 (by simpa using h1) (by simpa using h2) hk
def start (N : List Str) (vs : List V) : St := vs.map some ++ List.replicate (N.length - vs.length) none
def cxOf (CX : CXT) (P : Program) (w : World) (K : PySem.W.Frag) (mg : Str → Option Value) (base : Heap) (N : List Str) (qual : Str) (scope : Scope) (f : Addr) (cd : Value) (A : Around) (outer : List Env) (s : Shared) (H : Hp) (E : XK) : Cx where
 prog := P
 w := w
 K := K
 mg := mg
 base := base
 A := A.deeper (envOfC qual scope s.heap.objs.size f cd)
 N := N
 s₀ := s
 H₀ := H
 env := envOfC qual scope s.heap.objs.size f cd
 outer := outer
 stack := envOfC qual scope s.heap.objs.size f cd :: outer
 ex := []
 calm := true
 fn := fun _ => true
 pn := []
 xe := fun e s' => wpAny (model P w) (A.deeper (envOfC qual scope s.heap.objs.size f cd)) (leaving (envOfC qual scope s.heap.objs.size f cd) e) (fun _ s'' => CX outer H s E e s'') (fun e' s'' => CX outer H s E e' s'') s'
theorem mqW {sc : Scope} {n : Nat} {x : Str} (h : sc.names.lookup x = some .cell) : ∃ c, (cellsFrom n sc.names []).lookup x = some c := by
 have q := PySem.W.cellsFrom_some sc.names n [] (.inl h)
 exact Option.isSome_iff_exists.mp q
theorem oqd {CX : CXT} {P : Program} {w : World} {K : PySem.W.Frag} {mg : Str → Option Value} {base : Heap} {N ps : List Str} {qual : Str} {scope : Scope} {f : Addr} {cd : Value} {A : Around} {outer : List Env} {s s1 : Shared} {H : Hp} {E : XK} {us : List Value} {vs : List V}
  (S : FnScope N ps scope) (hd : A.handled = none) (e0 : Env0 P w K mg base A outer s H) (hl : vs.length = ps.length) (r : Vals vs us)
  (x : InCallC s s.heap.objs.size (bindL (envOfC qual scope s.heap.objs.size f cd).kindOf (ps.zip us) fun _ => none) (cellsFrom (s.heap.objs.size + 1) scope.names []) (bindC (envOfC qual scope s.heap.objs.size f cd).kindOf (ps.zip us) fun _ => none) s1) :
  Inv (cxOf CX P w K mg base N qual scope f cd A outer s H E) [] (start N vs) H s1 := by
 have hpl : ps.length ≤ N.length := by have := congrArg List.length S.pre; rw [List.length_take] at this; lia
 obtain ⟨h1, tk, rfl, hk⟩ := x.done
 have noA : ∀ b : Addr, b ∉ (cxOf CX P w K mg base N qual scope f cd A outer s H E).ex := fun b z => absurd (show b ∈ ([] : List Addr) from z) (by simp)
 refine ⟨⟨e0.mod, S.kind, rfl, rfl, Nat.le_refl _, fun y z c h1 h2 => ?_, fun y hy => ?_, fun y c _ h => ?_, fun _ => hd, Around.frames_deeper e0.frames, .inr ⟨rfl, rfl⟩, fun b z => absurd z (noA b), e0.bs, e0.bsz, fun b _ _ => noA b, fun b z => absurd z (noA b), e0.funs, e0.frf⟩,
  rfl, e0.bare, Un.kept hk, ⟨_, x.toInCall.ns, fun i y v h1 h2 h3 => ?_⟩, fun y c h => ⟨_, x.cell y c h⟩, e0.hok.fresh (Nat.le_refl _), fun y c h => ?_, fun p hp => absurd (show p ∈ ([] : List (Addr × Obj)) from hp) (by simp), e0.hok.kept hk, ?_⟩
 ·exact name_of_addr x.apart (PySem.mem_of_lookup h1) (PySem.mem_of_lookup h2)
 ·have hy : scope.names.lookup y = some .cell ∨ scope.names.lookup y = some .free := hy
  rcases hy with hy | hy
  ·exact mqW hy
  ·exact absurd rfl (S.nofree _ (PySem.mem_of_lookup hy))
 ·exact Nat.le_of_lt (x.above y c (PySem.mem_of_lookup h))
 ·have hi : i < vs.length := by
   unfold start at h2
   by_cases hi : i < vs.length
   ·exact hi
   ·rw [List.getElem?_append_right (by simpa using hi)] at h2
    rw [List.getElem?_replicate] at h2
    split at h2 <;> cases h2
  have ha : vs[i]? = some v := by
   unfold start at h2
   rw [List.getElem?_append_left (by simpa using hi), List.getElem?_map] at h2
   cases e : vs[i]? with
   | none => rw [e] at h2; cases h2
   | some a => rw [e] at h2; cases h2; rfl
  obtain ⟨u, hu, rv⟩ := r.get ha
  have hp : ps[i]? = some y := by
   rw [← S.pre, List.getElem?_take_of_lt (by lia)]; exact h1
  have ndP : ps.Nodup := by rw [← S.pre]; exact S.nd.sublist (List.take_sublist _ _)
  refine ⟨u, rv, ?_⟩
  rcases S.par y (List.mem_of_getElem? hp) with k | k
  ·exact .inl ⟨k, kqE ndP hp hu k⟩
  ·obtain ⟨c, e⟩ := mqW (n := s.heap.objs.size + 1) k
   refine .inr ⟨.inl k, c, e, ?_⟩
   have q := x.cell y c e
   rw [lqd ndP hp hu (by show scope.names.lookup y ≠ _; rw [k]; decide)] at q
   exact q
 ·exact e0.hok.fresh (Nat.le_of_lt (x.above y c (PySem.mem_of_lookup h)))
 ·unfold start
  show _ = N.length
  rw [List.length_append, List.length_map, List.length_replicate]
  lia
theorem tqt {CX : CXT} {P : Program} {w : World} {K : PySem.W.Frag} {mg : Str → Option Value} {base : Heap} {k : Nat} {f : Addr} {name qual : Str} {params : Arguments} {body : List Stmt} {scope : Scope} {dV kV doc pm cdv ct oc : Value} {an od : Option Addr}
  {osl : Array (Option Value)} {N ps : List Str} {sp : Sp} (lk : K.lookup f = some ⟨oc, od, .func (PySem.W.fnOf name qual params body scope dV kV doc pm an cdv ct), osl⟩) (hcd : PySem.W.codeIn K cdv qual = true) (S : FnScope N ps scope)
  (len : ∀ vs H Q E, sp vs H Q E → vs.length = ps.length)
  (hbody : ∀ (A : Around) (outer : List Env) (s : Shared) (H : Hp) (vs : List V) (Q : VK) (E : XK), Room k (A.deeper (envOfC qual scope s.heap.objs.size f cdv)) → sp vs H Q E →
   ∃ t, PSs (cxOf CX P w K mg base N qual scope f cdv A outer s H E) body t ∧ t { nx := fun _ H' => Q .non H', rt := Q } (start N vs) H) :
  FnOk P w K mg base CX (k + 1) f (PySem.W.fnOf name qual params body scope dV kV doc pm an cdv ct) ps sp := by
 refine ⟨len, fun A outer s H args us vs Q E hr e0 hb r hsp => ?_⟩
 have hl := len _ _ _ _ hsp
 have KX : K.In s.heap := e0.mod.kin.keeps fun b o e => (e0.bs b o e).1
 have lim : s.heap.NoLimit := e0.mod.nolimit.keeps fun b o e => (e0.bs b o e).1
 have hkind : ∀ y ∈ ps.zip us, scope.names.lookup y.1 = some .local ∨ (scope.names.lookup y.1 = some .cell ∧ ((cellsFrom (s.heap.objs.size + 1) scope.names []).lookup y.1).isSome = true) := fun ⟨n, v⟩ hy => by
  rcases S.par n (List.of_mem_zip hy).1 with q | q
  ·exact .inl q
  ·exact .inr ⟨q, PySem.W.cellsFrom_some _ _ _ (.inl q)⟩
 refine codeAny_call_function hr.depth (KX _ _ lk) rfl S.co S.gen rfl (PySem.W.codeRec_of KX hcd) (hb _ _ _ _ ?_)
 refine wpAny_newFunctionEnv_cells S.kind hkind fun env he s1 x => ?_
 subst he
 refine ⟨lim.keeps x.toInCall.keep, codeAny_func ?_⟩
 obtain ⟨t, ht, hq⟩ := hbody A outer s H vs Q E (hr.deeper _) hsp
 have I : Inv (cxOf CX P w K mg base N qual scope f cdv A outer s H E) [] (start N vs) H s1 := oqd S hr.hd e0 hl r x
 refine wpAny_mono (ht [] s1 (start N vs) H _ I hq) (fun fl s' hs => ?_) fun e s' hs => hs
 have fin : ∀ {σ' : St} {H' : Hp} {v : V} {u : Value}, Inv (cxOf CX P w K mg base N qual scope f cdv A outer s H E) [] σ' H' s' → RelV v u → Q v H' → CE outer P w H s Q u s' :=
  fun {σ' H' v u} J rv q => ⟨v, H', J.os, J.bare, J.base, J.hok, rv, q⟩
 cases fl with
 | ret u =>
  obtain ⟨v, σ', H', J, rv, q⟩ := hs
  exact fin J rv q
 | next =>
  obtain ⟨σ', H', J, q⟩ := hs
  exact fin (v := V.non) (u := Value.none) J rfl q
 | brk =>
  obtain ⟨_, _, _, q⟩ := hs
  exact False.elim q
 | cont =>
  obtain ⟨_, _, _, q⟩ := hs
  exact False.elim q
section
variable {X : Cx} {x : Str} {p pos : Pos} {e : Expr} {es : List Expr} {t : TA} {id T : String} {r : List V → Hp → VK → Prop}
def tCB (r : List V → Hp → VK → Prop) (t : TA) : TE := fun σ H Q => t σ H fun vs H1 => r vs H1 Q
theorem aqz (hc : CallR X (.builtin id) r) (hg : Gl X x) (hm : X.mg x = none) (hv : bootBuiltins x = some (.builtin id)) (ha : PA X (e :: es) t) (hn : x ≠ "__name__" := by decide) (hdb : (x == ("__debug__" : Str)) = false := by decide)
  (he : starEach (e :: es) X.env = (false, eval e X.env) :: starEach es X.env := by rfl) (hpl : (backTo pos (starEach es X.env)).any (·.1) = false := by rfl) : PE X (.Call (.Name x p) (e :: es) [] pos) (tCB r t) := by
 intro pins s σ H Q I h
 refine wpAny_Call_Name_kw (mqQ I hg hm hv ?_ hn hdb)
 exact PyProof.Rows.callWith_builtin1 (thn (ha pos pins s σ H _ I h) fun us s1 ⟨vs, H1, I1, r1, q1⟩ => hc pins s1 σ H1 vs us Q I1 r1 q1) he hpl
theorem cqg (hc : CallR X (.type T) r) (hg : Gl X x) (hm : X.mg x = none) (hv : bootBuiltins x = some (.type T)) (ha : PA X (e :: es) t) (hn : x ≠ "__name__" := by decide) (hdb : (x == ("__debug__" : Str)) = false := by decide)
  (he : starEach (e :: es) X.env = (false, eval e X.env) :: starEach es X.env := by rfl) (hpl : (backTo pos (starEach es X.env)).any (·.1) = false := by rfl) : PE X (.Call (.Name x p) (e :: es) [] pos) (tCB r t) := by
 intro pins s σ H Q I h
 refine wpAny_Call_Name_kw (mqQ I hg hm hv ?_ hn hdb)
 exact PyProof.Rows.callWith_type1 (thn (ha pos pins s σ H _ I h) fun us s1 ⟨vs, H1, I1, r1, q1⟩ => hc pins s1 σ H1 vs us Q I1 r1 q1) he hpl
end
end L2
namespace HT
open PySem PyProof.Rows
section
open PySem.SeqAt
open PySem.AutoSeq1 (wpAny_loadPart')
open PySem.MeetsSeq PySem.MeetsSeq2 PySem.MeetsSeq3
end
section
variable {prog : Program} {w : World} {A : Around} {E : Value → Shared → Prop} {s : Shared}
theorem cat_tup {t b : Addr} {vs ws : List Value} {Q : Value → Shared → Prop} (ht : IsTup s.heap t vs.toArray) (hb : IsTup s.heap b ws.toArray) (hv : vs ≠ [])
  (h1 : ws = [] → Q (.ref t) s) (h2 : ws ≠ [] → Q (.ref s.heap.objs.size) { s with heap := s.heap.push { cls := .type "tuple", data := .seq (vs ++ ws).toArray } })
  (hsz : vs.length + ws.length ≤ sizeLine) : wpAny (model prog w) A (binaryOp .Add (.ref t) (.ref b)) Q E s := by
 obtain ⟨⟨cls, dd, data, sl⟩, ho, hc, n, hd⟩ := id ht
 obtain ⟨⟨cls2, dd2, data2, sl2⟩, ho2, hc2, n2, hd2⟩ := id hb
 simp only at hc hd hc2 hd2
 subst hc hd hc2 hd2
 have e : vs.toArray ++ ws.toArray = (vs ++ ws).toArray := by simp
 by_cases hw : ws = []
 ·exact concat_meets ⟨_, ho, rfl⟩ ⟨_, ho2, rfl⟩ noFill_tuple_add seq_tuple_add PySem.F.slot_tuple_add PySem.F.entry_tuple_add (PySem.F.args_tuple_add_2 _ _)
   (tuple_addW1 t b vs.toArray ws.toArray n n2 dd dd2 sl sl2 (by simpa using hv) (by simp [hw])) ⟨ho, ho2, h1 hw⟩
 ·refine concat_meets ⟨_, ho, rfl⟩ ⟨_, ho2, rfl⟩ noFill_tuple_add seq_tuple_add PySem.F.slot_tuple_add PySem.F.entry_tuple_add (PySem.F.args_tuple_add_2 _ _)
   (tuple_addW2 t b vs.toArray ws.toArray n n2 dd dd2 sl sl2 (by simpa using hv) (by simpa using hw) (by rw [List.size_toArray, List.size_toArray]; exact hsz)) ⟨ho, ho2, ?_⟩
  rw [e]
  exact h2 hw
def sIx (n d : Nat) : Option Int → Nat
 | none => d
 | some v => if v < 0 then (v + (n : Int)).toNat else min v.toNat n
theorem uqb (n d : Nat) (hd : d ≤ n) (o : Option Int) : sIx n d o ≤ n := by
 cases o with
 | none => exact hd
 | some v =>
  show (if v < 0 then (v + (n : Int)).toNat else min v.toNat n) ≤ n
  by_cases hv : v < 0
  ·rw [if_pos hv]; lia
  ·rw [if_neg hv]; exact Nat.min_le_right _ _
theorem pqC (v : Int) (n d : Nat) : (if v < 0 then max (v + (n : Int)) 0 else min v (n : Int)) = ((sIx n d (some v) : Nat) : Int) := by
 show (if v < 0 then max (v + (n : Int)) 0 else min v (n : Int)) = (((if v < 0 then (v + (n : Int)).toNat else min v.toNat n) : Nat) : Int)
 by_cases hv : v < 0
 ·simp only [if_pos hv]; lia
 ·simp only [if_neg hv]; lia
theorem nqR (lo hi : Option Int) (n : Nat) : Builtin.Slice.sliceAdjust lo hi 1 (n : Int) = (((sIx n 0 lo : Nat) : Int), ((sIx n n hi : Nat) : Int)) := by
 have h1 : ¬ ((1 : Int) < 0) := by lia
 unfold Builtin.Slice.sliceAdjust
 simp only [h1, if_false]
 refine Prod.ext ?_ ?_
 ·cases lo with
  | none => rfl
  | some v => exact pqC v n 0
 ·cases hi with
  | none => rfl
  | some v => exact pqC v n n
theorem nqW (i j : Nat) : Builtin.Slice.slicePlaces (i : Int) (j : Int) 1 = j - i := by
 unfold Builtin.Slice.slicePlaces
 have h1 : (1 : Int) > 0 := by lia
 simp only [h1, if_true, Int.ediv_one]
 split <;> lia
theorem jqF {v : Value} {o : Option Int} {Q : Option Int → Shared → Prop} (p : IsPart v o) (h : Q o s) : wpAny (model prog w) A (Builtin.Slice.slicePartIndex v) Q E s := by
 cases p with
 | none => exact slicePart_none h
 | int i t => exact slicePart_int h
theorem eqr {sl : Addr} {vl vu : Value} {lo hi : Option Int} {n : Nat} {Q : Int × Int × Nat → Shared → Prop} (hs : s.heap.IsSliceOf sl vl vu .none) (pl : IsPart vl lo) (pu : IsPart vu hi)
  (h : Q (((sIx n 0 lo : Nat) : Int), 1, sIx n n hi - sIx n 0 lo) s) : wpAny (model prog w) A (Builtin.Slice.sliceApplied (.ref sl) (pure (n : Int))) Q E s := by
 obtain ⟨os, hos, hcs, hds⟩ := id hs
 unfold Builtin.Slice.sliceApplied Builtin.Slice.sliceFields
 refine wpAny_bind (wpAny_bind (wpAny_field hos hds (x := vl) rfl (wpAny_bind (wpAny_field hos hds (x := vu) rfl (wpAny_bind (wpAny_field hos hds (x := .none) rfl (wpAny_pure ?_)))))))
 refine wpAny_bind (slicePart_none ?_)
 show wpAny _ _ (if ((1 : Int) == 0) = true then _ else _) _ _ s
 rw [if_neg (by decide)]
 refine wpAny_bind (jqF pl (wpAny_bind (jqF pu (wpAny_bind (wpAny_pure ?_)))))
 show wpAny _ _ (match Builtin.Slice.sliceAdjust lo hi 1 (n : Int) with | (lo, hi) => pure (lo, (1 : Int), Builtin.Slice.slicePlaces lo hi 1)) _ _ s
 rw [nqR lo hi n]
 show wpAny _ _ (pure (((sIx n 0 lo : Nat) : Int), (1 : Int), Builtin.Slice.slicePlaces ((sIx n 0 lo : Nat) : Int) ((sIx n n hi : Nat) : Int) 1)) _ _ s
 rw [nqW]
 exact wpAny_pure h
theorem pq6 (xs : Array Value) (i k : Nat) : ((List.range k).filterMap fun (m : Nat) => xs[((i : Int) + (m : Int) * 1).toNat]?).toArray = ((xs.toList.drop i).take k).toArray := by
 have e : (fun (m : Nat) => xs[((i : Int) + (m : Int) * 1).toNat]?) = fun m => xs[i + m]? := by
  funext m
  have : ((i : Int) + (m : Int) * 1).toNat = i + m := by lia
  rw [this]
 rw [e]
 have := pick_run xs i k
 rw [List.filterMap_map] at this
 have e2 : ((fun x => xs[x]?) ∘ fun x => i + x) = fun m => xs[i + m]? := rfl
 rw [e2] at this
 rw [this]
theorem getItem_tuple_cut {t sl : Addr} {items : Array Value} {vl vu : Value} {lo hi : Option Int} {Q : Value → Shared → Prop} (ht : IsTup s.heap t items) (hs : s.heap.IsSliceOf sl vl vu .none) (pl : IsPart vl lo) (pu : IsPart vu hi)
  (hw : ¬ (sIx items.size 0 lo = 0 ∧ sIx items.size items.size hi = items.size))
  (h : Q (.ref s.heap.objs.size) { s with heap := s.heap.push { cls := .type "tuple", data := .seq ((items.toList.drop (sIx items.size 0 lo)).take (sIx items.size items.size hi - sIx items.size 0 lo)).toArray } })
  (hsz : items.size ≤ sizeLine) : wpAny (model prog w) A (getItem (.ref t) (.ref sl)) Q E s := by
 have htake : sizeOk (.seq ((items.toList.drop (sIx items.size 0 lo)).take (sIx items.size items.size hi - sIx items.size 0 lo)).toArray) := by
  show ((items.toList.drop (sIx items.size 0 lo)).take (sIx items.size items.size hi - sIx items.size 0 lo)).toArray.size ≤ sizeLine
  rw [List.size_toArray, List.length_take, List.length_drop, Array.length_toList]
  lia
 have hj : sIx items.size items.size hi ≤ items.size := uqb _ _ (Nat.le_refl _) hi
 obtain ⟨os, hos, hcs, hds⟩ := id hs
 have hTs : s.TypeIs (.ref sl) "slice" := ⟨os, hos, hcs⟩
 unfold getItem
 try with_reducible refine wpAny_holding ?_
 first | refine wpAny_bind (wpAny_pure ?_) | skip
 refine wpAny_bind (wpAny_sequenceKey ht.typeIs (by decide) ?_)
 refine wpAny_bind (wpAny_callSpecial?_slot (name := Str.ofString "__getitem__") ht.typeIs PyProof.Rows.slot_tuple_getitem
  (wpAny_call_entry PyProof.Rows.slot_tuple_getitem ht.typeIs entry_tuple_getitem ?_ (args_tuple_getitem _ _)))
 show wpAny _ _ (Builtin.Tuple.tupleItemsOf (.ref t) >>= _) _ _ s
 refine wpAny_bind (tupleItemsOf_ ht ?_)
 refine wpAny_bind (wpAny_typeOf hTs ?_)
 rw [if_pos (by decide)]
 refine wpAny_bind (eqr hs pl pu ?_)
 have hno : ¬ ((((sIx items.size 0 lo : Nat) : Int) == 0 && (1 : Int) == 1 && (sIx items.size items.size hi - sIx items.size 0 lo) == items.size) = true) := by
  intro q
  rw [Bool.and_eq_true, Bool.and_eq_true] at q
  have q1 : ((sIx items.size 0 lo : Nat) : Int) = 0 := eq_of_beq q.1.1
  have q2 : sIx items.size items.size hi - sIx items.size 0 lo = items.size := eq_of_beq q.2
  exact hw ⟨by lia, by lia⟩
 show wpAny _ _ (if (((sIx items.size 0 lo : Nat) : Int) == 0 && (1 : Int) == 1 && (sIx items.size items.size hi - sIx items.size 0 lo) == items.size) = true then _ else _) _ _ s
 rw [if_neg hno, pq6]
 first
  | exact wpAny_bind (m := Builtin.Tuple.tupleExact _) (wpAny_newObj_type (wpAny_pure ⟨_, rfl, wpAny_pure h⟩) htake)
  | exact wpAny_bind (m := Builtin.Tuple.tupleExact _) (wpAny_newObj_type (wpAny_bind (wpAny_pure (wpAny_pure ⟨_, rfl, wpAny_pure h⟩))) htake)
  | exact wpAny_bind (wpAny_bind (m := Builtin.Tuple.tupleExact _) (wpAny_newObj_type (wpAny_pure (wpAny_pure ⟨_, rfl, wpAny_pure h⟩)) htake))
  | exact wpAny_bind (wpAny_bind (m := Builtin.Tuple.tupleExact _) (wpAny_newObj_type (wpAny_pure ⟨_, rfl, wpAny_pure h⟩) htake))
end
end HT
namespace L2
open PySem PySem.Spec PyProof.Rows
abbrev TO := St → Hp → (Option Int → Hp → Prop) → Prop
def PO (X : Cx) (e : Option Expr) (t : TO) : Prop :=
 ∀ (pins : List (Addr × Obj)) (s : Shared) (σ : St) (H : Hp) (Q : Option Int → Hp → Prop), Inv X pins σ H s → t σ H Q →
  wpAny (model X.prog X.w) X.A (evalPart e X.env) (fun u s' => ∃ o H', Inv X pins σ H' s' ∧ IsPart u o ∧ Q o H') X.xe s
def tNoPart : TO := fun _ H Q => Q none H
def tPart (t : TE) : TO := fun σ H Q => t σ H fun x H1 => ∃ i, x = .int i ∧ Q (some i) H1
section
variable {X : Cx} {e : Expr} {te : TE} {lo hi : Option Expr} {tl th : TO} {pos p2 : Pos}
theorem dqz : PO X none tNoPart := by
 intro pins s σ H Q I h
 rw [evalPart_none]
 exact wpAny_pure ⟨none, H, I, .none, h⟩
theorem cqQ (h : PE X e te) : PO X (some e) (tPart te) := by
 intro pins s σ H Q I hw
 rw [evalPart_some]
 refine thn (h pins s σ H _ I hw) fun u s1 W' => ?_
 obtain ⟨x, H1, I1, r1, q1⟩ := W'
 obtain ⟨i, rfl, q⟩ := q1
 obtain ⟨t, rfl⟩ := r1
 exact ⟨some i, H1, I1, .int i t, q⟩
def SlR (X : Cx) (r : V → Option Int → Option Int → Hp → VK → Prop) : Prop :=
 ∀ (pins : List (Addr × Obj)) (s : Shared) (σ : St) (H : Hp) (x : V) (v vl vu : Value) (lo hi : Option Int) (sl : Addr) (Q : VK), Inv X pins σ H s → RelV x v → s.heap.IsSliceOf sl vl vu .none → IsPart vl lo → IsPart vu hi → r x lo hi H Q →
  ∃ T id, typeLookup (.type T) "__getitem__" = pure (some (.builtin id)) ∧ s.TypeIs v T ∧ wpAny (model X.prog X.w) X.A (getItem v (.ref sl)) (EP X pins σ Q) X.xe s
theorem SlR.or {r r' : V → Option Int → Option Int → Hp → VK → Prop} (h : SlR X r) (h' : SlR X r') : SlR X (fun x lo hi H Q => r x lo hi H Q ∨ r' x lo hi H Q) := by
 intro pins s σ H x v vl vu lo hi sl Q I rx hs pl pu q
 rcases q with q | q
 ·exact h pins s σ H x v vl vu lo hi sl Q I rx hs pl pu q
 ·exact h' pins s σ H x v vl vu lo hi sl Q I rx hs pl pu q
def tSl (r : V → Option Int → Option Int → Hp → VK → Prop) (te : TE) (tl th : TO) : TE := fun σ H Q => te σ H fun x H1 => tl σ H1 fun l H2 => th σ H2 fun u H3 => r x l u H3 Q
theorem cqh {r : V → Option Int → Option Int → Hp → VK → Prop} (hr : SlR X r) (he : PE X e te) (hl : PO X lo tl) (hu : PO X hi th) : PE X (.Subscript e (.Slice lo hi none p2) pos) (tSl r te tl th) := by
 intro pins s σ H Q I h
 refine Subscript_ (thn (he pins s σ H _ I h) fun v s1 W' => ?_)
 obtain ⟨x, H1, I1, r1, q1⟩ := W'
 refine wpAny_Slice (thn (hl pins s1 σ H1 _ I1 q1) fun vl s2 ⟨l, H2, I2, pl, q2⟩ => thn (hu pins s2 σ H2 _ I2 q2) fun vu s3 W' => ?_)
 obtain ⟨u, H3, I3, pu, q3⟩ := W'
 rw [evalPart_none]
 refine wpAny_pure ?_
 have I4 : Inv X pins σ H3 { s3 with heap := s3.heap.push { cls := .type "slice", data := .fields #[vl, vu, .none] } } := I3.kept (t' := s3.toks) fun b ob q => Heap.get?_push_of_some _ q
 obtain ⟨T, id, hT, ht, hg⟩ := hr pins { s3 with heap := s3.heap.push { cls := .type "slice", data := .fields #[vl, vu, .none] } } σ H3 x v vl vu l u s3.heap.objs.size Q I4 r1 (Heap.IsSliceOf.new ..) pl pu q3
 show wpAny (model X.prog X.w) X.A (subscriptTail e (.Slice lo hi none p2) v (.ref s3.heap.objs.size)) (EP X pins σ Q) X.xe { s3 with heap := s3.heap.push { cls := .type "slice", data := .fields #[vl, vu, .none] } }
 exact tail_any (ops := [.ref s3.heap.objs.size, v]) ht hT hg (by with_unfolding_all rfl)
def cutV (xs : List V) (lo hi : Option Int) : List V := (xs.drop (HT.sIx xs.length 0 lo)).take (HT.sIx xs.length xs.length hi - HT.sIx xs.length 0 lo)
theorem iqR (xs : List V) (lo hi : Option Int) : (cutV xs lo hi).length ≤ xs.length := by
 unfold cutV
 rw [List.length_take, List.length_drop]
 lia
def rSlT (K : PySem.W.Frag) : V → Option Int → Option Int → Hp → VK → Prop := fun x lo hi H Q => ∃ a xs, x = .ref a ∧ SqT K H a xs ∧
 ¬ (HT.sIx xs.length 0 lo = 0 ∧ HT.sIx xs.length xs.length hi = xs.length) ∧ ∀ p, H p = none → Q (.ref p) (upd H p (.tup (cutV xs lo hi)))
theorem tqT : SlR X (rSlT X.K) := by
 intro pins s σ H x v vl vu lo hi sl Q I rx hs pl pu h
 obtain ⟨a, xs, rfl, hx, hw, q⟩ := h
 cases rx
 obtain ⟨its, r, ht, hz⟩ := I.tuple hx
 have hlen : its.toArray.size = xs.length := by rw [List.size_toArray]; exact r.length.symm
 refine ⟨"tuple", _, PyProof.Rows.slot_tuple_getitem.lookup, ht.typeIs, ?_⟩
 refine HT.getItem_tuple_cut ht hs pl pu (by rw [hlen]; exact hw) ?_ (by rw [hlen]; exact hz)
 rw [hlen]
 refine ⟨.ref s.heap.objs.size, _, I.laid (t' := s.toks) (o := .tup (cutV xs lo hi)) (fun b ob q => Heap.get?_push_of_some _ q) (Nat.le_refl _) ?_, rfl, q _ (I.hok.fresh (Nat.le_refl _))⟩
 exact ⟨Nat.le_trans (iqR xs lo hi) hz, _, (r.drop (HT.sIx xs.length 0 lo)).take (HT.sIx xs.length xs.length hi - HT.sIx xs.length 0 lo), IsTup.new _ _⟩
def rCatT (K : PySem.W.Frag) : R2 := fun x y H Q => ∃ a b xs ys, x = .ref a ∧ y = .ref b ∧ SqT K H a xs ∧ SqT K H b ys ∧ xs ≠ [] ∧ xs.length + ys.length ≤ sizeLine ∧
 (ys = [] → Q (.ref a) H) ∧ (ys ≠ [] → ∀ p, H p = none → Q (.ref p) (upd H p (.tup (xs ++ ys))))
theorem Vals.nil_iff {xs : List V} {us : List Value} (r : Vals xs us) : us = [] ↔ xs = [] := by
 cases r with
 | nil => simp
 | cons _ _ => simp
theorem pqM : OpR X (binaryOp .Add) (rCatT X.K) := by
 intro pins s σ H x y v u Q I rx ry h
 obtain ⟨a, b, xs, ys, rfl, rfl, ha, hb, hx, hz, q1, q2⟩ := h
 cases rx
 cases ry
 obtain ⟨its, r1, p1, _⟩ := I.tuple ha
 obtain ⟨its2, r2, p2, _⟩ := I.tuple hb
 refine HT.cat_tup p1 p2 (fun z => hx (r1.nil_iff.mp z)) (fun z => ⟨.ref a, H, I, rfl, q1 (r2.nil_iff.mp z)⟩) (fun z => ?_) (by rw [← r1.length, ← r2.length]; exact hz)
 refine ⟨.ref s.heap.objs.size, _, I.laid (t' := s.toks) (o := .tup (xs ++ ys)) (fun b ob q => Heap.get?_push_of_some _ q) (Nat.le_refl _) ?_, rfl, q2 (fun w => z (r2.nil_iff.mpr w)) _ (I.hok.fresh (Nat.le_refl _))⟩
 exact ⟨by rw [List.length_append]; exact hz, _, r1.append r2, IsTup.new _ _⟩
end
def ixN (n : Nat) (i : Int) : Option Nat := if 0 ≤ i then (if i < n then some i.toNat else none) else if -(n : Int) ≤ i then some (i + n).toNat else none
def atI {α : Type} (xs : List α) (i : Int) : Option α := (ixN xs.length i).bind fun j => xs[j]?
theorem sqW {n : Nat} {i : Int} {j : Nat} (h : ixN n i = some j) : seqIndex? i n = some j ∧ j < n ∧ -(n : Int) ≤ i ∧ i < n := by
 unfold ixN at h
 by_cases h0 : 0 ≤ i
 ·rw [if_pos h0] at h
  by_cases h1 : i < n
  ·rw [if_pos h1] at h
   have e : i.toNat = j := Option.some.inj h
   exact ⟨by rw [seqIndex_of h0 h1, e], by lia, by lia, h1⟩
  ·rw [if_neg h1] at h; cases h
 ·rw [if_neg h0] at h
  by_cases h1 : -(n : Int) ≤ i
  ·rw [if_pos h1] at h
   have e : (i + n).toNat = j := Option.some.inj h
   exact ⟨by rw [seqIndex_neg (by lia) h1, e], by lia, h1, by lia⟩
  ·rw [if_neg h1] at h; cases h
theorem mqg {α : Type} {xs : List α} {i : Int} {v : α} (h : atI xs i = some v) : ∃ j, seqIndex? i xs.length = some j ∧ xs[j]? = some v ∧ j < xs.length ∧ -(xs.length : Int) ≤ i ∧ i < xs.length := by
 unfold atI at h
 cases e : ixN xs.length i with
 | none => rw [e] at h; cases h
 | some j =>
  rw [e] at h
  obtain ⟨h1, h2, h3, h4⟩ := sqW e
  exact ⟨j, h1, h, h2, h3, h4⟩
theorem aqH {α : Type} {xs : List α} {j : Nat} {v : α} (h : xs[j]? = some v) : atI xs (j : Int) = some v := by
 have hj : j < xs.length := (List.getElem?_eq_some_iff.mp h).1
 have e : ixN xs.length (j : Int) = some j := by
  unfold ixN
  rw [if_pos (by lia), if_pos (by lia)]; simp
 unfold atI; rw [e]; exact h
def PlainIx (b : Expr) : Prop := ∀ o i, subscripted b false o i = operate [o, i] (getItem o i)
def IxR (X : Cx) (r : R2) : Prop :=
 ∀ (value slice : Expr) (pins : List (Addr × Obj)) (s : Shared) (σ : St) (H : Hp) (x y : V) (v u : Value) (Q : VK), Inv X pins σ H s → RelV x v → RelV y u → r x y H Q →
  subscripted slice false v u = operate [v, u] (getItem v u) → wpAny (model X.prog X.w) X.A (subscriptTail value slice v u) (EP X pins σ Q) X.xe s
def MtR (X : Cx) (id : String) (r : V → List V → Hp → VK → Prop) : Prop :=
 ∀ (pins : List (Addr × Obj)) (s : Shared) (σ : St) (H : Hp) (x : V) (xs : List V) (v : Value) (us : List Value) (Q : VK), Inv X pins σ H s → RelV x v → Vals xs us → r x xs H Q →
  wpAny (model X.prog X.w) X.A (call (.builtin id) (v :: us)) (EP X pins σ Q) X.xe s
section
variable {X : Cx} {a b : Expr} {ta tb : TE} {pos : Pos}
theorem IxR.or {r r' : R2} (h : IxR X r) (h' : IxR X r') : IxR X (fun x y H Q => r x y H Q ∨ r' x y H Q) := by
 intro value slice pins s σ H x y v u Q I rx ry q hs
 rcases q with q | q
 ·exact h value slice pins s σ H x y v u Q I rx ry q hs
 ·exact h' value slice pins s σ H x y v u Q I rx ry q hs
theorem aqD {r : R2} (hr : IxR X r) (ha : PE X a ta) (hb : PE X b tb) (hs : PlainIx b) : PE X (.Subscript a b pos) (tOp r ta tb) := by
 intro pins s σ H Q I h
 exact Subscript_ (binT ha hb I h fun v u s2 x y H2 I2 rx ry q => hr a b pins s2 σ H2 x y v u Q I2 rx ry q (hs _ _))
def rIxL (K : PySem.W.Frag) : R2 := fun x y H Q => ∃ p xs i v, x = .ref p ∧ y = .int i ∧ SqL K H p xs ∧ atI xs i = some v ∧ Q v H
def rIxT (K : PySem.W.Frag) : R2 := fun x y H Q => ∃ p xs i v, x = .ref p ∧ y = .int i ∧ SqT K H p xs ∧ atI xs i = some v ∧ Q v H
def rIxS : R2 := fun x y H Q => ∃ z i c, x = .str z ∧ y = .int i ∧ z.length ≤ sizeLine ∧ atI z.cps.toList i = some c ∧ Q (.str ⟨#[c]⟩) H
theorem rqS : IxR X (rIxL X.K) := by
 intro value slice pins s σ H x y v u Q I rx ry h hs
 obtain ⟨p, xs, i, z, rfl, rfl, hq, he, q⟩ := h
 cases rx
 obtain ⟨t, rfl⟩ := ry
 obtain ⟨its, r, pl, hz⟩ := I.list hq
 obtain ⟨j, h1, h2, h3, h4, h5⟩ := mqg he
 obtain ⟨w, ew, rw'⟩ := r.get h2
 have hl := r.length
 have hn := line63
 have fin : EP X pins σ Q w s := ⟨z, H, I, rw', q⟩
 by_cases h0 : 0 ≤ i
 ·have hj : i.toNat = j := by
   rw [seqIndex_of h0 h5] at h1
   exact Option.some.inj h1
  exact item_listR pl.isList h0 (by lia) (by rw [hj]; simpa using ew) fin hs
 ·have hj : (i + (its.toArray.size : Int)).toNat = j := by
   rw [seqIndex_neg (by lia) h4] at h1
   rw [List.size_toArray, ← hl]
   exact Option.some.inj h1
  exact subscriptTail_builtinR (x := w) pl.isList.typeIs slot_list_getitem.lookup
   (wpAny_getItem_list_neg (Q := fun r s' => r = w ∧ EP X pins σ Q r s') pl.isList (by lia) (by rw [List.size_toArray] <;> lia) (by lia) (by rw [hj]; simpa using ew) ⟨rfl, fin⟩) hs
theorem vqc : IxR X (rIxT X.K) := by
 intro value slice pins s σ H x y v u Q I rx ry h hs
 obtain ⟨p, xs, i, z, rfl, rfl, hq, he, q⟩ := h
 cases rx
 obtain ⟨t, rfl⟩ := ry
 obtain ⟨its, r, pl, hz⟩ := I.tuple hq
 obtain ⟨j, h1, h2, h3, h4, h5⟩ := mqg he
 obtain ⟨w, ew, rw'⟩ := r.get h2
 have hl := r.length
 have hn := line63
 have fin : EP X pins σ Q w s := ⟨z, H, I, rw', q⟩
 exact subscriptTail_builtinR (x := w) pl.typeIs slot_tuple_getitem.lookup
  (getItem_tuple (j := j) (Q := fun r s' => r = w ∧ EP X pins σ Q r s') pl (by lia) (by lia) (by rw [List.size_toArray, ← hl]; exact h1) (by simpa using ew) ⟨rfl, fin⟩) hs
theorem uqQ : IxR X rIxS := by
 intro value slice pins s σ H x y v u Q I rx ry h hs
 obtain ⟨z, i, c, rfl, rfl, hz, he, q⟩ := h
 obtain ⟨t, rfl⟩ := rx
 obtain ⟨t', rfl⟩ := ry
 obtain ⟨j, h1, h2, h3, h4, h5⟩ := mqg he
 have hl : z.cps.toList.length = z.length := by simp [Str.length]
 rw [hl] at h1 h4 h5
 have hn := line63
 exact tail_any (typeIs_str s z t) slot_str_getitem.lookup (getItem_str (c := c) (by
  have e1 : decide (i < -(2 ^ 63 : Int)) = false := decide_eq_false (by lia)
  have e2 : decide (i ≥ 2 ^ 63) = false := decide_eq_false (by lia)
  rw [e1, e2, Bool.or_false]) (by rw [h1]; simpa using h2) ⟨.str ⟨#[c]⟩, H, I.tok _, ⟨_, rfl⟩, q⟩) hs
def rIx (K : PySem.W.Frag) : R2 := fun x y H Q => rIxL K x y H Q ∨ rIxT K x y H Q ∨ rIxS x y H Q
theorem vqe : IxR X (rIx X.K) := rqS.or (vqc.or uqQ)
def rSetL : V → V → V → Hp → (Hp → Prop) → Prop := fun o i v H Q => ∃ p xs k j, o = .ref p ∧ i = .int k ∧ H p = some (.lst xs) ∧ ixN xs.length k = some j ∧ Q (upd H p (.lst (xs.set j v)))
theorem lqs (lo hi : Option Int) (n : Nat) : (sliceBounds lo hi none n).1 = ((HT.sIx n 0 lo : Nat) : Int) ∧ (sliceBounds lo hi none n).2.1 = ((HT.sIx n n hi : Nat) : Int) ∧ (sliceBounds lo hi none n).2.2 = 1 := by
 refine ⟨?_, ?_, rfl⟩
 ·cases lo with
  | none => simp [sliceBounds, HT.sIx]
  | some i =>
   simp only [sliceBounds, HT.sIx, Option.getD_none, show (1 : Int) > 0 by decide, if_true]
   by_cases h : i < 0
   ·simp only [h, if_true] <;> lia
   ·simp only [h, if_false] <;> lia
 ·cases hi with
  | none => simp [sliceBounds, HT.sIx]
  | some i =>
   simp only [sliceBounds, HT.sIx, Option.getD_none, show (1 : Int) > 0 by decide, if_true]
   by_cases h : i < 0
   ·simp only [h, if_true] <;> lia
   ·simp only [h, if_false] <;> lia
theorem jqT (its : List Value) (lo hi : Option Int) : slicePick its.toArray lo hi none = ((its.drop (HT.sIx its.length 0 lo)).take (HT.sIx its.length its.length hi - HT.sIx its.length 0 lo)).toArray := by
 obtain ⟨h1, h2, h3⟩ := lqs lo hi its.toArray.size
 unfold slicePick
 rw [h1, h2, h3]
 simp only [sliceRange_one, pick_run, List.size_toArray] <;> rfl
def rSlL (K : PySem.W.Frag) : V → Option Int → Option Int → Hp → VK → Prop := fun x lo hi H Q => ∃ a xs, x = .ref a ∧ SqL K H a xs ∧ ∀ p, H p = none → Q (.ref p) (upd H p (.lst (cutV xs lo hi)))
theorem rq2 : SlR X (rSlL X.K) := by
 intro pins s σ H x v vl vu lo hi sl Q I rx hs pl pu h
 obtain ⟨a, xs, rfl, hx, q⟩ := h
 cases rx
 obtain ⟨its, r, ht, hz⟩ := I.list hx
 have hlen := r.length
 refine ⟨"list", _, slot_list_getitem.lookup, ht.isList.typeIs, ?_⟩
 refine wpAny_getItem_list_slice ht.isList hs pl pu .none (by simp) ?_ (by rw [List.size_toArray] <;> lia)
 rw [jqT, ← hlen]
 refine ⟨.ref s.heap.objs.size, _, I.laid (t' := s.toks) (o := .lst (cutV xs lo hi)) (fun b ob q => Heap.get?_push_of_some _ q) (Nat.le_refl _) ?_, rfl, q _ (I.hok.fresh (Nat.le_refl _))⟩
 exact ⟨Nat.le_trans (iqR xs lo hi) hz, _, 0, (r.drop (HT.sIx xs.length 0 lo)).take (HT.sIx xs.length xs.length hi - HT.sIx xs.length 0 lo), Heap.get?_push_size _ rfl⟩
def flatV : V → Bool
 | .non => true
 | .bl _ => true
 | .int _ => true
 | .str _ => true
 | _ => false
def eqV : V → V → Bool
 | .non, .non => true
 | .bl a, .bl b => a == b
 | .bl a, .int b => (if a then 1 else 0) == b
 | .int a, .bl b => a == (if b then 1 else 0)
 | .int a, .int b => a == b
 | .str a, .str b => a == b
 | _, _ => false
theorem uqN {A : Around} {s : Shared} {y x : V} {u v : Value} (ry : RelV y u) (rx : RelV x v) (fy : flatV y = true) (fx : flatV x = true) : SeqAt.EqAt A s u v (eqV y x) := by
 cases y with
 | non =>
  cases ry
  cases x with
  | non => cases rx; exact SeqAt.EqAt.same _
  | bl b => cases rx; exact SeqAt.EqAt.none_bool b
  | int b => obtain ⟨t, rfl⟩ := rx; exact SeqAt.EqAt.none_int b t
  | str b => obtain ⟨t, rfl⟩ := rx; exact SeqAt.EqAt.none_str b t
  | _ => exact absurd (show false = true from fx) Bool.false_ne_true
 | bl a =>
  cases ry
  cases x with
  | non => cases rx; exact SeqAt.EqAt.bool_none a
  | bl b => cases rx; exact SeqAt.EqAt.bool_bool a b
  | int b => obtain ⟨t, rfl⟩ := rx; exact SeqAt.EqAt.bool_int a b t
  | str b => obtain ⟨t, rfl⟩ := rx; exact SeqAt.EqAt.bool_str a b t
  | _ => exact absurd (show false = true from fx) Bool.false_ne_true
 | int a =>
  obtain ⟨t', rfl⟩ := ry
  cases x with
  | non => cases rx; exact SeqAt.EqAt.int_none a t'
  | bl b => cases rx; exact SeqAt.EqAt.int_bool a t' b
  | int b => obtain ⟨t, rfl⟩ := rx; exact SeqAt.EqAt.int_int a t' b t
  | str b => obtain ⟨t, rfl⟩ := rx; exact SeqAt.EqAt.int_str a t' b t
  | _ => exact absurd (show false = true from fx) Bool.false_ne_true
 | str a =>
  obtain ⟨t', rfl⟩ := ry
  cases x with
  | non => cases rx; exact SeqAt.EqAt.str_none a t'
  | bl b => cases rx; exact SeqAt.EqAt.str_bool a t' b
  | int b => obtain ⟨t, rfl⟩ := rx; exact SeqAt.EqAt.str_int a t' b t
  | str b => obtain ⟨t, rfl⟩ := rx; exact SeqAt.EqAt.str_str a t' b t
  | _ => exact absurd (show false = true from fx) Bool.false_ne_true
 | _ => exact absurd (show false = true from fy) Bool.false_ne_true
def eqU (x : V) (u : Value) : Bool := match u with
 | .none => eqV .non x
 | .bool b => eqV (.bl b) x
 | .int i _ => eqV (.int i) x
 | .str z _ => eqV (.str z) x
 | _ => false
theorem rqu {x y : V} {u : Value} (r : RelV y u) (f : flatV y = true) : eqU x u = eqV y x := by
 cases y with
 | non => cases r; rfl
 | bl b => cases r; rfl
 | int i => obtain ⟨t, rfl⟩ := r; rfl
 | str z => obtain ⟨t, rfl⟩ := r; rfl
 | _ => exact absurd (show false = true from f) Bool.false_ne_true
theorem lq4 {x : V} : ∀ {xs : List V} {us : List Value}, Vals xs us → xs.all flatV = true → us.any (eqU x) = xs.any fun y => eqV y x
 | _, _, .nil, _ => rfl
 | y :: xs, u :: us, .cons r t, f => by
  rw [List.all_cons, Bool.and_eq_true] at f
  rw [List.any_cons, List.any_cons, rqu r f.1, lq4 t f.2]
theorem kqy {A : Around} {s : Shared} {x : V} {v : Value} (rx : RelV x v) (fx : flatV x = true) : ∀ {xs : List V} {us : List Value}, Vals xs us → xs.all flatV = true → ∀ u ∈ us, SeqAt.EqAt A s u v (eqU x u)
 | _, _, .nil, _ => fun u hu => by cases hu
 | y :: xs, u :: us, .cons r t, f => fun u' hu => by
  rw [List.all_cons, Bool.and_eq_true] at f
  rcases List.mem_cons.mp hu with rfl | hu
  ·rw [rqu r f.1]; exact uqN r rx f.1 fx
  ·exact kqy rx fx t f.2 u' hu
def inV (x : V) (xs : List V) : Bool := xs.any fun y => eqV y x
def rIn (K : PySem.W.Frag) (neg : Bool) : R2 := fun x y H Q => ∃ p xs, y = .ref p ∧ (SqL K H p xs ∨ SqT K H p xs) ∧ flatV x = true ∧ xs.all flatV = true ∧ Q (.bl (if neg then !inV x xs else inV x xs)) H
theorem oqL : OpR X (compareOp .In) (rIn X.K false) := by
 intro pins s σ H x y v u Q I rx ry h
 obtain ⟨p, xs, rfl, hq, fx, fs, q⟩ := h
 cases ry
 rcases hq with hq | hq
 ·obtain ⟨its, r, pl, hz⟩ := I.list hq
  refine SeqAt.in_listAt (eqU x) pl.isList (fun w hw => kqy rx fx r fs w (by simpa using hw)) ⟨.bl _, H, I, rfl, ?_⟩
  rw [show its.toArray.any (eqU x) = its.any (eqU x) by simp, lq4 r fs]
  exact q
 ·obtain ⟨its, r, pl, hz⟩ := I.tuple hq
  refine SeqAt.in_tupleAt (eqU x) pl (fun w hw => kqy rx fx r fs w (by simpa using hw)) ⟨.bl _, H, I, rfl, ?_⟩
  rw [show its.toArray.any (eqU x) = its.any (eqU x) by simp, lq4 r fs]
  exact q
theorem kq1 : CallR X (.builtin "len") (fun xs H Q => ∃ p ys, xs = [.ref p] ∧ (SqL X.K H p ys ∨ SqT X.K H p ys) ∧ Q (.int ys.length) H) := by
 intro pins s σ H xs us Q I r h
 obtain ⟨p, ys, rfl, hq, q⟩ := h
 obtain ⟨u, rfl, rx⟩ := vals1 r
 cases rx
 have hn := line63
 rcases hq with hq | hq
 ·obtain ⟨its, r', pl, hz⟩ := I.list hq
  have hlen := r'.length
  exact Calls.call_len_list pl.isList (by simp only [List.size_toArray] <;> lia) ⟨.int ys.length, H, I.tok _, ⟨s.toks + 1, by rw [List.size_toArray, hlen]⟩, q⟩
 ·obtain ⟨its, r', pl, hz⟩ := I.tuple hq
  have hlen := r'.length
  exact len_tuple pl (by simp only [List.size_toArray] <;> lia) ⟨.int ys.length, H, I.tok _, ⟨s.toks + 1, by rw [List.size_toArray, hlen]⟩, q⟩
theorem lqo : CallR X (.builtin "len") (fun xs H Q => ∃ z, xs = [.str z] ∧ z.length ≤ sizeLine ∧ Q (.int z.length) H) := by
 intro pins s σ H xs us Q I r h
 obtain ⟨z, rfl, hz, q⟩ := h
 obtain ⟨u, rfl, t, rfl⟩ := vals1 r
 have hn := line63
 exact len_str (by lia) ⟨.int z.length, H, I.tok _, ⟨_, rfl⟩, q⟩
theorem fqY : CallR X (.type "tuple") (fun xs H Q => ∃ p ys, xs = [.ref p] ∧ ((SqL X.K H p ys ∧ ∀ l, H l = none → Q (.ref l) (upd H l (.tup ys))) ∨ (SqT X.K H p ys ∧ Q (.ref p) H))) := by
 intro pins s σ H xs us Q I r h
 obtain ⟨p, ys, rfl, h⟩ := h
 obtain ⟨u, rfl, rx⟩ := vals1 r
 cases rx
 rcases h with ⟨hq, q⟩ | ⟨hq, q⟩
 ·obtain ⟨its, r', pl, hz⟩ := I.list hq
  have hlen := r'.length
  refine call_tuple_list pl.isList (fun h' kp => ?_) (by simp only [List.size_toArray] <;> lia)
  have I1 : Inv X pins σ H { s with heap := h' } := I.kept (t' := s.toks) kp
  have I2 : Inv X pins σ (upd H h'.objs.size (.tup ys)) { s with heap := h'.push { cls := .type "tuple", data := .seq its.toArray } } :=
   I1.laid (t' := s.toks) (fun b o e => Heap.get?_push_of_some _ e) (Nat.le_refl _) (show ObjOk X.prog X.w _ _ _ (.tup ys) from ⟨hz, its, r', IsTup.new _ _⟩)
  exact ⟨.ref h'.objs.size, _, I2, rfl, q _ (I1.hok.fresh (Nat.le_refl _))⟩
 ·obtain ⟨its, r', pl, hz⟩ := I.tuple hq
  exact call_tuple_same pl ⟨.ref p, H, I, rfl, q⟩
def tyV (K : PySem.W.Frag) (T : String) (x : V) (H : Hp) : Prop := match x with
 | .str _ => T = "str"
 | .int _ => T = "int"
 | .ref p => (T = "list" ∧ ∃ xs, SqL K H p xs) ∨ (T = "tuple" ∧ ∃ o, K.lookup p = some o ∧ o.cls = .type "tuple" ∧ o.dict = none) ∨
   (T = "dict" ∧ ((∃ kvs, H p = some (.dK kvs)) ∨ ∃ kvs, H p = some (.dT kvs))) ∨ (T = "set" ∧ ∃ S n, H p = some (.set S n))
 | _ => False
theorem rqh {pins : List (Addr × Obj)} {σ : St} {H : Hp} {s : Shared} {T : String} {x : V} {v : Value} (I : Inv X pins σ H s) (r : RelV x v) (ty : tyV X.K T x H) :
  s.TypeIs v T ∧ ∀ a, v = .ref a → ∃ ob, s.heap.get? a = some ob ∧ ob.dict = none := by
 cases x with
 | str z =>
  obtain ⟨t, rfl⟩ := r
  cases (show T = "str" from ty)
  exact ⟨typeIs_str s z t, fun _ e => nomatch e⟩
 | int i =>
  obtain ⟨t, rfl⟩ := r
  cases (show T = "int" from ty)
  exact ⟨typeIs_int s i t, fun _ e => nomatch e⟩
 | ref p =>
  cases r
  rcases ty with ⟨rfl, xs, hq⟩ | ⟨rfl, o, hk, hc, hd⟩ | ⟨rfl, hk⟩ | ⟨rfl, S, n, hk⟩
  ·obtain ⟨its, _, pl, _⟩ := I.list hq
   refine ⟨pl.isList.typeIs, fun a e => ?_⟩
   cases e
   obtain ⟨o, n, e, c, hd, _⟩ := pl
   exact ⟨o, e, hd⟩
  ·refine ⟨⟨o, I.kIn p o hk, hc⟩, fun a e => ?_⟩
   cases e
   exact ⟨o, I.kIn _ o hk, hd⟩
  ·have z : ∃ o, s.heap.get? p = some o ∧ o.ExactDict := by
    rcases hk with ⟨kvs, hk⟩ | ⟨kvs, hk⟩
    ·obtain ⟨_, _, _, _, o, _, _, e, ex, _⟩ := I.hok p _ hk
     exact ⟨o, e, ex⟩
    ·obtain ⟨_, _, _, _, o, _, _, e, ex, _⟩ := I.hok p _ hk
     exact ⟨o, e, ex⟩
   obtain ⟨o, e, ex⟩ := z
   refine ⟨⟨o, e, ex.1⟩, fun a e2 => ?_⟩
   cases e2
   exact ⟨o, e, ex.2.1⟩
  ·obtain ⟨o, _, _, _, e, ex, _⟩ := I.hok p _ hk
   refine ⟨⟨o, e, ex.1⟩, fun a e2 => ?_⟩
   cases e2
   exact ⟨o, e, ex.2.1⟩
 | _ => exact False.elim ty
def tBM0 (K : PySem.W.Frag) (T : String) (r : V → List V → Hp → VK → Prop) (to : TE) : TE := fun σ H Q => to σ H fun x H1 => tyV K T x H1 ∧ r x [] H1 Q
def tBM (K : PySem.W.Frag) (T : String) (r : V → List V → Hp → VK → Prop) (to : TE) (t : TA) : TE := fun σ H Q => to σ H fun x H1 => tyV K T x H1 ∧ t σ H1 fun xs H2 => r x xs H2 Q
variable {o e : Expr} {es : List Expr} {to : TE} {t : TA} {name : Str} {apos cpos : Pos} {T id : String} {r : V → List V → Hp → VK → Prop}
theorem uqm (pa : PlainAttrs T) (slot : Slot T name id) (hty : typeOf (.builtin id) = pure (.type "method_descriptor")) (hm : MtR X id r) (ho : PE X o to)
  (hbase : attributeBase o name X.env (eval o X.env) = eval o X.env := by rfl) (hline : (apos.endLine == cpos.line) = true := by rfl) : PE X (.Call (.Attribute o name apos) [] [] cpos) (tBM0 X.K T r to) := by
 intro pins s σ H Q I h
 refine wpAny_Call_method0_late hbase hline (thn (ho pins s σ H _ I h) fun v s1 W' => ?_)
 obtain ⟨x, H1, I1, r1, ty, q1⟩ := W'
 obtain ⟨h1, h2⟩ := rqh I1 r1 ty
 exact ⟨T, id, pa, slot, hty, h1, h2, Calls.callWith_builtin rfl (PySem.evalArgs_none (hm pins s1 σ H1 x [] v [] Q I1 r1 .nil q1))⟩
theorem vqB (pa : PlainAttrs T) (slot : Slot T name id) (hty : typeOf (.builtin id) = pure (.type "method_descriptor")) (hm : MtR X id r) (ho : PE X o to) (ha : PA X (e :: es) t)
  (hbase : attributeBase o name X.env (eval o X.env) = eval o X.env := by rfl)
  (hfew : ((backTo cpos (starEach (e :: es) X.env)).all (fun x => !x.1) && (backToKw cpos (keywordEach [] X.env)).all (fun x => x.1.isSome)
   && decide ((e :: es).length + ([] : List Keyword).length + (if ([] : List Keyword).isEmpty then 0 else 1) < 30)) = true := by rfl)
  (hline : (apos.endLine == cpos.line) = true := by rfl) (hs : starEach (e :: es) X.env = (false, eval e X.env) :: starEach es X.env := by rfl) (hplain : (backTo cpos (starEach es X.env)).any (·.1) = false := by rfl) :
  PE X (.Call (.Attribute o name apos) (e :: es) [] cpos) (tBM X.K T r to t) := by
 intro pins s σ H Q I h
 refine wpAny_Call_method_late hbase hfew hline rfl (thn (ho pins s σ H _ I h) fun v s1 W' => ?_)
 obtain ⟨x, H1, I1, r1, ty, q1⟩ := W'
 obtain ⟨h1, h2⟩ := rqh I1 r1 ty
 refine ⟨T, id, pa, slot, hty, h1, h2, ?_⟩
 have hA := ha cpos pins s1 σ H1 _ I1 q1
 rw [hs] at hA ⊢
 refine Calls.callWith_builtin (by show (false || (backTo cpos (starEach es X.env)).any (·.1)) = false; rw [hplain] <;> rfl) (Calls.evalArgs_plain ?_)
 exact thn hA fun us s2 ⟨vs, H2, I2, r2, q2⟩ => hm pins s2 σ H2 x vs v us Q I2 r1 r2 q2
end
def MtM (X : Cx) (id : String) (r : V → List V → Hp → VK → Prop) : Prop :=
 ∀ (pins : List (Addr × Obj)) (s : Shared) (σ : St) (H : Hp) (x : V) (xs : List V) (v : Value) (us : List Value) (Q : VK), Inv X pins σ H s → RelV x v → Vals xs us → r x xs H Q →
  wpAny (model X.prog X.w) X.A (call (.builtin id) (v :: us)) (EP X pins σ Q) X.xe s
theorem Vals.one : ∀ {x : V} {us : List Value}, Vals [x] us → ∃ u, us = [u] ∧ RelV x u
 | _, _, .cons r .nil => ⟨_, rfl, r⟩
theorem Vals.zero : ∀ {us : List Value}, Vals [] us → us = []
 | _, .nil => rfl
theorem Vals.dropLast {xs : List V} {us : List Value} (h : Vals xs us) : Vals xs.dropLast us.dropLast := by
 induction h with
 | nil => exact .nil
 | cons r t ih =>
  cases t with
  | nil => exact .nil
  | cons q t' => exact .cons r ih
theorem nqz {α : Type} (l : List α) : l.eraseIdx (l.length - 1) = l.dropLast := by
 induction l with
 | nil => rfl
 | cons a r ih =>
  cases r with
  | nil => rfl
  | cons b r =>
   have e : (a :: b :: r).length - 1 = ((b :: r).length - 1) + 1 := by
    have h1 : (a :: b :: r).length = r.length + 2 := rfl
    have h2 : (b :: r).length = r.length + 1 := rfl
    lia
   rw [e, List.eraseIdx_cons_succ, ih]
   all_goals rfl
section
variable {X : Cx} {pins : List (Addr × Obj)} {σ : St} {H : Hp} {s : Shared} {l b : Addr} {xs ys zs : List V}
theorem Inv.lset {its its' : List Value} {n : Nat} {f : Array Value → Array Value} {t' : Nat} (I : Inv X pins σ H s) (hH : H l = some (.lst xs))
  (e : s.heap.get? l = some { cls := .type "list", data := .seq its.toArray n }) (hf : f its.toArray = its'.toArray) (hv : Vals ys its') (hz : ys.length ≤ sizeLine) :
  Inv X pins σ (upd H l (.lst ys)) { s with heap := s.heap.update l (Obj.mapSeq f), toks := t' } := by
 have q := PySem.IsL.update e f
 rw [hf] at q
 refine I.write (x := l) (e := l) (by rw [hH]; exact trivial) (.inl rfl) (fun b' u hb hu => (Heap.get?_update_other s.heap (Obj.mapSeq f) (Ne.symm hb)).trans hu) ⟨_, q⟩ ?_
 exact ⟨hz, its', _, hv, q⟩
theorem Inv.lnew {its : List Value} {t' : Nat} (I : Inv X pins σ H s) (hv : Vals ys its) (hz : ys.length ≤ sizeLine) :
  Inv X pins σ (upd H s.heap.objs.size (.lst ys)) { s with heap := s.heap.push { cls := .type "list", data := .seq its.toArray }, toks := t' } :=
 I.laid (fun _ _ q => Heap.get?_push_of_some _ q) (Nat.le_refl _) ⟨hz, its, 0, hv, Heap.get?_push_size _ rfl⟩
theorem Inv.fresh (I : Inv X pins σ H s) : H s.heap.objs.size = none := I.hok.fresh (Nat.le_refl _)
theorem Inv.lstM (I : Inv X pins σ H s) (hH : H l = some (.lst xs)) : xs.length ≤ sizeLine ∧ ∃ (its : List Value) (n : Nat), Vals xs its ∧ xs.length = its.length ∧ s.heap.get? l = some { cls := .type "list", data := .seq its.toArray n } := by
 obtain ⟨z, its, n, r, e⟩ := I.hok l _ hH
 exact ⟨z, its, n, r, r.length, e⟩
end
section
variable {X : Cx}
def rAppend : V → List V → Hp → VK → Prop := fun x vs H Q => ∃ l xs y, x = .ref l ∧ vs = [y] ∧ H l = some (.lst xs) ∧ xs.length < sizeLine ∧ Q .non (upd H l (.lst (xs ++ [y])))
theorem cqK : MtM X "list.append" rAppend := by
 intro pins s σ H x vs v us Q I rx rv h
 obtain ⟨l, xs, y, rfl, rfl, hH, hz, q⟩ := h
 cases rx
 obtain ⟨u, rfl, ru⟩ := rv.one
 obtain ⟨z, its, n, r, hl, e⟩ := I.lstM hH
 refine call_meets F.slot_list_append ⟨_, e, rfl⟩ F.entry_list_append (F.args_list_append_2 _ _) (PySem.list_append l its.toArray n u (by rw [List.size_toArray]; lia)) ⟨e, ?_⟩
 refine ⟨.non, _, I.lset (its' := its ++ [u]) hH e (by simp) (r.append (.cons ru .nil)) ?_, rfl, q⟩
 rw [List.length_append, List.length_singleton]
 lia
def rPop : V → List V → Hp → VK → Prop := fun x vs H Q => ∃ l xs y, x = .ref l ∧ vs = [] ∧ H l = some (.lst xs) ∧ xs[xs.length - 1]? = some y ∧ Q y (upd H l (.lst xs.dropLast))
theorem uq8 : MtM X "list.pop" rPop := by
 intro pins s σ H x vs v us Q I rx rv h
 obtain ⟨l, xs, y, rfl, rfl, hH, hy, q⟩ := h
 cases rx
 have hus := rv.zero
 subst hus
 obtain ⟨z, its, n, r, hl, e⟩ := I.lstM hH
 obtain ⟨u, hu, ru⟩ := r.get hy
 have hy' : its.toArray[its.toArray.size - 1]? = some u := by
  show its.toArray[its.length - 1]? = some u
  rw [← Array.getElem?_toList, ← hl]
  exact hu
 refine call_meets F.slot_list_pop ⟨_, e, rfl⟩ F.entry_list_pop (F.args_list_pop_1 _) (MeetsSeq.list_pop_last l its.toArray n u hy' (by rw [List.size_toArray]; lia)) ⟨e, ?_⟩
 refine ⟨y, _, I.lset (its' := its.dropLast) hH e ?_ r.dropLast ?_, ru, q⟩
 ·show its.toArray.eraseIdxIfInBounds (its.toArray.size - 1) = its.dropLast.toArray
  rw [List.size_toArray, List.eraseIdxIfInBounds_toArray, nqz]
 ·rw [List.length_dropLast]
  lia
def rPopAt : V → List V → Hp → VK → Prop := fun x vs H Q => ∃ l xs i k y, x = .ref l ∧ vs = [.int i] ∧ H l = some (.lst xs) ∧ -(2 ^ 63) ≤ i ∧ i < 2 ^ 63 ∧ seqIndex? i xs.length = some k ∧ xs[k]? = some y ∧ Q y (upd H l (.lst (xs.eraseIdx k)))
def rReverse : V → List V → Hp → VK → Prop := fun x vs H Q => ∃ l xs, x = .ref l ∧ vs = [] ∧ H l = some (.lst xs) ∧ Q .non (upd H l (.lst xs.reverse))
def rCat : R2 := fun x y H Q => ∃ l b xs zs, x = .ref l ∧ y = .ref b ∧ H l = some (.lst xs) ∧ H b = some (.lst zs) ∧ xs.length + zs.length ≤ sizeLine ∧ ∀ p, H p = none → Q (.ref p) (upd H p (.lst (xs ++ zs)))
theorem tq6 : OpR X (binaryOp .Add) rCat := by
 intro pins s σ H x y v u Q I rx ry h
 obtain ⟨l, b, xs, zs, rfl, rfl, hH, hB, hz, q⟩ := h
 cases rx
 cases ry
 obtain ⟨z, its, n, r, hl, e⟩ := I.lstM hH
 obtain ⟨z2, its2, n2, r2, hl2, e2⟩ := I.lstM hB
 refine PySem.P.add_list e e2 ?_ (by rw [List.size_toArray, List.size_toArray]; lia)
 have ea : its.toArray ++ its2.toArray = (its ++ its2).toArray := by simp
 rw [ea]
 exact ⟨.ref _, _, I.lnew (t' := s.toks) (r.append r2) (by rw [List.length_append]; lia), rfl, q _ I.fresh⟩
end
section
variable {prog : Program} {w : World} {A : Around} {E : Value → Shared → Prop} {s : Shared}
set_option maxRecDepth 100000 in
end
section
variable {X : Cx}
end
end L2
namespace Att
open PySem PySem.W PySem.Calls PyProof.Rows
theorem hqT {P : Params} {h : Heap} : ∀ (ns : List Int) (vs : List Value), WellAll P h vs (ns.map WData.int) → IntsAre vs ns := by
 intro ns
 induction ns with
 | nil =>
  intro vs w
  rw [List.map_nil] at w
  cases w
  exact .nil
 | cons n ns ih =>
  intro vs w
  rw [List.map_cons] at w
  cases w with
  | cons a b =>
   cases a
   exact .cons _ _ (ih _ b)
theorem oqO {l : OpenLaw} {n : Nat} (hn : l.most = some n) {P : Params} {h : Heap} {args : List WData} {vals : List Value}
  (hpre : l.row.toRowW.claim.pre args = true) (hwl : WellAll P h vals args) :
  ∃ a vs ns, vals = [Value.ref a] ∧ args = [WData.list (ns.map WData.int)] ∧ h.get? a = some { cls := .type "list", data := .seq vs.toArray } ∧ IntsAre vs ns ∧ ns.length ≤ n := by
 have hsh : WShape.hasAll [] args [.list .int] = true := (pre_splitW hpre).1
 have hc : l.pre.holds [] { args := args } = true := (pre_splitW hpre).2
 obtain ⟨d, r, rfl, h1, h2⟩ := hasAllW_cons hsh
 obtain rfl := hasAllW_nil h2
 obtain ⟨xs, rfl, h3⟩ := hasW_list h1
 obtain ⟨ns, rfl⟩ := items_int h3
 have hlen : ns.length ≤ n := by
  unfold OpenLaw.pre at hc
  have h4 : (WTm.not (.lt (.lit (.int (n : Int))) (.len (.arg 0)))).holds [] { args := [.list (ns.map .int)] } = true := by
   have h4 := (holds_andW hc).1
   rw [hn] at h4
   exact h4
  have h5 := condW_of h4 (w_not (w_lt w_lit (w_len_list (w_arg rfl))))
  rw [List.length_map] at h5
  refine Nat.le_of_not_lt fun q => ?_
  have q' : (n : Int) < ((ns.length : Nat) : Int) := by lia
  first
   | (rw [decide_eq_true q'] at h5; exact absurd h5 (by decide))
   | (simp at h5; lia)
 cases hwl with
 | cons w1 w2 =>
  cases w2
  cases w1 with
  | list ho hall => exact ⟨_, _, ns, rfl, rfl, ho, hqT ns _ hall, hlen⟩
theorem pqb (l : OpenLaw) (args : List WData) : l.row.toRowW.claim.post args (.bool true) args = true :=
 postW_of (r := l.row.toRowW) (X := (true == true))
  (show WShape.has [] (.bool true) .bool = true by first | rfl | decide | simp [WShape.has, WShape.arms, WShape.armsAll])
  (show (WTm.eq .res (.lit (.bool true))).value [] { args := args, res := some (.bool true), after := args } = some (.bool (true == true)) from w_eq_bool (w_res rfl) w_lit) rfl
theorem attach_call {l : OpenLaw} {n : Nat} {q : Program} {loose : List Str} {XP : (Str → Option Value) → Heap → Prop} {YP : World → Heap → Prop} {d : DefRec}
  (hn : l.most = some n) (hdf : d.params.defaults = [])
  (call : ∀ (w : World) (s₀ s₁ : Shared) (mg mb : Str → Option Value) (fa : Addr) (o : Obj) (pm cd doc : Value) (a : Addr) (vs : List Value) (ns : List Int),
   Ground q loose [] XP w s₀ mg mb s₁.heap → YP w s₁.heap →
   s₁.heap.get? fa = some o → o.data = .func (docDef d.name d.params d.body d.scope pm cd doc) → s₁.heap.CodeRec cd d.name → mg d.name = some (.ref fa) →
   s₁.heap.get? a = some { cls := .type "list", data := .seq vs.toArray } → IntsAre vs ns → ns.length ≤ n → s₁.gens = #[] →
   codeAny (model l.prog w) callerA (.call (.ref fa) ⟨[.ref a], []⟩) (fun r s' => r = .ok (.ret (.bool true)) ∧ OldK s₁.heap s'.heap ∧ s'.os = s₁.os ∧ AllBare s'.gens) s₁) :
  WalkO q loose XP YP l.row.toRowW d [] (fun f vs => PySem.call f vs) := by
 intro w s₀ s₁ mg mb G Y fa o pm cd doc dV kV ho hd hcd hD hmg hg args vals as hpre hlay hrd hwl hlo
 obtain rfl : dV = .none := Dflts.none hD hdf
 obtain rfl : kV = .none := Dflts.noKw hD
 obtain ⟨a, vs, ns, rfl, rfl, hobj, hints, hlen⟩ := oqO hn hpre hwl
 refine enter_call (codeAny_mono (call w s₀ s₁ mg mb fa o pm cd doc a vs ns G Y ho (fd_plain hd) hcd hmg hobj hints hlen hg) fun r s' hq => ?_)
 obtain ⟨rfl, h2, h3, h4⟩ := hq
 exact ⟨.inl ⟨.bool true, .bool true, [], rfl, fun _ => rfl, .bool true, pqb l _, fun _ => ⟨List.Pairwise.nil, fun _ hm => (nomatch hm)⟩⟩, h2, h3, h4⟩
section
variable {prog : Program} {w : World} {A : Around} {E : Value → Shared → Prop} {s : Shared} {K : Frag}
def ledger (h : Heap) (L d : Addr) : List (Addr × Obj) := (List.range h.objs.size).filterMap fun a => if a = L ∨ a = d then none else (h.get? a).map fun o => (a, o)
end
end Att
namespace L2
open PySem PySem.Spec PyProof.Rows
theorem kqJ : ∀ {vs : List Value} {ns : List Int}, IntsAre vs ns → Vals (ns.map V.int) vs
 | _, _, .nil => .nil
 | _, _, .cons n t h => .cons ⟨t, rfl⟩ (kqJ h)
def Only (H : Hp) : Prop := ∀ b, H b = none ∨ ∃ o xs, H b = some (.frz o (.lst xs))
theorem qq7 {P : Program} {w : World} {K : PySem.W.Frag} {mg mb : Str → Option Value} {CX : CXT} {k : Nat} {fa a : Addr} {fd : FuncData} {x : Str} {sp : Sp} {s₁ : Shared} {vs : List Value} {ns : List Int}
  (KX : K.In s₁.heap) (hns : s₁.heap.Ns mainGlobals mg) (hb : s₁.heap.Ns builtinsNs mb) (hbb : ∀ x : Str, x ≠ "__name__" → mb x = bootBuiltins x) (hlim : s₁.heap.NoLimit) (hg : s₁.gens = #[])
  (ha : s₁.heap.get? a = some { cls := .type "list", data := .seq vs.toArray }) (hi : IntsAre vs ns) (hl : ns.length ≤ sizeLine) (hr : Room k callerA)
  (F : ∀ base : Heap, K.In base → base.Ns mainGlobals mg → FnOk P w K mg base CX k fa fd [x] sp) (hbind : ∀ (s : Shared) (u : Value), BindsTo s fd ⟨[u], []⟩ [(x, u)])
  (hsp : ∀ H : Hp, Only H → SqL K H a (ns.map V.int) → sp [.ref a] H (fun v _ => v = .bl true) fun _ _ _ => False)
  (hCX : ∀ H e s', CX [] H s₁ (fun _ _ _ => False) e s' → False) :
  codeAny (model P w) callerA (.call (.ref fa) ⟨[.ref a], []⟩) (fun r s' => r = .ok (.ret (.bool true)) ∧ OldK s₁.heap s'.heap ∧ s'.os = s₁.os ∧ AllBare s'.gens) s₁ := by
 have rv := kqJ hi
 have lenV := hi.length
 have core : ∀ H : Hp, Only H → SqL K H a (ns.map V.int) → HOk P w H s₁.heap → (∀ b, H b ≠ none → b = a) → (H a ≠ none → K.lookup a = none) →
   codeAny (model P w) callerA (.call (.ref fa) ⟨[.ref a], []⟩) (fun r s' => r = .ok (.ret (.bool true)) ∧ OldK s₁.heap s'.heap ∧ s'.os = s₁.os ∧ AllBare s'.gens) s₁ := by
  intro H hO hS hok hA hK
  have base_of : ∀ {b : Addr} {o : Obj}, s₁.heap.get? b = some o → H b = none → (hidT s₁.heap H).get? b = some o := fun e n => qqt e n
  have noA : ∀ {b : Addr} {o : Obj} {es : Array DictEntry} {ep : Nat}, s₁.heap.get? b = some o → o.data = .dict es ep → H b = none := fun {b o es ep} e d => by
   cases q : H b with
   | none => rfl
   | some u =>
    have e' : b = a := hA b (by rw [q]; simp)
    subst e'
    rw [ha] at e; cases e
    have d' : Data.seq vs.toArray _ = Data.dict es ep := d
    cases d'
  have nsK : ∀ {b : Addr} {m : Str → Option Value}, s₁.heap.Ns b m → (hidT s₁.heap H).Ns b m := fun {b m} ⟨o, es, ep, e, d, r⟩ => ⟨o, es, ep, base_of e (noA e d), d, r⟩
  have hKb : K.In (hidT s₁.heap H) := fun b o e => base_of (KX b o e) (by
   cases q : H b with
   | none => rfl
   | some u =>
    have e' : b = a := hA b (by rw [q]; simp)
    subst e'
    rw [hK (by rw [q]; simp)] at e; cases e)
  have hM : Mod K mg (hidT s₁.heap H) := ⟨hKb, nsK hns, ⟨mb, nsK hb, hbb⟩, let ⟨mc, h1, h2⟩ := hlim; ⟨mc, nsK h1, h2⟩⟩
  have e0 : Env0 P w K mg (hidT s₁.heap H) callerA [] s₁ H := ⟨rfl, hM, fun b o e => tqu e, Nat.le_of_eq (pqN _ _), trivial, fun b hb => absurd (show b ∈ ([] : List Addr) from hb) (by simp), hok, .of_eq hg⟩
  refine codeAny_mono ((F _ hKb (nsK hns)).run callerA [] s₁ H ⟨[.ref a], []⟩ [.ref a] [.ref a] _ _ hr e0 (hbind s₁ (.ref a)) (.cons rfl .nil) (hsp H hO hS)) fun r s' h => ?_
  cases r with
  | error e => exact (hCX H e s' h).elim
  | ok fl =>
   cases fl with
   | next => exact False.elim h
   | brk => exact False.elim h
   | cont => exact False.elim h
   | ret u =>
    obtain ⟨v, H', os, bare, un, hok', r', q⟩ := h
    have q' : v = .bl true := q
    subst q'
    obtain rfl : u = Value.bool true := r'
    refine ⟨rfl, OldK.of_keep fun b o e => ?_, os, bare⟩
    cases q : H b with
    | none => exact un.keep b o e q (by intro z; exact absurd (show b ∈ ([] : List Addr) from z) (by simp)) (by simp)
    | some u =>
     rcases hO b with z | ⟨ob, xs, z⟩
     ·rw [q] at z; cases z
     ·have z2 := un.frzs b ob _ z
      obtain ⟨e1, _⟩ := hok b _ z
      obtain ⟨e2, _⟩ := hok' b _ z2
      rw [e] at e1; cases e1
      exact e2
 cases hk : K.lookup a with
 | some o =>
  have e := KX a o hk
  rw [ha] at e
  cases e
  refine core (fun _ => none) (fun _ => .inl rfl) (.inr ⟨_, vs.toArray, _, hk, rfl, rfl, rfl, by rw [List.size_toArray, lenV]; exact hl, by simpa using rv⟩) (fun b u z => by have z' : (none : Option HO) = some u := z; cases z') (fun b z => absurd rfl z) fun z => absurd rfl z
 | none =>
  refine core (fun b => if b = a then some (.frz { cls := .type "list", data := .seq vs.toArray } (.lst (ns.map V.int))) else none) (fun b => ?_) (.inl (.inr ⟨{ cls := .type "list", data := .seq vs.toArray }, if_pos rfl⟩)) (fun b u z => ?_) (fun b z => ?_) fun _ => hk
  ·by_cases hb : b = a
   ·exact .inr ⟨_, _, if_pos hb⟩
   ·exact .inl (if_neg hb)
  ·by_cases hb : b = a
   ·have z' := (if_pos hb).symm.trans z
    cases z'
    subst hb
    exact ⟨ha, by rw [List.length_map]; exact hl, vs, _, rv, ha⟩
   ·have z' := (if_neg hb).symm.trans z
    cases z'
  ·by_cases hb : b = a
   ·exact hb
   ·exact absurd (if_neg hb) z
abbrev KOf {K : PySem.W.Frag} {h : Heap} (_ : K.In h) : PySem.W.Frag := K
theorem rqQ {l : PySem.W.OpenLaw} {n k : Nat} {q : Program} {loose : List Str} {XP : (Str → Option Value) → Heap → Prop} {YP : World → Heap → Prop} {d : DefRec} {K : Params → PySem.W.Frag} {CX : World → CXT} {sp : World → Sp} {x : Str}
  (hn : l.most = some n) (hn2 : n ≤ sizeLine) (hdf : d.params.defaults = []) (hr : Room k callerA)
  (hY : ∀ (w : World) (h : Heap), YP w h → (K w.params).In h)
  (F : ∀ (w : World) (mg : Str → Option Value) (fa : Addr) (h : Heap), (K w.params).In h → h.Ns mainGlobals mg → mg d.name = some (.ref fa) →
   ∃ fd : FuncData, (∀ (s : Shared) (u : Value), BindsTo s fd ⟨[u], []⟩ [(x, u)]) ∧
    ∀ base : Heap, (K w.params).In base → base.Ns mainGlobals mg → FnOk l.prog w (K w.params) mg base (CX w) k fa fd [x] (sp w))
  (hsp : ∀ (w : World) (H : Hp) (a : Addr) (ns : List Int), ns.length ≤ n → Only H → SqL (K w.params) H a (ns.map V.int) → sp w [.ref a] H (fun v _ => v = .bl true) fun _ _ _ => False)
  (hCX : ∀ (w : World) (H : Hp) (s : Shared) (e : Value) (s' : Shared), CX w [] H s (fun _ _ _ => False) e s' → False) :
  PySem.W.WalkO q loose XP YP l.row.toRowW d [] (fun f vs => PySem.call f vs) := by
 refine Att.attach_call hn hdf fun w s₀ s₁ mg mb fa o pm cd doc a vs ns G Y ho hd hcd hmg hobj hints hlen hg => ?_
 have KX := hY w _ Y
 obtain ⟨fd, hb, hF⟩ := F w mg fa _ KX G.T.g hmg
 exact qq7 KX G.T.g G.T.b G.T.builtins G.T.nolimit hg hobj hints (Nat.le_trans hlen hn2) hr hF hb (fun H hO hS => hsp w H a ns hlen hO hS) fun H e s' => hCX w H s₁ e s'
def inClass (s : Stmt) (j : Nat) : Stmt := match s with
 | .ClassDef _ _ _ body _ _ _ _ _ _ _ => body.getD j (.Pass ⟨0, 0, 0, 0⟩)
 | _ => .Pass ⟨0, 0, 0, 0⟩
def defArgs (s : Stmt) : Arguments := match s with
 | .FunctionDef _ a _ _ _ _ _ _ _ _ => a
 | _ => { posonlyargs := [], args := [], vararg := none, kwonlyargs := [], kw_defaults := [], kwarg := none, defaults := [] }
def defBody (s : Stmt) : List Stmt := match s with
 | .FunctionDef _ _ b _ _ _ _ _ _ _ => b
 | _ => []
def defScope (s : Stmt) : Scope := match s with
 | .FunctionDef _ _ _ _ _ _ sc _ _ _ => sc
 | _ => { kind := .function, names := [], isGenerator := false, isCoroutine := false }
abbrev CX0 : CXT := fun _ _ _ _ _ _ => False
abbrev E0 : XK := fun _ _ _ => False
theorem pass0 {X : Cx} : Passes CX0 X E0 := fun _ _ _ _ _ _ _ h => h.elim
structure Fun (K : PySem.W.Frag) (x qual : Str) (st : Stmt) (f : Addr) (fd : FuncData) : Prop where
 ex : ∃ (oc : Value) (od : Option Addr) (kV doc pm : Value) (an : Option Addr) (cdv ct : Value) (osl : Array (Option Value)),
  fd = PySem.W.fnOf x qual (defArgs st) (defBody st) (defScope st) .none kV doc pm an cdv ct ∧ K.lookup f = some ⟨oc, od, .func fd, osl⟩ ∧ PySem.W.codeIn K cdv qual = true
 kp : PySem.W.keepIn K (.ref f) = true
section
variable {P : Program} {w : World} {K : PySem.W.Frag} {mg : Str → Option Value} {base : Heap}
theorem Fun.ok {x qual : Str} {st : Stmt} {f : Addr} {fd : FuncData} {N ps : List Str} {k : Nat} {sp : Sp} (F : Fun K x qual st f fd) (S : FnScope N ps (defScope st)) (len : ∀ vs H Q E, sp vs H Q E → vs.length = ps.length)
  (hbody : ∀ (cdv : Value) (A : Around) (outer : List Env) (s : Shared) (H : Hp) (vs : List V) (Q : VK) (E : XK), Room k (A.deeper (envOfC qual (defScope st) s.heap.objs.size f cdv)) → sp vs H Q E →
   ∃ t, PSs (cxOf CX0 P w K mg base N qual (defScope st) f cdv A outer s H E).nox (defBody st) t ∧ t { nx := fun _ H' => Q .non H', rt := Q } (start N vs) H) : FnOk P w K mg base CX0 (k + 1) f fd ps sp := by
 obtain ⟨oc, od, kV, doc, pm, an, cdv, ct, osl, rfl, lk, hcd⟩ := F.ex
 refine tqt lk hcd S len fun A outer s H vs Q E hr hsp => ?_
 obtain ⟨t, h, q⟩ := hbody cdv A outer s H vs Q E hr hsp
 exact ⟨t, h.nox, q⟩
theorem Fun.binds {x qual : Str} {st : Stmt} {f : Addr} {fd : FuncData} {ps : List Str} (F : Fun K x qual st f fd)
  (h : ∀ (kV doc pm : Value) (an : Option Addr) (cdv ct : Value) (us : List Value), us.length = ps.length → bindArgs (PySem.W.fnOf x qual (defArgs st) (defBody st) (defScope st) .none kV doc pm an cdv ct) ⟨us, []⟩ = pure (ps.zip us)) : Binds K fd ps [] := by
 obtain ⟨oc, od, kV, doc, pm, an, cdv, ct, osl, rfl, lk, hcd⟩ := F.ex
 exact .all (h kV doc pm an cdv ct)
theorem eqw {x qual : Str} {st : Stmt} {f : Addr} {oc : Value} {od an : Option Addr} {osl : Array (Option Value)} {kV doc pm cdv ct : Value} (l : K.lookup f = some ⟨oc, od, .func (PySem.W.fnOf x qual (defArgs st) (defBody st) (defScope st) .none kV doc pm an cdv ct), osl⟩)
  (c : PySem.W.codeIn K cdv qual = true) (k : PySem.W.keepIn K (.ref f) = true) : Fun K x qual st f (PySem.W.fnOf x qual (defArgs st) (defBody st) (defScope st) .none kV doc pm an cdv ct) := ⟨⟨oc, od, kV, doc, pm, an, cdv, ct, osl, rfl, l, c⟩, k⟩
end
section
variable {X : Cx}
theorem pv (i : Nat) {x : Str} {pos : Pos} (hN : X.N[i]? = some x := by rfl) (hv : Vis X.env.scope x := by first | exact Or.inl rfl | exact Or.inr (Or.inl rfl) | exact Or.inr (Or.inr rfl)) (hd : (x == ("__debug__" : Str)) = false := by decide)
  (hcd : (x == ("__classdict__" : Str)) = false := by decide) : PE X (.Name x pos) (tVar i) := tqQ hN hv hd hcd
end
theorem ite2 {c A B : Prop} [Decidable c] (h1 : c → A) (h2 : ¬ c → B) : if c then A else B := by
 by_cases h : c
 ·rw [if_pos h]
  exact h1 h
 ·rw [if_neg h]
  exact h2 h
def Same (H H' : Hp) : Prop := ∀ b o, H b = some o → H' b = some o
theorem Same.refl (H : Hp) : Same H H := fun _ _ h => h
theorem Same.trans {H H1 H2 : Hp} (a : Same H H1) (b : Same H1 H2) : Same H H2 := fun c o h => b c o (a c o h)
theorem Same.seq {K : PySem.W.Frag} {H H' : Hp} {a : Addr} {xs : List V} (e : Same H H') (h : SqL K H a xs) : SqL K H' a xs := by
 rcases h with (h | ⟨o, h⟩) | h
 ·exact .inl (.inl (e _ _ h))
 ·exact .inl (.inr ⟨o, e _ _ h⟩)
 ·exact .inr h
end L2
set_option maxHeartbeats 4000000
namespace L2
open PySem PySem.Spec PyProof.Rows
def Its (z : Str) : It := ⟨fun i _ => i < z.length, fun i H x H' => H' = H ∧ ∃ c, z.cps.toList[i]? = some c ∧ x = .str ⟨#[c]⟩, fun i _ => z.length ≤ i⟩
theorem oq9 {z : Str} {i : Nat} (h : i < z.length) : ∃ c, z.cps[i]? = some c ∧ z.cps.toList[i]? = some c := by
 have h' : i < z.cps.size := h
 exact ⟨z.cps[i], by simp [h'], by simp [h']⟩
theorem nqc {z : Str} {i : Nat} (h : z.length ≤ i) : z.cps[i]? = none := by
 have h' : z.cps.size ≤ i := h
 simp [h']
theorem oqH {P : Program} {w : World} {K : PySem.W.Frag} {tg : Expr} (it : Addr) (z : Str) (t : Tok) : Turn P w K tg (Its z) [it] it (fun i h => h.IsStrIter it "str_ascii_iterator" z t i) where
 mem := by simp
 obj := fun i h st b hb => by
  have e : b = it := by simpa using hb
  subst e
  obtain ⟨o, e, c, d⟩ := st
  exact ⟨o, e, fun v z => by rw [d] at z; cases z⟩
 keep := fun i h h' st k => by
  obtain ⟨o, e, r⟩ := st
  exact ⟨o, k it (by simp) o e, r⟩
 item := by
  intro X hP hw hK hc i pins s σ H E I hf st hg
  subst hP hw hK
  obtain ⟨c, h1, h2⟩ := oq9 (z := z) (i := i) hg
  obtain ⟨f0, f1, f2, f3, f4, f5⟩ := hf it (by simp)
  refine wpAny_pyNext_ascii_item st h1 fun h' st' sb => ?_
  have I1 : Inv X pins σ H { s with heap := h', toks := s.toks + 1 } := I.turned (t' := s.toks + 1) (fun b o hb e => (sb.2 b hb).trans e) f0 f1 f3 f4 f5
  obtain ⟨o, e, cl, d⟩ := id st'
  exact ⟨_, rfl, qqz (s := { s with heap := h', toks := s.toks + 1 }) e cl d (by decide) ⟨.str ⟨#[c]⟩, H, I1, ⟨_, rfl⟩, ⟨rfl, c, h2, rfl⟩, st', fun b hb => (hf b hb).1⟩⟩
 done := by
  intro X hP hw hK hc i pins s σ H E I hf st hg
  subst hP hw hK
  obtain ⟨f0, f1, f2, f3, f4, f5⟩ := hf it (by simp)
  exact wpAny_pyNext_ascii_end (I.ok.hd hc) st (nqc hg) fun h' eb => ⟨rfl, I.turned (t' := s.toks) (fun b o hb e => eb b o hb e) f0 f1 f3 f4 f5⟩
 self := fun _ _ _ _ _ st h => wpAny_pyIter_striter_ascii st h
theorem oqv {P : Program} {w : World} {K : PySem.W.Frag} {tg : Expr} (it : Addr) (z : Str) (t : Tok) : Turn P w K tg (Its z) [it] it (fun i h => h.IsStrIter it "str_iterator" z t i) where
 mem := by simp
 obj := fun i h st b hb => by
  have e : b = it := by simpa using hb
  subst e
  obtain ⟨o, e, c, d⟩ := st
  exact ⟨o, e, fun v z => by rw [d] at z; cases z⟩
 keep := fun i h h' st k => by
  obtain ⟨o, e, r⟩ := st
  exact ⟨o, k it (by simp) o e, r⟩
 item := by
  intro X hP hw hK hc i pins s σ H E I hf st hg
  subst hP hw hK
  obtain ⟨c, h1, h2⟩ := oq9 (z := z) (i := i) hg
  obtain ⟨f0, f1, f2, f3, f4, f5⟩ := hf it (by simp)
  refine wpAny_pyNext_wide_item st h1 fun h' st' sb => ?_
  have I1 : Inv X pins σ H { s with heap := h', toks := s.toks + 1 } := I.turned (t' := s.toks + 1) (fun b o hb e => (sb.2 b hb).trans e) f0 f1 f3 f4 f5
  obtain ⟨o, e, cl, d⟩ := id st'
  exact ⟨_, rfl, qqz (s := { s with heap := h', toks := s.toks + 1 }) e cl d (by decide) ⟨.str ⟨#[c]⟩, H, I1, ⟨_, rfl⟩, ⟨rfl, c, h2, rfl⟩, st', fun b hb => (hf b hb).1⟩⟩
 done := by
  intro X hP hw hK hc i pins s σ H E I hf st hg
  subst hP hw hK
  obtain ⟨f0, f1, f2, f3, f4, f5⟩ := hf it (by simp)
  exact wpAny_pyNext_wide_end (I.ok.hd hc) st (nqc hg) fun h' eb => ⟨rfl, I.turned (t' := s.toks) (fun b o hb e => eb b o hb e) f0 f1 f3 f4 f5⟩
 self := fun _ _ _ _ _ st h => wpAny_pyIter_striter_wide st h
section
variable {X : Cx} {tg : Expr}
def iStr (tl : TE) : TI := fun σ H R => tl σ H fun x H1 => ∃ z, x = .str z ∧ R (Its z) H1
theorem rqB {l : Expr} {tl : TE} (hl : PE X l tl) : PI X tg l (iStr tl) := by
 intro pins s σ H R I h
 refine thn (hl pins s σ H _ I h) fun v s1 W' => ?_
 obtain ⟨x, H1, I1, r1, q1⟩ := W'
 obtain ⟨z, rfl, q⟩ := q1
 obtain ⟨t, rfl⟩ := r1
 have fp : ∀ b ∈ [s1.heap.objs.size], FpOk X pins H1 b := fun b hb => by
  have e : b = s1.heap.objs.size := by simpa using hb
  subst e
  exact I1.fpOk (Nat.le_refl _) (I1.hok.fresh (Nat.le_refl _))
 cases ha : z.cps.all (· < 128)
 ·refine wpAny_pyIter_wide ha ?_
  exact ⟨s1.heap.objs.size, [s1.heap.objs.size], _, _, H1, rfl, I1.kept (t' := s1.toks) fun b o e => Heap.get?_push_of_some _ e, oqv _ z t, ⟨_, Heap.get?_push_size _ rfl, rfl, rfl⟩, fp, q⟩
 ·refine wpAny_pyIter_ascii ha ?_
  exact ⟨s1.heap.objs.size, [s1.heap.objs.size], _, _, H1, rfl, I1.kept (t' := s1.toks) fun b o e => Heap.get?_push_of_some _ e, oqH _ z t, ⟨_, Heap.get?_push_size _ rfl, rfl, rfl⟩, fp, q⟩
end
section
variable {X : Cx}
def rSlS : V → Option Int → Option Int → Hp → VK → Prop := fun x lo hi H Q => ∃ z, x = .str z ∧ z.length ≤ sizeLine ∧ Q (.str (Txt.slice z lo hi)) H
theorem tq3 : SlR X rSlS := by
 intro pins s σ H x v vl vu lo hi sl Q I rx hs pl pu h
 obtain ⟨z, rfl, hz, q⟩ := h
 obtain ⟨t, rfl⟩ := rx
 refine ⟨"str", _, F.slot_str_getitem.lookup, typeIs_str _ _ _, ?_⟩
 obtain ⟨o, ho, hc, hd⟩ := hs
 cases pl with
 | none =>
  cases pu with
  | none => exact wpAny_getItem_str_slice (l := none) (u := none) (st := none) ⟨o, ho, hc, hd⟩ rfl (post_val_or_str ⟨Nat.le_trans (Txt.slice_le z none none) hz, fun t' k => ⟨.str (Txt.slice z none none), H, I.tok k, ⟨t', rfl⟩, q⟩⟩)
  | int j uj => exact wpAny_getItem_str_slice (l := none) (u := some (j, uj)) (st := none) ⟨o, ho, hc, hd⟩ rfl (post_val_or_str ⟨Nat.le_trans (Txt.slice_le z none (some j)) hz, fun t' k => ⟨.str (Txt.slice z none (some j)), H, I.tok k, ⟨t', rfl⟩, q⟩⟩)
 | int i ui =>
  cases pu with
  | none => exact wpAny_getItem_str_slice (l := some (i, ui)) (u := none) (st := none) ⟨o, ho, hc, hd⟩ rfl (post_val_or_str ⟨Nat.le_trans (Txt.slice_le z (some i) none) hz, fun t' k => ⟨.str (Txt.slice z (some i) none), H, I.tok k, ⟨t', rfl⟩, q⟩⟩)
  | int j uj => exact wpAny_getItem_str_slice (l := some (i, ui)) (u := some (j, uj)) (st := none) ⟨o, ho, hc, hd⟩ rfl (post_val_or_str ⟨Nat.le_trans (Txt.slice_le z (some i) (some j)) hz, fun t' k => ⟨.str (Txt.slice z (some i) (some j)), H, I.tok k, ⟨t', rfl⟩, q⟩⟩)
def rSl (K : PySem.W.Frag) : V → Option Int → Option Int → Hp → VK → Prop := fun x lo hi H Q => rSlL K x lo hi H Q ∨ rSlS x lo hi H Q
theorem tqN : SlR X (rSl X.K) := rq2.or tq3
def rIndex : V → List V → Hp → VK → Prop := fun x vs H Q => match x, vs with
 | .str z, [.str y] => ∃ i r, Builtin.Str.occurrences z y 0 z.length 1 = i :: r ∧ Q (.int (i : Nat)) H
 | _, _ => False
theorem pqT {z y : Str} {H : Hp} {Q : VK} : (rIndex (.str z) [.str y] H Q) = (∃ i r, Builtin.Str.occurrences z y 0 z.length 1 = i :: r ∧ Q (.int (i : Nat)) H) := rfl
theorem mqP : MtR X "str.index" rIndex := by
 intro pins s σ H x vs v us Q I rx rv h
 unfold rIndex at h
 split at h
 rotate_left
 ·exact h.elim
 rename_i z y
 obtain ⟨i, r, ho, q⟩ := h
 obtain ⟨t, rfl⟩ := rx
 obtain ⟨u, rfl, t', rfl⟩ := vals1 rv
 exact SC.index ho ⟨.int (i : Nat), H, I.tok _, ⟨_, rfl⟩, q⟩
theorem notTooLong {n : Nat} (h : n ≤ 1000000) : Builtin.Str.tooLong n = false := by
 unfold Builtin.Str.tooLong
 rw [sizeLine_eq]
 exact decide_eq_false (by lia)
def rUpper : V → List V → Hp → VK → Prop := fun x vs H Q => match x, vs with
 | .str z, [] => (∀ c ∈ z.cps.toList, c < 128) ∧ z.length ≤ 1000000 ∧ Q (.str ⟨z.cps.map up1⟩) H
 | _, _ => False
theorem tqR {z : Str} {H : Hp} {Q : VK} : (rUpper (.str z) [] H Q) = ((∀ c ∈ z.cps.toList, c < 128) ∧ z.length ≤ 1000000 ∧ Q (.str ⟨z.cps.map up1⟩) H) := rfl
def rLower : V → List V → Hp → VK → Prop := fun x vs H Q => match x, vs with
 | .str z, [] => (∀ c ∈ z.cps.toList, c < 128) ∧ z.length ≤ 1000000 ∧ Q (.str ⟨z.cps.map lo1⟩) H
 | _, _ => False
theorem uqp {z : Str} {H : Hp} {Q : VK} : (rLower (.str z) [] H Q) = ((∀ c ∈ z.cps.toList, c < 128) ∧ z.length ≤ 1000000 ∧ Q (.str ⟨z.cps.map lo1⟩) H) := rfl
theorem mqY : MtR X "str.lower" rLower := by
 intro pins s σ H x vs v us Q I rx rv h
 unfold rLower at h
 split at h
 rotate_left
 ·exact h.elim
 rename_i z
 obtain ⟨ha, hz, q⟩ := h
 obtain ⟨t, rfl⟩ := rx
 cases rv
 have e := lower_ascii ha
 refine SC.lower ?_ ⟨.str ⟨z.cps.map lo1⟩, H, I.tok _, ⟨_, by rw [e]⟩, q⟩
 rw [e]
 exact notTooLong (by show (z.cps.map lo1).size ≤ _; rw [Array.size_map]; exact hz)
def rAlnum : V → List V → Hp → VK → Prop := fun x vs H Q => match x, vs with
 | .str z, [] => Q (.bl (Txt.isalnum z)) H
 | _, _ => False
theorem uqW {z : Str} {H : Hp} {Q : VK} : (rAlnum (.str z) [] H Q) = (Q (.bl (Txt.isalnum z)) H) := rfl
theorem nqx {ys : List Str} : ∀ {us : List Value}, Vals (ys.map V.str) us → StrsAre us ys := by
 induction ys with
 | nil => intro us r; rw [List.map_nil] at r; cases r; exact .nil
 | cons y ys ih =>
  intro us r
  rw [List.map_cons] at r
  cases r with
  | cons r1 r2 =>
   obtain ⟨t, e⟩ := r1
   subst e
   exact .cons y t (ih r2)
def rJoin (K : PySem.W.Frag) : V → List V → Hp → VK → Prop := fun x vs H Q => ∃ z p ys, x = .str z ∧ vs = [.ref p] ∧ SqL K H p (ys.map V.str) ∧ (ys.map (·.length)).sum + ys.length * z.length ≤ 16777216 ∧ Q (.str (Txt.join z ys)) H
theorem tqh : MtR X "str.join" (rJoin X.K) := by
 intro pins s σ H x vs v us Q I rx rv h
 obtain ⟨z, p, ys, rfl, rfl, hq, hz, q⟩ := h
 obtain ⟨t, rfl⟩ := rx
 obtain ⟨u, rfl, ru⟩ := vals1 rv
 cases ru
 obtain ⟨its, r, pl, hl⟩ := I.list hq
 exact join_list pl.isList (by simpa using nqx r) hz fun t' k => ⟨.str (Txt.join z ys), H, I.tok k, ⟨t', rfl⟩, q⟩
def rIsi (K : PySem.W.Frag) : List V → Hp → VK → Prop := fun vs H Q => ∃ x T t b, vs = [x, .ty T] ∧ TyOf K H x t ∧ PySem.W.kitOne K t (.type T) = some b ∧ Q (.bl b) H
theorem mq2 : CallR X (.builtin "isinstance") (rIsi X.K) := by
 intro pins s σ H xs us Q I r h
 obtain ⟨x, T, t, b, rfl, ty, e, q⟩ := h
 obtain ⟨u, v, rfl, ru, rv⟩ := vals2 r
 cases (show v = Value.type T from rv)
 exact pqf I ru ty e fun tk => ⟨.bl b, H, I.tok tk, rfl, q⟩
def rCatD : R2 := fun x y H Q => ∃ a b xs ys, x = .ref a ∧ y = .ref b ∧ H a = some (.tup xs) ∧ H b = some (.tup ys) ∧ xs.length + ys.length ≤ sizeLine ∧ ∀ p H', Same H H' → H' p = some (.tup (xs ++ ys)) → Q (.ref p) H'
theorem tqi : OpR X (binaryOp .Add) rCatD := by
 intro pins s σ H x y v u Q I rx ry h
 obtain ⟨a, b, xs, ys, rfl, rfl, ha, hb, hz, q⟩ := h
 by_cases hx : xs = []
 ·subst hx
  cases rx
  cases ry
  obtain ⟨its, r1, p1, _⟩ := I.tuple (SqT.of ha)
  obtain ⟨its2, r2, p2, _⟩ := I.tuple (SqT.of hb)
  cases r1
  obtain ⟨⟨cls, dd, data, sl⟩, ho, hc, n, hd⟩ := id p1
  obtain ⟨⟨cls2, dd2, data2, sl2⟩, ho2, hc2, n2, hd2⟩ := id p2
  simp only at hc hd hc2 hd2
  subst hc hd hc2 hd2
  exact concat_meets ⟨_, ho, rfl⟩ ⟨_, ho2, rfl⟩ noFill_tuple_add seq_tuple_add PySem.F.slot_tuple_add PySem.F.entry_tuple_add (PySem.F.args_tuple_add_2 _ _)
   (tuple_addW0 a b ([] : List Value).toArray its2.toArray n n2 dd dd2 sl sl2 rfl) ⟨ho, ho2, ⟨.ref b, H, I, rfl, q b H (Same.refl _) hb⟩⟩
 ·refine pqM pins s σ H _ _ v u Q I rx ry ⟨a, b, xs, ys, rfl, rfl, SqT.of ha, SqT.of hb, hx, hz, fun e => q a H (Same.refl _) (by rw [e, List.append_nil]; exact ha), fun _ p hp => q p _ (fun b o e => by rw [aqt (aqq e hp)]; exact e) aqh⟩
def rAddU (K : PySem.W.Frag) : R2 := fun x y H Q => match x, y with
 | .int i, .int j => Q (.int (i + j)) H
 | .str i, .str j => i.length + j.length ≤ sizeLine ∧ Q (.str (i ++ j)) H
 | .ref a, .ref b => (∃ xs zs, H a = some (.lst xs) ∧ H b = some (.lst zs) ∧ xs.length + zs.length ≤ sizeLine ∧ ∀ p, H p = none → Q (.ref p) (upd H p (.lst (xs ++ zs)))) ∨
   (∃ xs ys, H a = some (.tup xs) ∧ H b = some (.tup ys) ∧ xs.length + ys.length ≤ sizeLine ∧ ∀ p H', Same H H' → H' p = some (.tup (xs ++ ys)) → Q (.ref p) H')
 | _, _ => False
theorem pqA : OpR X (binaryOp .Add) (rAddU X.K) := by
 intro pins s σ H x y v u Q I rx ry h
 cases x with
 | int i =>
  cases y with
  | int j => exact uqM pins s σ H _ _ v u Q I rx ry ⟨i, j, rfl, rfl, h⟩
  | _ => exact h.elim
 | str i =>
  cases y with
  | str j => exact nqo pins s σ H _ _ v u Q I rx ry ⟨i, j, rfl, rfl, h.1, h.2⟩
  | _ => exact h.elim
 | ref a =>
  cases y with
  | ref b =>
   rcases h with ⟨xs, zs, h1, h2, h3, h4⟩ | ⟨xs, ys, h1, h2, h3, h4⟩
   ·exact tq6 pins s σ H _ _ v u Q I rx ry ⟨a, b, xs, zs, rfl, rfl, h1, h2, h3, h4⟩
   ·exact tqi pins s σ H _ _ v u Q I rx ry ⟨a, b, xs, ys, rfl, rfl, h1, h2, h3, h4⟩
  | _ => exact h.elim
 | _ => exact h.elim
theorem uqo {K : PySem.W.Frag} {i j : Int} {H : Hp} {Q : VK} : (rAddU K (.int i) (.int j) H Q) = (Q (.int (i + j)) H) := rfl
theorem uq4 {K : PySem.W.Frag} {i j : Str} {H : Hp} {Q : VK} : (rAddU K (.str i) (.str j) H Q) = (i.length + j.length ≤ sizeLine ∧ Q (.str (i ++ j)) H) := rfl
end
section
variable {X : Cx}
def rMulU : R2 := fun x y H Q => match x, y with
 | .int i, .int j => CMul i j ∧ Q (.int (i * j)) H
 | .str z, .int k => MulOk z k ∧ Q (.str (Txt.mul z k)) H
 | _, _ => False
theorem dq8 : OpR X (binaryOp .Mult) rMulU := by
 intro pins s σ H x y v u Q I rx ry h
 cases x with
 | int i =>
  cases y with
  | int j => exact uqr pins s σ H _ _ v u Q I rx ry ⟨i, j, rfl, rfl, h.1, h.2⟩
  | _ => exact h.elim
 | str z =>
  cases y with
  | int k =>
   obtain ⟨t, rfl⟩ := rx
   obtain ⟨t', rfl⟩ := ry
   exact SB.mul h.1 fun t' k' => ⟨.str (Txt.mul z k), H, I.tok k', ⟨t', rfl⟩, h.2⟩
  | _ => exact h.elim
 | _ => exact h.elim
theorem uqV {i j : Int} {H : Hp} {Q : VK} : (rMulU (.int i) (.int j) H Q) = (CMul i j ∧ Q (.int (i * j)) H) := rfl
theorem tqY {z : Str} {k : Int} {H : Hp} {Q : VK} : (rMulU (.str z) (.int k) H Q) = (MulOk z k ∧ Q (.str (Txt.mul z k)) H) := rfl
def rLenU (K : PySem.W.Frag) : List V → Hp → VK → Prop := fun xs H Q => match xs with
 | [.str z] => z.length ≤ sizeLine ∧ Q (.int z.length) H
 | [.ref p] => ∃ ys, (SqL K H p ys ∨ SqT K H p ys) ∧ Q (.int ys.length) H
 | _ => False
theorem oqR : CallR X (.builtin "len") (rLenU X.K) := by
 intro pins s σ H xs us Q I r h
 unfold rLenU at h
 split at h
 ·exact lqo pins s σ H _ us Q I r ⟨_, rfl, h.1, h.2⟩
 ·obtain ⟨ys, h1, h2⟩ := h
  exact kq1 pins s σ H _ us Q I r ⟨_, ys, rfl, h1, h2⟩
 ·exact h.elim
theorem uqs {K : PySem.W.Frag} {z : Str} {H : Hp} {Q : VK} : (rLenU K [.str z] H Q) = (z.length ≤ sizeLine ∧ Q (.int z.length) H) := rfl
theorem uqF {K : PySem.W.Frag} {p : Addr} {H : Hp} {Q : VK} : (rLenU K [.ref p] H Q) = (∃ ys, (SqL K H p ys ∨ SqT K H p ys) ∧ Q (.int ys.length) H) := rfl
def rOrdU : List V → Hp → VK → Prop := fun xs H Q => match xs with
 | [.str z] => z.length = 1 ∧ Q (.int (z.cps.getD 0 0 : Nat)) H
 | _ => False
theorem pqF : CallR X (.builtin "ord") rOrdU := by
 intro pins s σ H xs us Q I r h
 unfold rOrdU at h
 split at h
 ·exact pq8 pins s σ H _ us Q I r ⟨_, rfl, h.1, h.2⟩
 ·exact h.elim
theorem uql {c : Nat} {H : Hp} {Q : VK} : rOrdU [.str ⟨#[c]⟩] H Q ↔ Q (.int (c : Nat)) H := ⟨fun h => h.2, fun h => ⟨rfl, h⟩⟩
theorem oqC : bootBuiltins "int" = some (.type "int") := by decide +kernel
theorem lqE : bootBuiltins "str" = some (.type "str") := by decide +kernel
theorem gqf : bootBuiltins "tuple" = some (.type "tuple") := by decide +kernel
theorem pqY : bootBuiltins "ord" = some (.builtin "ord") := by decide +kernel
theorem aqA : bootBuiltins "isinstance" = some (.builtin "isinstance") := by decide +kernel
def rIntU : List V → Hp → VK → Prop := fun xs H Q => match xs with
 | [.int i] => Q (.int i) H
 | [.bl k] => Q (.int (if k then 1 else 0)) H
 | _ => False
theorem oq8 : CallR X (.type "int") rIntU := by
 intro pins s σ H xs us Q I r h
 unfold rIntU at h
 split at h
 ·exact kqF pins s σ H _ us Q I r (.inl ⟨_, rfl, h⟩)
 ·exact kqF pins s σ H _ us Q I r (.inr ⟨_, rfl, h⟩)
 ·exact h.elim
theorem vqv {k : Bool} {H : Hp} {Q : VK} : (rIntU [.bl k] H Q) = (Q (.int (if k then 1 else 0)) H) := rfl
def rInU : R2 := fun x y H Q => match x, y with
 | .str i, .str j => Q (.bl (!(Builtin.Str.occurrences j i 0 j.length 1).isEmpty)) H
 | _, _ => False
theorem kqW : OpR X (compareOp .In) rInU := by
 intro pins s σ H x y v u Q I rx ry h
 cases x with
 | str i =>
  cases y with
  | str j => exact oqA pins s σ H _ _ v u Q I rx ry ⟨i, j, rfl, rfl, h⟩
  | _ => exact h.elim
 | _ => exact h.elim
def rNotInU : R2 := fun x y H Q => match x, y with
 | .str i, .str j => Q (.bl (!(!(Builtin.Str.occurrences j i 0 j.length 1).isEmpty))) H
 | _, _ => False
theorem uqj {c : Nat} {j : Str} {H : Hp} {Q : VK} : rInU (.str ⟨#[c]⟩) (.str j) H Q ↔ Q (.bl (decide (c ∈ j.cps.toList))) H := by
 show Q (.bl (!(Builtin.Str.occurrences j ⟨#[c]⟩ 0 j.length 1).isEmpty)) H ↔ _
 rw [StrLaws.found_one]
theorem pqj {c : Nat} {j : Str} {H : Hp} {Q : VK} : rNotInU (.str ⟨#[c]⟩) (.str j) H Q ↔ Q (.bl (!decide (c ∈ j.cps.toList))) H := by
 show Q (.bl (!(!(Builtin.Str.occurrences j ⟨#[c]⟩ 0 j.length 1).isEmpty))) H ↔ _
 rw [StrLaws.found_one]
def rIsN (neg : Bool) : R2 := fun x y H Q => y = .non ∧ Q (.bl (if neg then !decide (x = .non) else decide (x = .non))) H
theorem cqu : OpR X (compareOp .Is) (rIsN false) := fun pins s σ H x y v u Q I rx ry h => uqf pins s σ H x y v u Q I rx ry h
theorem jqU : OpR X (compareOp .IsNot) (rIsN true) := fun pins s σ H x y v u Q I rx ry h => sqt pins s σ H x y v u Q I rx ry h
theorem vqn {x : V} {H : Hp} {Q : VK} : rIsN false x .non H Q ↔ Q (.bl (decide (x = .non))) H := ⟨fun h => h.2, fun h => ⟨rfl, h⟩⟩
theorem vqF {x : V} {H : Hp} {Q : VK} : rIsN true x .non H Q ↔ Q (.bl (!decide (x = .non))) H := ⟨fun h => h.2, fun h => ⟨rfl, h⟩⟩
def kindV (x : V) (H : Hp) : Option String := match x with
 | .non => some "NoneType"
 | .bl _ => some "bool"
 | .int _ => some "int"
 | .str _ => some "str"
 | .ref a => match H a with
  | some (.lst _) => some "list"
  | some (.tup _) => some "tuple"
  | some (.dK _) => some "dict"
  | _ => none
 | _ => none
def subT (a b : String) : Bool := a == b || (a == "bool" && b == "int")
theorem jqP (K : PySem.W.Frag) : ∀ a ∈ ["NoneType", "bool", "int", "str", "list", "tuple", "dict"], ∀ b ∈ ["bool", "int", "str", "list", "tuple"], PySem.W.kitOne K (.type a) (.type b) = some (subT a b) := by
 intro a ha b hb
 simp only [List.mem_cons, List.not_mem_nil, or_false] at ha hb
 rcases ha with rfl | rfl | rfl | rfl | rfl | rfl | rfl <;> rcases hb with rfl | rfl | rfl | rfl | rfl <;> with_unfolding_all kernel_rfl
def rIsiU : List V → Hp → VK → Prop := fun vs H Q => match vs with
 | [x, .ty T] => ∃ k, kindV x H = some k ∧ T ∈ ["bool", "int", "str", "list", "tuple"] ∧ Q (.bl (subT k T)) H
 | _ => False
theorem iqQ : CallR X (.builtin "isinstance") rIsiU := by
 intro pins s σ H xs us Q I r h
 unfold rIsiU at h
 split at h
 ·rename_i x T
  obtain ⟨k, hk, hT, q⟩ := h
  have key : TyOf X.K H x (.type k) ∧ k ∈ ["NoneType", "bool", "int", "str", "list", "tuple", "dict"] := by
   unfold kindV at hk
   split at hk
   ·cases hk; exact ⟨.non, by decide⟩
   ·cases hk; exact ⟨.bl _, by decide⟩
   ·cases hk; exact ⟨.int _, by decide⟩
   ·cases hk; exact ⟨.str _, by decide⟩
   ·split at hk
    ·rename_i e; cases hk; exact ⟨.lst e, by decide⟩
    ·rename_i e; cases hk; exact ⟨.tup e, by decide⟩
    ·rename_i e; cases hk; exact ⟨.dK e, by decide⟩
    ·cases hk
   ·cases hk
  exact mq2 pins s σ H _ us Q I r ⟨x, T, .type k, subT k T, rfl, key.1, jqP X.K k key.2 T hT, q⟩
 ·exact h.elim
end
section
variable {σ : St} {H : Hp} {Q : VK} {D : Ends} {K : PySem.W.Frag} {ta tb te : TE} {tt tu : TT} {t u : TS} {aa ab : TA} {v x y : V} {r r' : R2}
theorem vqf {i : Nat} : (tVar i σ H Q) = (∃ v, σ[i]? = some (some v) ∧ Q v H) := rfl
theorem rd_C : (tC v σ H Q) = (Q v H) := rfl
theorem pqy : (tSeq t u D σ H) = (t { D with nx := u D } σ H) := rfl
theorem tq2 {g : TG} : (tAsg te g D σ H) = (te σ H fun x H1 => g x σ H1 D.nx) := rfl
theorem tql {i : Nat} {R : St → Hp → Prop} : (gName i v σ H R) = (R (σ.set i (some v)) H) := rfl
theorem uqe : (tIfS tt t u D σ H) = (tt σ H fun b H1 => if b = true then t D σ H1 else u D σ H1) := rfl
theorem sqj : (tNext D σ H) = (D.nx σ H) := rfl
theorem tqI : (tBreak D σ H) = (D.bk σ H) := rfl
theorem uqG : (tRet te D σ H) = (te σ H D.rt) := rfl
theorem squ : (tDrop te D σ H) = (te σ H fun _ H1 => D.nx σ H1) := rfl
theorem vqu : (tOp r ta tb σ H Q) = (ta σ H fun x H1 => tb σ H1 fun y H2 => r x y H2 Q) := rfl
theorem tqb {R : Bool → Hp → Prop} : (tTest te σ H R) = (te σ H fun x H' => ∃ k, x = .bl k ∧ R k H') := rfl
theorem rd_B {R : Bool → Hp → Prop} : (tB te σ H R) = (te σ H fun x H' => ∃ k, x = .bl k ∧ R k H') := rfl
theorem uqH {R : Bool → Hp → Prop} : (tAnd tt tu σ H R) = (tt σ H fun c H1 => if c = true then tu σ H1 R else R false H1) := rfl
theorem vqG {R : Bool → Hp → Prop} : (tOr tt tu σ H R) = (tt σ H fun c H1 => if c = true then R true H1 else tu σ H1 R) := rfl
theorem tq0 {R : Bool → Hp → Prop} : (tNot tt σ H R) = (tt σ H fun c H1 => R (!c) H1) := rfl
theorem sqS : (tAndV ta tb σ H Q) = (ta σ H fun x H1 => ∃ c, x = .bl c ∧ if c = true then tb σ H1 Q else Q (.bl false) H1) := rfl
theorem uqU : (tOrV ta tb σ H Q) = (ta σ H fun x H1 => ∃ c, x = .bl c ∧ if c = true then Q (.bl true) H1 else tb σ H1 Q) := rfl
theorem sqa : (tNotV ta σ H Q) = (ta σ H fun x H1 => ∃ c, x = .bl c ∧ Q (.bl (!c)) H1) := rfl
theorem vqs : (tIf tt ta tb σ H Q) = (tt σ H fun c H1 => if c = true then ta σ H1 Q else tb σ H1 Q) := rfl
theorem qqP {tc : TE} : (tChain r r' ta tb tc σ H Q) = (ta σ H fun x H1 => tb σ H1 fun y H2 => r x y H2 fun z H3 => ∃ k, z = .bl k ∧ (if k = true then tc σ H3 fun w' H4 => r' y w' H4 Q else Q (.bl false) H3)) := rfl
theorem uqS {R : List V → Hp → Prop} : (tNil σ H R) = (R [] H) := rfl
theorem rq4 {R : List V → Hp → Prop} : (tCons te aa σ H R) = (te σ H fun x H1 => aa σ H1 fun xs H2 => R (x :: xs) H2) := rfl
theorem uq9 : (tLst aa σ H Q) = (aa σ H fun xs H1 => xs.length ≤ sizeLine ∧ ∀ p, H1 p = none → Q (.ref p) (upd H1 p (.lst xs))) := rfl
theorem tq5 : (tTup aa σ H Q) = (aa σ H fun xs H1 => xs.length ≤ sizeLine ∧ ∀ p, H1 p = none → Q (.ref p) (upd H1 p (.tup xs))) := rfl
theorem tqp {sp : Sp} {dvs : List V} {E : XK} : (tCall sp dvs E aa σ H Q) = (aa σ H fun vs H1 => sp (vs ++ dvs) H1 Q E) := rfl
theorem vqt {c : List V → Hp → VK → Prop} : (tCB c aa σ H Q) = (aa σ H fun vs H1 => c vs H1 Q) := rfl
theorem vqz {T : String} {m : V → List V → Hp → VK → Prop} : (tBM K T m te aa σ H Q) = (te σ H fun x H1 => tyV K T x H1 ∧ aa σ H1 fun xs H2 => m x xs H2 Q) := rfl
theorem uqa {T : String} {m : V → List V → Hp → VK → Prop} : (tBM0 K T m te σ H Q) = (te σ H fun x H1 => tyV K T x H1 ∧ m x [] H1 Q) := rfl
theorem vqq {m : V → Option Int → Option Int → Hp → VK → Prop} {tl th : TO} : (tSl m te tl th σ H Q) = (te σ H fun x H1 => tl σ H1 fun l H2 => th σ H2 fun u H3 => m x l u H3 Q) := rfl
theorem oqj {R : Option Int → Hp → Prop} : (tNoPart σ H R) = (R none H) := rfl
theorem sqT {R : Option Int → Hp → Prop} : (tPart te σ H R) = (te σ H fun x H1 => ∃ i, x = .int i ∧ R (some i) H1) := rfl
theorem pq2 {z : Str} : tyV K "str" (.str z) H ↔ True := ⟨fun _ => trivial, fun _ => rfl⟩
theorem rd_I {C : Int → Int → Prop} {g : Int → Int → V} {i j : Int} : rI C g (.int i) (.int j) H Q ↔ C i j ∧ Q (g i j) H :=
 ⟨fun ⟨_, _, h1, h2, h3⟩ => by cases h1; cases h2; exact h3, fun h => ⟨i, j, rfl, rfl, h⟩⟩
theorem vqr {g : Int → Int → V} {i j : Int} : rI0 g (.int i) (.int j) H Q ↔ Q (g i j) H :=
 ⟨fun ⟨_, _, h1, h2, h3⟩ => by cases h1; cases h2; exact h3, fun h => ⟨i, j, rfl, rfl, h⟩⟩
theorem tqB {i j : Int} : rEq (.int i) (.int j) H Q ↔ Q (.bl (decide (i = j))) H := by
 unfold rEq scal; simp only [true_and, V.int.injEq]
theorem kqa {i j : Str} : rEq (.str i) (.str j) H Q ↔ Q (.bl (decide (i = j))) H := by
 unfold rEq scal; simp only [true_and, V.str.injEq]
theorem sqK {i j : Bool} : rEq (.bl i) (.bl j) H Q ↔ Q (.bl (decide (i = j))) H := by
 unfold rEq scal; simp only [true_and, V.bl.injEq]
theorem rqR {i j : Int} : rNe (.int i) (.int j) H Q ↔ Q (.bl (!decide (i = j))) H := by
 unfold rNe scal; simp only [true_and, V.int.injEq]
theorem sq5 {i j : Str} : rNe (.str i) (.str j) H Q ↔ Q (.bl (!decide (i = j))) H := by
 unfold rNe scal; simp only [true_and, V.str.injEq]
theorem tqf {i j : Bool} : rNe (.bl i) (.bl j) H Q ↔ Q (.bl (!decide (i = j))) H := by
 unfold rNe scal; simp only [true_and, V.bl.injEq]
theorem sq7 : rNe .non .non H Q ↔ Q (.bl false) H := ⟨fun h => h.2, fun h => ⟨rfl, h⟩⟩
theorem tqg {i : Str} : rNe (.str i) .non H Q ↔ Q (.bl true) H := ⟨fun h => h.2, fun h => ⟨rfl, h⟩⟩
theorem qq3 {i : Str} : rNe .non (.str i) H Q ↔ Q (.bl true) H := ⟨fun h => h.2, fun h => ⟨rfl, h⟩⟩
theorem sqP : rEq .non .non H Q ↔ Q (.bl true) H := ⟨fun h => h.2, fun h => ⟨rfl, h⟩⟩
theorem tqa {i : Str} : rEq (.str i) .non H Q ↔ Q (.bl false) H := ⟨fun h => h.2, fun h => ⟨rfl, h⟩⟩
theorem qqv {i : Str} : rEq .non (.str i) H Q ↔ Q (.bl false) H := ⟨fun h => h.2, fun h => ⟨rfl, h⟩⟩
theorem uq1 {z : Str} {i : Int} : rIx K (.str z) (.int i) H Q ↔ ∃ c, z.length ≤ sizeLine ∧ atI z.cps.toList i = some c ∧ Q (.str ⟨#[c]⟩) H := by
 constructor
 ·rintro (⟨p, xs, j, v, h, _⟩ | ⟨p, xs, j, v, h, _⟩ | ⟨z', j, c, h1, h2, h3, h4, h5⟩)
  ·cases h
  ·cases h
  ·cases h1; cases h2; exact ⟨c, h3, h4, h5⟩
 ·rintro ⟨c, h3, h4, h5⟩
  exact .inr (.inr ⟨z, i, c, rfl, rfl, h3, h4, h5⟩)
theorem tqL {z : Str} {lo hi : Option Int} : rSl K (.str z) lo hi H Q ↔ z.length ≤ sizeLine ∧ Q (.str (Txt.slice z lo hi)) H := by
 constructor
 ·rintro (⟨a, xs, h, _⟩ | ⟨z', h1, h2, h3⟩)
  ·cases h
  ·cases h1; exact ⟨h2, h3⟩
 ·rintro ⟨h2, h3⟩
  exact .inr ⟨z, rfl, h2, h3⟩
end
section
variable {σ : St} {H : Hp} {Q : VK} {K : PySem.W.Frag}
theorem uqv {a : Addr} {lo hi : Option Int} : rSl K (.ref a) lo hi H Q ↔ ∃ xs, SqL K H a xs ∧ ∀ p, H p = none → Q (.ref p) (upd H p (.lst (cutV xs lo hi))) := by
 constructor
 ·rintro (⟨a', xs, h, h2⟩ | ⟨z', h1, _⟩)
  ·cases h; exact ⟨xs, h2⟩
  ·cases h1
 ·rintro ⟨xs, h2⟩
  exact .inl ⟨a, xs, rfl, h2⟩
theorem vqg {p : Addr} {i : Int} : rIx K (.ref p) (.int i) H Q ↔ ∃ xs v, (SqL K H p xs ∨ SqT K H p xs) ∧ atI xs i = some v ∧ Q v H := by
 constructor
 ·rintro (⟨p', xs, j, v, h, h2, h3, h4⟩ | ⟨p', xs, j, v, h, h2, h3, h4⟩ | ⟨z', j, c, h1, _⟩)
  ·cases h; cases h2; exact ⟨xs, v, .inl h3, h4⟩
  ·cases h; cases h2; exact ⟨xs, v, .inr h3, h4⟩
  ·cases h1
 ·rintro ⟨xs, v, h | h, h2⟩
  ·exact .inl ⟨p, xs, i, v, rfl, rfl, h, h2⟩
  ·exact .inr (.inl ⟨p, xs, i, v, rfl, rfl, h, h2⟩)
theorem tq8 {a b : Addr} : rAddU K (.ref a) (.ref b) H Q ↔ (∃ xs zs, H a = some (.lst xs) ∧ H b = some (.lst zs) ∧ xs.length + zs.length ≤ sizeLine ∧ ∀ p, H p = none → Q (.ref p) (upd H p (.lst (xs ++ zs)))) ∨
   (∃ xs ys, H a = some (.tup xs) ∧ H b = some (.tup ys) ∧ xs.length + ys.length ≤ sizeLine ∧ ∀ p H', Same H H' → H' p = some (.tup (xs ++ ys)) → Q (.ref p) H') := Iff.rfl
theorem cx_K {CX : CXT} {P : Program} {w : World} {mg : Str → Option Value} {base : Heap} {N : List Str} {qual : Str} {scope : Scope} {f : Addr} {cd : Value} {A : Around} {outer : List Env} {s : Shared} {E : XK} :
  (cxOf CX P w K mg base N qual scope f cd A outer s H E).K = K := rfl
end
def LoopI (J : It) (g : TG) (tb : TS) (D : Ends) (σ : St) (H : Hp) : Prop := ∃ W : Nat → Nat → St → Hp → Prop, (∃ m, W 0 m σ H) ∧ ∀ i m σ H, W i m σ H →
 (J.stop i H ∧ D.nx σ H) ∨ (J.go i H ∧ ∃ N : St → Hp → Prop, (∀ σ' H', N σ' H' → ∃ m', m' < m ∧ W (i + 1) m' σ' H') ∧ ∀ x H', J.yld i H x H' → g x σ H' fun σ2 H2 => tb { D with nx := N, ct := N, bk := D.nx } σ2 H2)
section
variable {σ : St} {H : Hp} {D : Ends} {K : PySem.W.Frag} {te : TE} {g : TG} {tb : TS} {aa : TA}
theorem sqm : (tFor (iStr te) g tb D σ H) = (te σ H fun x H1 => ∃ z, x = .str z ∧ LoopI (Its z) g tb D σ H1) := rfl
theorem sqc : (tFor (iList K te) g tb D σ H) = (te σ H fun x H1 => ∃ a, x = .ref a ∧ (∃ xs, SqL K H1 a xs) ∧ LoopI (Itl K a) g tb D σ H1) := rfl
theorem sq1 : (tFor (iRng1 aa) g tb D σ H) = (aa σ H fun vs H1 => ∃ j : Int, vs = [.int j] ∧ -(2 ^ 62) ≤ j ∧ j < 2 ^ 62 ∧ LoopI (Itr 0 j.toNat) g tb D σ H1) := rfl
theorem dqJ {lo : Int} {n : Nat} (Pv : Nat → St → Hp → Prop) (h0 : Pv 0 σ H)
  (hs : ∀ i σ H, i < n → Pv i σ H → g (.int (lo + i)) σ H fun σ2 H2 => tb { D with nx := Pv (i + 1), ct := Pv (i + 1), bk := D.nx } σ2 H2) (hd : ∀ σ H, Pv n σ H → D.nx σ H) : LoopI (Itr lo n) g tb D σ H := pqs Pv h0 hs hd
end
section
variable {prog : Program} {w : World} {A : Around} {R : Result → Shared → Prop} {s : Shared}
theorem gq3 {elt target iter : Expr} {ifs : List Expr} {scope : Scope} {pos : Pos} {it acc : Value} {env : Env} (I : Nat → Shared → Prop)
  (turn : ∀ n s, I n s → wpAny (model prog w) A (pyNext it) (fun r s₁ => match r with
   | none => R (.ok .next) s₁
   | some v => wpAny (model prog w) A (letOwnedTupleGo target it v) (fun _ s₁' => wpAny (model prog w) A (assign target env v) (fun _ s₂ =>
     wpAny (model prog w) A (forIn ifs true fun c r => if r = true then do let ok ← isTrue c env (eval c env); pure (ForInStep.yield ok) else pure (ForInStep.yield r)) (fun ok s₃ =>
      if ok = true then wpAny (model prog w) A (eval elt env) (fun x s₄ =>
       wpAny (model prog w) A (call (.builtin "list.append") [acc, x]) (fun _ s₅ => ∃ m, m < n ∧ I m s₅) (fun _ _ => False) s₄) (fun _ _ => False) s₃
      else ∃ m, m < n ∧ I m s₃) (fun _ _ => False) s₂) (fun _ _ => False) s₁') (fun _ _ => False) s₁) (fun _ _ => False) s)
  (n : Nat) (h : I n s) : codeAny (model prog w) A (.compLoop (.ListComp elt [⟨target, iter, ifs, 0⟩] scope pos) 0 it acc env) R s := by
 refine codeAny_loop rfl I (fun n s hI => ?_) n h
 show wpAny _ A ((compTurn (.ListComp elt [⟨target, iter, ifs, 0⟩] scope pos) 0 it acc env).onRaise (fun x => do noteFrame x env; theTreesLotGoes x)) _ _ s
 refine wpAny_noted ?_
 rw [compTurn_list]
 refine wpAny_bind (wpAny_standAt (wpAny_bind (wpAny_mono (turn n s hI) (fun r s₁ h₁ => ?_) fun _ _ h' => h'.elim)))
 cases r with
 | none => exact wpAny_pure h₁
 | some v =>
  refine wpAny_bind (wpAny_mono h₁ (fun _ s₁' h₁' => wpAny_bind (wpAny_mono h₁' (fun _ s₂ h₂ => wpAny_bind (wpAny_mono h₂ (fun ok s₃ h₃ => ?_) fun _ _ h' => h'.elim)) fun _ _ h' => h'.elim)) fun _ _ h' => h'.elim)
  cases ok with
  | false => exact wpAny_pure ⟨rfl, h₃⟩
  | true =>
   exact wpAny_bind (wpAny_bind (wpAny_mono h₃ (fun x s₄ h₄ => wpAny_bind (wpAny_mono h₄ (fun _ s₅ h₅ => wpAny_pure (wpAny_pure ⟨rfl, h₅⟩)) fun _ _ h' => h'.elim)) fun _ _ h' => h'.elim))
end
def compCx (X : Cx) (N' : List Str) (scope : Scope) (cl : List (Str × Addr)) (s : Shared) (H : Hp) (fp : List Addr) : Cx :=
 { X with N := N', s₀ := s, H₀ := H, env := compEnvC scope cl s.heap.objs.size X.env, outer := X.stack, stack := X.stack, ex := fp, fn := fun _ => false, pn := [], xe := fun _ _ => False }
inductive Frees (X : Cx) (rs : Scope) (cl : List (Str × Addr)) : List Str → List Nat → Prop where
 | nil : Frees X rs cl [] []
 | cons {y : Str} {i : Nat} {fx : List Str} {fr : List Nat} (h1 : X.N[i]? = some y) (h2 : X.env.kindOf y = some .cell) (h3 : rs.names.lookup y = some .cell) (h4 : cl.lookup y = X.env.cells.lookup y) (r : Frees X rs cl fx fr) : Frees X rs cl (y :: fx) (i :: fr)
def frV (σ : St) (fr : List Nat) : St := fr.map fun i => (σ[i]?).getD none
theorem Frees.len {X : Cx} {rs : Scope} {cl : List (Str × Addr)} {fx : List Str} {fr : List Nat} (F : Frees X rs cl fx fr) : fr.length = fx.length := by
 induction F with
 | nil => rfl
 | cons _ _ _ _ _ ih => simp [ih]
theorem Frees.at {X : Cx} {rs : Scope} {cl : List (Str × Addr)} {σ : St} : ∀ {fx : List Str} {fr : List Nat}, Frees X rs cl fx fr → ∀ (j : Nat) (y : Str) (v : V), fx[j]? = some y → (frV σ fr)[j]? = some (some v) →
  ∃ i : Nat, X.N[i]? = some y ∧ σ[i]? = some (some v) ∧ X.env.kindOf y = some .cell ∧ rs.names.lookup y = some .cell ∧ cl.lookup y = X.env.cells.lookup y
 | _, _, .nil, j, y, v, h, _ => by simp at h
 | _, _, .cons (y := z) (i := i) h1 h2 h3 h4 r, 0, y, v, h, hv => by
  simp only [List.getElem?_cons_zero, Option.some.injEq] at h
  subst h
  simp only [frV, List.map_cons, List.getElem?_cons_zero, Option.some.injEq] at hv
  refine ⟨i, h1, ?_, h2, h3, h4⟩
  cases e : σ[i]? with
  | none => rw [e] at hv; cases hv
  | some o => rw [e] at hv; exact congrArg some hv
 | _, _, .cons h1 h2 h3 h4 r, j + 1, y, v, h, hv => by
  simp only [List.getElem?_cons_succ] at h
  simp only [frV, List.map_cons, List.getElem?_cons_succ] at hv
  exact r.at j y v h hv
theorem Frees.mem {X : Cx} {rs : Scope} {cl : List (Str × Addr)} : ∀ {fx : List Str} {fr : List Nat}, Frees X rs cl fx fr → ∀ y ∈ fx, X.env.kindOf y = some .cell ∧ cl.lookup y = X.env.cells.lookup y
 | _, _, .nil, y, h => by simp at h
 | _, _, .cons h1 h2 h3 h4 r, y, h => by
  rcases List.mem_cons.mp h with rfl | h
  ·exact ⟨h2, h4⟩
  ·exact r.mem y h
section
variable {X : Cx} {pins : List (Addr × Obj)} {σ : St} {H1 : Hp} {s3 : Shared} {x : Str} {fx : List Str} {fr : List Nat} {scope : Scope} {cl : List (Str × Addr)} {fp : List Addr}
theorem sqO (I : Inv X pins σ H1 s3) (hkind : scope.kind = .function) (hcl : ∀ y c, cl.lookup y = some c → X.env.cells.lookup y = some c)
  (F : Frees X (relabel scope X.env) cl fx fr) (hfx : ((relabel scope X.env).names.all fun p => if (p.2 == .cell || p.2 == .free) then fx.contains p.1 else true) = true)
  (ffp : ∀ b ∈ fp, FpOk X pins H1 b) (flt : ∀ b ∈ fp, b < s3.heap.objs.size) : (compCx X (x :: fx) scope cl s3 H1 fp).Ok where
 mod := I.ok.mod
 kind := hkind
 glob := I.ok.glob
 blt := I.ok.blt
 above := Nat.le_refl _
 inj := fun y z c h1 h2 => I.ok.inj y z c (hcl y c h1) (hcl z c h2)
 has := fun y h => by
  have h : (relabel scope X.env).names.lookup y = some .cell ∨ (relabel scope X.env).names.lookup y = some .free := h
  have key : y ∈ fx := by
   rcases h with h | h
   ·have q := List.all_eq_true.mp hfx _ (PySem.mem_of_lookup h)
    simpa using q
   ·have q := List.all_eq_true.mp hfx _ (PySem.mem_of_lookup h)
    simpa using q
  obtain ⟨k1, k2⟩ := F.mem y key
  obtain ⟨c, e⟩ := I.ok.has y (.inl k1)
  exact ⟨c, k2.trans e⟩
 cab := fun y c h => by cases (show false = true from h)
 hd := I.ok.hd
 frames := I.ok.frames
 stk := .inl rfl
 exf := fun b hb => ⟨Nat.ne_of_lt (flt b hb), fun y c e => (ffp b hb).2.2.2.2.1 y c (hcl y c e)⟩
 bs := I.bs
 bsz := Nat.le_trans I.ok.bsz I.sz
 noex := fun b o e hb => by
  rcases (ffp b hb).2.2.2.1 with z | z
  ·exact I.ok.noex b o e z
  ·exact absurd (Nat.lt_of_lt_of_le (Heap.lt_size (I.ok.bs b o e).1) z) (Nat.lt_irrefl _)
 exfs := fun b hb z => by
  rcases List.mem_cons.mp (I.stkSub b z) with q | q
  ·exact (ffp b hb).2.1 q
  ·exact (ffp b hb).2.2.1 q
 funs := I.stack
 frf := I.stkFree
theorem nqE (I : Inv X pins σ H1 s3) (hkind : scope.kind = .function) (hcl : ∀ y c, cl.lookup y = some c → X.env.cells.lookup y = some c)
  (F : Frees X (relabel scope X.env) cl fx fr) (hfx : ((relabel scope X.env).names.all fun p => if (p.2 == .cell || p.2 == .free) then fx.contains p.1 else true) = true)
  (ffp : ∀ b ∈ fp, FpOk X pins H1 b) (flt : ∀ b ∈ fp, b < s3.heap.objs.size) {h1 : Heap} {t : Nat} {m : Str → Option Value} (hn : h1.Ns s3.heap.objs.size m)
  (keep : ∀ b u, s3.heap.get? b = some u → h1.get? b = some u) : Inv (compCx X (x :: fx) scope cl s3 H1 fp) [] (none :: frV σ fr) H1 { s3 with heap := h1, toks := t } := by
 refine ⟨sqO I hkind hcl F hfx ffp flt, rfl, I.bare, Un.kept keep, ⟨m, hn, fun i y v e1 e2 e3 => ?_⟩, fun y c e => ?_, I.hok.fresh (Nat.le_refl _), fun y c e => I.freeC y c (hcl y c e), fun p hp => absurd (show p ∈ ([] : List (Addr × Obj)) from hp) (by simp), I.hok.kept keep, ?_⟩
 ·cases i with
  | zero => simp at e2
  | succ j =>
   obtain ⟨i0, k1, k2, k3, k4, k5⟩ := F.at (σ := σ) j y v (by simpa [compCx] using e1) (by simpa using e2)
   obtain ⟨m0, hn0, hl0⟩ := I.loc
   obtain ⟨u, r, l⟩ := hl0 i0 y v k1 k2 (.inr (.inl k3))
   refine ⟨u, r, ?_⟩
   rcases l with ⟨z, _⟩ | ⟨_, c, e, o, ho, hd⟩
   ·rw [k3] at z; cases z
   ·exact .inr ⟨.inl k4, c, k5.trans e, o, keep c o ho, hd⟩
 ·obtain ⟨v, o, ho, hd⟩ := I.cell y c (hcl y c e)
  exact ⟨v, o, keep c o ho, hd⟩
 ·show (none :: frV σ fr).length = (x :: fx).length
  simp [frV, F.len]
theorem kq2 {N' : List Str} {pins' : List (Addr × Obj)} {σ' : St} {H2 : Hp} {s' : Shared} {h' : Heap} (I : Inv X pins σ H1 s3) (J : Inv (compCx X N' scope cl s3 H1 fp) pins' σ' H2 s') (ffp : ∀ b ∈ fp, FpOk X pins H1 b)
  (sb : Heap.SameBut s3.heap.objs.size s'.heap h') : Inv X pins σ H2 { s' with heap := h' } := by
 have k : ∀ b u, b ≠ s3.heap.objs.size → s'.heap.get? b = some u → h'.get? b = some u := fun b u hb e => sb.extBut b u hb e
 have lt : ∀ b u, s3.heap.get? b = some u → b ≠ s3.heap.objs.size := fun b u e => Nat.ne_of_lt (Heap.lt_size e)
 have u : Un (frs X.stack) fp H1 H2 s3.heap s'.heap := J.base
 have u' : Un (frs X.stack) fp H1 H2 s3.heap h' :=
  ⟨fun b o q n hb hx => k b o (lt b o q) (u.keep b o q n hb hx), fun b o q n hb hx => by
    obtain ⟨sl, e⟩ := u.slot b o q n hb hx
    exact ⟨sl, k b _ (lt b o q) e⟩, u.free, fun b o q hx => by
    obtain ⟨o', e⟩ := u.there b o q hx
    exact ⟨o', k b _ (lt b o q) e⟩, u.tups, u.frzs, u.tbls⟩
 have nC : H2 s3.heap.objs.size = none := J.free
 have hok : HOk X.prog X.w H2 h' := fun b uo e => by
  refine (J.hok b uo e).stay (fun c v hc q => k c v ?_ q) (fun _ q => q) fun _ _ q => q
  rintro rfl
  rcases hc with z | z
  ·rw [← z, nC] at e; cases e
  ·rw [nC] at z; cases z
 have os : s'.os = s3.os := J.os
 have bare := J.bare
 obtain ⟨hh, g, d, t, os'⟩ := s'
 obtain rfl : os' = s3.os := os
 have fin := I.call (h' := h') (g' := g) (d' := d) (t' := t) (ch := fp) u' hok bare fun b hb => by
  obtain ⟨f0, f1, f2, f3, f4, f5⟩ := ffp b hb
  exact ⟨f3, f1, f4, f5⟩
 exact fin
end
def PF (X : Cx) (ifs : List Expr) (t : TT) : Prop :=
 ∀ (pins : List (Addr × Obj)) (s : Shared) (σ : St) (H : Hp) (Q : Bool → Hp → Prop), Inv X pins σ H s → t σ H Q →
  wpAny (model X.prog X.w) X.A (forIn ifs true fun c r => if r = true then do let ok ← isTrue c X.env (eval c X.env); pure (ForInStep.yield ok) else pure (ForInStep.yield r)) (TP X pins σ Q) X.xe s
def tYes : TT := fun _ H Q => Q true H
theorem jqv {X : Cx} : PF X [] tYes := fun _ _ _ H _ I h => wpAny_tests_nil ⟨H, I, h⟩
def CompI (J : It) (p : Addr) (fv : St) (tt : TT) (te : TE) (Q : VK) (H1 : Hp) : Prop :=
 ∃ W : Nat → Nat → List V → Hp → Prop, (∃ m, W 0 m [] (upd H1 p (.lst []))) ∧ ∀ i m ys H2, W i m ys H2 → H2 p = some (.lst ys) ∧
  ((J.stop i H2 ∧ Q (.ref p) H2) ∨ (J.go i H2 ∧ ys.length < sizeLine ∧ ∀ x H3, J.yld i H2 x H3 → tt (some x :: fv) H3 fun b H4 =>
   if b = true then te (some x :: fv) H4 fun y H5 => H5 p = some (.lst ys) ∧ ∃ m', m' < m ∧ W (i + 1) m' (ys ++ [y]) (upd H5 p (.lst (ys ++ [y])))
   else ∃ m', m' < m ∧ W (i + 1) m' ys H4))
def tComp (wi : TI) (fr : List Nat) (tt : TT) (te : TE) : TE := fun σ H Q => wi σ H fun J H1 => ∀ p, H1 p = none → CompI J p (frV σ fr) tt te Q H1
section
variable {X : Cx} {elt iter : Expr} {x : Str} {px pos : Pos} {ifs : List Expr} {scope : Scope} {cl : List (Str × Addr)} {fx : List Str} {fr : List Nat} {wi : TI} {tt : TT} {te : TE}
theorem nq3 {pins : List (Addr × Obj)} {σ : St} {H3 : Hp} {s3 : Shared} {it p : Addr} {fp : List Addr} {tn : Nat → Heap → Prop} {J : It} {Q : VK} {W : Nat → Nat → List V → Hp → Prop} {m0 t : Nat} {h₁ : Heap} {m : Str → Option Value} {RR : Result → Shared → Prop}
  (hc : X.calm = true) (hkind : scope.kind = .function) (hx : scope.names.lookup x = some .local) (hnd : (x :: fx).Nodup)
  (hcl : ∀ y c, cl.lookup y = some c → X.env.cells.lookup y = some c) (F : Frees X (relabel scope X.env) cl fx fr)
  (hfx : ((relabel scope X.env).names.all fun p => if (p.2 == .cell || p.2 == .free) then fx.contains p.1 else true) = true)
  (ht : ∀ s H fp, PF (compCx X (x :: fx) scope cl s H fp) ifs tt) (he : ∀ s H fp, PE (compCx X (x :: fx) scope cl s H fp) elt te)
  (I3 : Inv X pins σ H3 s3) (T : Turn X.prog X.w X.K (.Name x px) J fp it tn) (st3 : tn 0 s3.heap) (ffp : ∀ b ∈ fp, FpOk X pins H3 b) (flt3 : ∀ b ∈ fp, b < s3.heap.objs.size)
  (w0 : W 0 m0 [] H3) (turn : ∀ i m ys H2, W i m ys H2 → H2 p = some (.lst ys) ∧
   ((J.stop i H2 ∧ Q (.ref p) H2) ∨ (J.go i H2 ∧ ys.length < sizeLine ∧ ∀ x H3, J.yld i H2 x H3 → tt (some x :: frV σ fr) H3 fun b H4 =>
    if b = true then te (some x :: frV σ fr) H4 fun y H5 => H5 p = some (.lst ys) ∧ ∃ m', m' < m ∧ W (i + 1) m' (ys ++ [y]) (upd H5 p (.lst (ys ++ [y])))
    else ∃ m', m' < m ∧ W (i + 1) m' ys H4)))
  (hns : h₁.Ns s3.heap.objs.size m) (keep1 : ∀ b u, s3.heap.get? b = some u → h₁.get? b = some u)
  (fin : ∀ s6 H5 o, Inv (compCx X (x :: fx) scope cl s3 H3 fp) [] (o :: frV σ fr) H5 s6 → Q (.ref p) H5 → RR (.ok .next) s6) :
  codeAny (model X.prog X.w) X.A (.compStart (.ListComp elt [⟨.Name x px, iter, ifs, 0⟩] scope pos) 0 (.ref it) (.ref p) (compEnvC scope cl s3.heap.objs.size X.env))
   RR { s3 with heap := h₁, toks := t } := by
 have I4 := nqE (x := x) (t := t) I3 hkind hcl F hfx ffp flt3 hns keep1
 have st4 : tn 0 h₁ := T.keep _ _ _ st3 fun b hb o e => keep1 b o e
 have fp0 : ∀ b ∈ fp, H3 b = none := fun b hb => (ffp b hb).1
 have hcal : (compCx X (x :: fx) scope cl s3 H3 fp).calm = true := hc
 have stat : ∀ {H' : Hp}, (∀ b ∈ fp, H' b = none) → ∀ b ∈ fp, FpOk (compCx X (x :: fx) scope cl s3 H3 fp) [] H' b := fun {H'} hn b hb => by
  obtain ⟨f0, f1, f2, f3, f4, f5⟩ := ffp b hb
  exact ⟨hn b hb, Nat.ne_of_lt (flt3 b hb), I4.ok.exfs b hb, .inl hb, fun y c e => f4 y c (hcl y c e), fun q hq => absurd (show q ∈ ([] : List (Addr × Obj)) from hq) (by simp)⟩
 have hxl : (relabel scope X.env).names.lookup x = some .local := lookup_relabel_local hx
 have pg : PG (compCx X (x :: fx) scope cl s3 H3 fp) (.Name x px) (gName 0) := dqY (i := 0) hnd rfl (.inl hxl) (.inr hxl)
 have loop : codeAny (model X.prog X.w) X.A (.compLoop (.ListComp elt [⟨.Name x px, iter, ifs, 0⟩] scope pos) 0 (.ref it) (.ref p) (compEnvC scope cl s3.heap.objs.size X.env))
    RR { s3 with heap := h₁, toks := t } := by
  refine gq3 (fun n s' => ∃ i ys H' o, Inv (compCx X (x :: fx) scope cl s3 H3 fp) [] (o :: frV σ fr) H' s' ∧ tn i s'.heap ∧ (∀ b ∈ fp, H' b = none) ∧ W i n ys H') ?_ m0 ⟨0, [], _, none, I4, st4, fp0, w0⟩
  rintro n s5 ⟨i, ys, H5, o, I5, st5, fr5, w5⟩
  obtain ⟨hp5, alt⟩ := turn i n ys H5 w5
  rcases alt with ⟨stop, qn⟩ | ⟨go, hlen, step⟩
  ·refine thn (T.done (compCx X (x :: fx) scope cl s3 H3 fp) rfl rfl rfl hcal i [] s5 (o :: frV σ fr) H5 _ I5 (stat fr5) st5 stop) fun r s6 W' => ?_
   obtain ⟨hr, I6⟩ := W'
   subst hr
   exact fin s6 H5 o I6 qn
  ·refine thn (T.item (compCx X (x :: fx) scope cl s3 H3 fp) rfl rfl rfl hcal i [] s5 (o :: frV σ fr) H5 _ I5 (stat fr5) st5 go) fun r s6 W' => ?_
   obtain ⟨u, hr, h6⟩ := W'
   subst hr
   refine thn h6 fun _ s7 W' => ?_
   obtain ⟨y7, H7, I7, r7, yl7, st7, fr7⟩ := W'
   have I7' := I7.pinned (stat fr7) (T.obj _ _ st7)
   have back : ∀ {σ' : St} {H' : Hp} {s' : Shared}, Inv (compCx X (x :: fx) scope cl s3 H3 fp) ([] ++ pinsAt fp s7.heap) σ' H' s' → tn (i + 1) s'.heap ∧ ∀ b ∈ fp, H' b = none := fun {σ' H' s'} I' => by
    refine ⟨T.keep _ _ _ st7 fun b hb o e => (I'.pin (b, o) (List.mem_append_right _ (List.mem_append_right _ (cq1 hb e)))).1, fun b hb => ?_⟩
    obtain ⟨o, e, d⟩ := T.obj _ _ st7 b hb
    exact (I'.pin (b, o) (List.mem_append_right _ (List.mem_append_right _ (cq1 hb e)))).2.1
   refine thn (pg _ s7 _ H7 y7 u (fun σ' H' => σ' = some y7 :: frV σ fr ∧ H' = H7) I7' r7 ⟨rfl, rfl⟩) fun _ s8 W' => ?_
   obtain ⟨σ8, H8, I8, e8, e8'⟩ := W'
   subst e8 e8'
   refine thn (ht s3 H3 fp _ s8 _ _ _ I8 (step y7 _ yl7)) fun b s9 W' => ?_
   obtain ⟨H9, I9, q9⟩ := W'
   cases b with
   | false =>
    rw [if_neg Bool.false_ne_true] at q9 ⊢
    obtain ⟨m', hm, w9⟩ := q9
    exact ⟨m', hm, i + 1, ys, H9, some y7, I9.unpinned, (back I9).1, (back I9).2, w9⟩
   | true =>
    rw [if_pos rfl] at q9 ⊢
    refine thn (he s3 H3 fp _ s9 _ H9 _ I9 q9) fun u10 s10 W' => ?_
    obtain ⟨y10, H10, I10, r10, hp10, m', hm, w10⟩ := W'
    refine thn (cqK _ s10 _ H10 (.ref p) [y10] (.ref p) [u10] (fun _ H' => H' = upd H10 p (.lst (ys ++ [y10]))) I10 rfl (.cons r10 .nil) ⟨p, ys, y10, rfl, rfl, hp10, hlen, rfl⟩) fun _ s11 W' => ?_
    obtain ⟨_, H11, I11, _, e11⟩ := W'
    subst e11
    exact ⟨m', hm, i + 1, ys ++ [y10], _, some y7, I11.unpinned, (back I11).1, (back I11).2, w10⟩
 exact codeAny_compStart_list loop (T.self _ 0 _ _ _ st4 loop)
theorem iqc (hc : X.calm = true) (hclos : closureFor scope X.env = pure cl) (hcell : ∀ y ∈ scope.names, y.2 ≠ .cell) (hkind : scope.kind = .function)
  (hnames : ∀ y ∈ scope.names, y.2 = .local → scope.names.lookup y.1 = some .local) (hx : scope.names.lookup x = some .local) (hnd : (x :: fx).Nodup)
  (hk : (cl.all fun q => fx.contains q.1) = true) (F : Frees X (relabel scope X.env) cl fx fr)
  (hfx : ((relabel scope X.env).names.all fun p => if (p.2 == .cell || p.2 == .free) then fx.contains p.1 else true) = true)
  (hi : PI X (.Name x px) iter wi) (ht : ∀ s H fp, PF (compCx X (x :: fx) scope cl s H fp) ifs tt) (he : ∀ s H fp, PE (compCx X (x :: fx) scope cl s H fp) elt te)
  (hs : ∀ x, foldedSetIterable iter X.env x = pure x := by intro _; rfl) :
  PE X (.ListComp elt [⟨.Name x px, iter, ifs, 0⟩] scope pos) (tComp wi fr tt te) := by
 intro pins s σ H Q I h
 have hcl : ∀ y c, cl.lookup y = some c → X.env.cells.lookup y = some c := fun y c e => by
  have q := List.all_eq_true.mp hk _ (PySem.mem_of_lookup e)
  rw [← (F.mem y (by simpa using q)).2]
  exact e
 rw [eval_ListComp]
 refine wpAny_comprehension_free (use := none) rfl hs hclos hkind hnames ?_
 refine thn (hi pins s σ H _ I h) fun v s1 h1 => thn h1 fun itv s2 h2 => ?_
 obtain ⟨it, fp, tn, J, H2, e, I2, T, st2, f2, q2⟩ := h2
 subst e
 have hp0 : H2 s2.heap.objs.size = none := I2.hok.fresh (Nat.le_refl _)
 obtain ⟨W, ⟨m0, w0⟩, turn⟩ := q2 _ hp0
 have flt : ∀ b ∈ fp, b < s2.heap.objs.size := fun b hb => by
  obtain ⟨o, e, _⟩ := T.obj _ _ st2 b hb
  exact Heap.lt_size e
 refine wpAny_newObj_type (wpAny_newFunctionEnv hcell (by intro y hy; simp at hy) (fun h₁ hns₁ hsb₁ => ?_) hkind)
 dsimp only at hns₁ hsb₁ ⊢
 have hlay : ∀ b u, s2.heap.get? b = some u → (s2.heap.push { cls := .type "list", dict := none, data := .seq ([] : List Value).toArray }).get? b = some u := fun b u e => Heap.get?_push_of_some _ e
 have hnew : (s2.heap.push { cls := .type "list", dict := none, data := .seq ([] : List Value).toArray }).get? s2.heap.objs.size = some { cls := .type "list", dict := none, data := .seq ([] : List Value).toArray } := Heap.get?_push_size _ rfl
 have hsz : (s2.heap.push { cls := .type "list", dict := none, data := .seq ([] : List Value).toArray }).objs.size = s2.heap.objs.size + 1 := Heap.size_push _ _
 generalize hHH : s2.heap.push { cls := .type "list", dict := none, data := .seq ([] : List Value).toArray } = HH at hns₁ hsb₁ hlay hnew hsz ⊢
 have I3 : Inv X pins σ (upd H2 s2.heap.objs.size (.lst [])) { s2 with heap := HH, toks := s2.toks } :=
  I2.laid (t' := s2.toks) (o := .lst []) hlay (Nat.le_refl _) ⟨Nat.zero_le _, [], 0, .nil, hnew⟩
 have ffp : ∀ b ∈ fp, FpOk X pins (upd H2 s2.heap.objs.size (.lst [])) b := fun b hb => by
  obtain ⟨f0, fr'⟩ := f2 b hb
  exact ⟨by rw [aqt (Nat.ne_of_lt (flt b hb))]; exact f0, fr'⟩
 have keep1 : ∀ b u, HH.get? b = some u → h₁.get? b = some u := fun b u e => hsb₁.extBut b u (Nat.ne_of_lt (Heap.lt_size e)) (Heap.get?_push_of_some _ e)
 exact nq3 (s3 := { s2 with heap := HH, toks := s2.toks }) hc hkind hx hnd hcl F hfx ht he I3 T (T.keep _ _ _ st2 fun b hb o e => hlay b o e) ffp (fun b hb => by show b < HH.objs.size; rw [hsz]; exact Nat.lt_succ_of_lt (flt b hb)) w0 turn hns₁ keep1 fun s6 H5 o I6 qn => by
  obtain ⟨m, hn6, _⟩ := id I6.loc
  exact ⟨m, hn6, fun h' sb => ⟨.ref _, H5, kq2 I3 I6 ffp sb, rfl, qn⟩⟩
end
section
variable {p : Addr} {fv : St} {te : TE} {Q : VK} {H1 : Hp}
theorem mqM {z : Str} (hz : z.length ≤ sizeLine) (hp : H1 p = none) (f : Nat → V)
  (he : ∀ c, c ∈ z.cps.toList → ∀ (H' : Hp) (R : VK), (∀ H'', Same H' H'' → R (f c) H'') → te (some (.str ⟨#[c]⟩) :: fv) H' R)
  (hQ : ∀ H', Same H1 H' → H' p = some (.lst (z.cps.toList.map f)) → Q (.ref p) H') : CompI (Its z) p fv tYes te Q H1 := by
 have hl : z.cps.toList.length = z.length := by simp [Str.length]
 refine ⟨fun i m ys H2 => m = z.length - i ∧ i ≤ z.length ∧ ys = (z.cps.toList.take i).map f ∧ H2 p = some (.lst ys) ∧ Same H1 H2, ⟨z.length, by simp, Nat.zero_le _, by simp, aqh, fun b o e => by rw [aqt (aqq e hp)]; exact e⟩, ?_⟩
 rintro i m ys H2 ⟨rfl, hi, rfl, hp2, sm⟩
 refine ⟨hp2, ?_⟩
 by_cases hlt : i < z.length
 ·refine .inr ⟨hlt, ?_, fun x H3 y => ?_⟩
  ·rw [List.length_map, List.length_take]; lia
  ·obtain ⟨rfl, c, hc, rfl⟩ := y
   unfold tYes
   dsimp only
   rw [if_pos rfl]
   refine he c (List.mem_of_getElem? hc) _ _ fun H5 s5 => ⟨s5 _ _ hp2, z.length - (i + 1), by lia, rfl, hlt, ?_, aqh, fun b o e => ?_⟩
   ·rw [List.take_add_one, hc, List.map_append]; rfl
   ·rw [aqt (aqq e hp)]; exact s5 _ _ (sm _ _ e)
 ·have e : i = z.length := by lia
  subst e
  refine .inl ⟨Nat.le_refl _, hQ H2 sm ?_⟩
  rw [hp2, ← hl, List.take_length]
end
section
variable {σ : St} {H : Hp} {Q : VK} {K : PySem.W.Frag} {tl te : TE} {tt : TT} {fr : List Nat}
theorem sqe : frV σ [] = [] := rfl
theorem qqj {i : Nat} {r : List Nat} : frV σ (i :: r) = (σ[i]?).getD none :: frV σ r := rfl
theorem vqh {z : Str} {p : Addr} : rJoin K (.str z) [.ref p] H Q ↔ ∃ ys : List Str, SqL K H p (ys.map V.str) ∧ (ys.map (·.length)).sum + ys.length * z.length ≤ 16777216 ∧ Q (.str (Txt.join z ys)) H := by
 constructor
 ·rintro ⟨z', p', ys, h1, h2, h3⟩
  cases h1; cases h2
  exact ⟨ys, h3⟩
 ·rintro ⟨ys, h⟩
  exact ⟨z, p, ys, rfl, rfl, h⟩
theorem qqC : (tComp (iStr tl) fr tt te σ H Q) = (tl σ H fun x H1 => ∃ z, x = .str z ∧ ∀ p, H1 p = none → CompI (Its z) p (frV σ fr) tt te Q H1) := rfl
theorem qq9 : (tComp (iList K tl) fr tt te σ H Q) = (tl σ H fun x H1 => ∃ a, x = .ref a ∧ (∃ xs, SqL K H1 a xs) ∧ ∀ p, H1 p = none → CompI (Itl K a) p (frV σ fr) tt te Q H1) := rfl
end
section
variable {X : Cx} {K : PySem.W.Frag}
theorem aqJ (h : X.K = K) : OpR X (binaryOp .Add) (rAddU K) := by subst h; exact pqA
theorem aqj (h : X.K = K) : IxR X (rIx K) := by subst h; exact vqe
theorem hqO (h : X.K = K) : SlR X (rSl K) := by subst h; exact tqN
theorem aq2 (h : X.K = K) : CallR X (.builtin "len") (rLenU K) := by subst h; exact oqR
theorem hqD (h : X.K = K) : MtR X "str.join" (rJoin K) := by subst h; exact tqh
variable {o e : Expr} {es : List Expr} {to : TE} {t : TA} {name : Str} {apos cpos : Pos} {T id : String} {r : V → List V → Hp → VK → Prop}
theorem lq0 (h : X.K = K) (pa : PlainAttrs T) (slot : Slot T name id) (hty : typeOf (.builtin id) = pure (.type "method_descriptor")) (hm : MtR X id r) (ho : PE X o to)
  (hbase : attributeBase o name X.env (eval o X.env) = eval o X.env := by rfl) (hline : (apos.endLine == cpos.line) = true := by rfl) : PE X (.Call (.Attribute o name apos) [] [] cpos) (tBM0 K T r to) := by
 subst h; exact uqm pa slot hty hm ho hbase hline
theorem cqI (h : X.K = K) (pa : PlainAttrs T) (slot : Slot T name id) (hty : typeOf (.builtin id) = pure (.type "method_descriptor")) (hm : MtR X id r) (ho : PE X o to) (ha : PA X (e :: es) t)
  (hbase : attributeBase o name X.env (eval o X.env) = eval o X.env := by rfl)
  (hfew : ((backTo cpos (starEach (e :: es) X.env)).all (fun x => !x.1) && (backToKw cpos (keywordEach [] X.env)).all (fun x => x.1.isSome)
   && decide ((e :: es).length + ([] : List Keyword).length + (if ([] : List Keyword).isEmpty then 0 else 1) < 30)) = true := by rfl)
  (hline : (apos.endLine == cpos.line) = true := by rfl) (hs : starEach (e :: es) X.env = (false, eval e X.env) :: starEach es X.env := by rfl) (hplain : (backTo cpos (starEach es X.env)).any (·.1) = false := by rfl) :
  PE X (.Call (.Attribute o name apos) (e :: es) [] cpos) (tBM K T r to t) := by
 subst h; exact vqB pa slot hty hm ho ha hbase hfew hline hs hplain
end
structure FunD (K : PySem.W.Frag) (x qual : Str) (st : Stmt) (f : Addr) (fd : FuncData) (T : Addr) : Prop where
 ex : ∃ (oc : Value) (od : Option Addr) (kV doc pm : Value) (an : Option Addr) (cdv ct : Value) (osl : Array (Option Value)),
  fd = PySem.W.fnOf x qual (defArgs st) (defBody st) (defScope st) (.ref T) kV doc pm an cdv ct ∧ K.lookup f = some ⟨oc, od, .func fd, osl⟩ ∧ PySem.W.codeIn K cdv qual = true
 kp : PySem.W.keepIn K (.ref f) = true
section
variable {P : Program} {w : World} {K : PySem.W.Frag} {mg : Str → Option Value} {base : Heap}
theorem FunD.binds {x qual : Str} {st : Stmt} {f T : Addr} {fd : FuncData} {ps : List Str} {ds : List Value} {oc : Value} {od : Option Addr} {items : Array Value} {n : Nat} {sl : Array (Option Value)} (F : FunD K x qual st f fd T) (hT : K.lookup T = some ⟨oc, od, .seq items n, sl⟩)
  (h : ∀ (kV doc pm : Value) (an : Option Addr) (cdv ct : Value) (us : List Value), (us ++ ds).length = ps.length → ∃ k : Option (Array Value) → Sem (List (Str × Value)),
   bindArgs (PySem.W.fnOf x qual (defArgs st) (defBody st) (defScope st) (.ref T) kV doc pm an cdv ct) ⟨us, []⟩ = seqItems? (.ref T) >>= k ∧ k (some items) = pure (ps.zip (us ++ ds))) : Binds K fd ps ds := by
 obtain ⟨oc', od', kV, doc, pm, an, cdv, ct, osl, rfl, lk, hcd⟩ := F.ex
 intro s us X hl
 obtain ⟨k, h1, h2⟩ := h kV doc pm an cdv ct us hl
 exact BindsTo.of_defaults (T := T) rfl (X T _ hT) rfl h1 h2
theorem oqM {x qual : Str} {st : Stmt} {f T : Addr} {oc : Value} {od an : Option Addr} {osl : Array (Option Value)} {kV doc pm cdv ct : Value} (l : K.lookup f = some ⟨oc, od, .func (PySem.W.fnOf x qual (defArgs st) (defBody st) (defScope st) (.ref T) kV doc pm an cdv ct), osl⟩)
  (c : PySem.W.codeIn K cdv qual = true) (k : PySem.W.keepIn K (.ref f) = true) : FunD K x qual st f (PySem.W.fnOf x qual (defArgs st) (defBody st) (defScope st) (.ref T) kV doc pm an cdv ct) T := ⟨⟨oc, od, kV, doc, pm, an, cdv, ct, osl, rfl, l, c⟩, k⟩
end
theorem jq3 {c : TT} {tb : TS} {D : Ends} {σ : St} {H : Hp} (W : Nat → St → Hp → Prop) (m0 : Nat) (h0 : W m0 σ H)
  (hs : ∀ m σ H, W m σ H → c σ H fun b H1 => if b = true then ∃ N : St → Hp → Prop, (∀ σ' H', N σ' H' → ∃ m', m' < m ∧ W m' σ' H') ∧ tb { D with nx := N, ct := N, bk := D.nx } σ H1 else D.nx σ H1) : tWhile c tb D σ H := ⟨W, ⟨m0, h0⟩, hs⟩
section
variable {σ : St} {H : Hp} {Q : VK}
theorem vqw {r : V → Hp → VK → Prop} {ta : TE} : (tUn r ta σ H Q) = (ta σ H fun x H1 => r x H1 Q) := rfl
theorem rd_U {g : Int → V} {i : Int} : rU g (.int i) H Q ↔ Q (g i) H := ⟨fun ⟨_, h1, h2⟩ => by cases h1; exact h2, fun h => ⟨i, rfl, h⟩⟩
theorem vqj {l : Addr} {y : V} : rAppend (.ref l) [y] H Q ↔ ∃ xs, H l = some (.lst xs) ∧ xs.length < sizeLine ∧ Q .non (upd H l (.lst (xs ++ [y]))) := by
 constructor
 ·rintro ⟨l', xs, y', h1, h2, h3⟩
  cases h1; cases h2
  exact ⟨xs, h3⟩
 ·rintro ⟨xs, h⟩
  exact ⟨l, xs, y, rfl, rfl, h⟩
theorem tqs {K : PySem.W.Frag} {p : Addr} : tyV K "list" (.ref p) H ↔ ∃ xs, SqL K H p xs := by
 constructor
 ·rintro (⟨_, h⟩ | ⟨h, _⟩ | ⟨h, _⟩ | ⟨h, _⟩)
  ·exact h
  ·exact absurd h (by decide)
  ·exact absurd h (by decide)
  ·exact absurd h (by decide)
 ·intro h; exact .inl ⟨rfl, h⟩
end
mutual
inductive Is (H : Hp) : PyData → V → Prop
 | non : Is H .none .non
 | bl (b : Bool) : Is H (.bool b) (.bl b)
 | int (i : Int) : Is H (.int i) (.int i)
 | str (x : Str) : Is H (.str x) (.str x)
 | lst {p : Addr} {xs : List V} {ds : List PyData} : H p = some (.lst xs) → IsAll H ds xs → Is H (.list ds) (.ref p)
 | tup {p : Addr} {xs : List V} {ds : List PyData} : H p = some (.tup xs) → IsAll H ds xs → Is H (.tuple ds) (.ref p)
 | dic {p : Addr} : H p = some (.dK []) → Is H (.dict []) (.ref p)
inductive IsAll (H : Hp) : List PyData → List V → Prop
 | nil : IsAll H [] []
 | cons {d : PyData} {x : V} {ds : List PyData} {xs : List V} : Is H d x → IsAll H ds xs → IsAll H (d :: ds) (x :: xs)
end
mutual
theorem Is.mono {H H' : Hp} (sm : Same H H') : ∀ {d : PyData} {x : V}, Is H d x → Is H' d x
 | _, _, .non => .non
 | _, _, .bl b => .bl b
 | _, _, .int i => .int i
 | _, _, .str x => .str x
 | _, _, .lst h r => .lst (sm _ _ h) (IsAll.mono sm r)
 | _, _, .tup h r => .tup (sm _ _ h) (IsAll.mono sm r)
 | _, _, .dic h => .dic (sm _ _ h)
theorem IsAll.mono {H H' : Hp} (sm : Same H H') : ∀ {ds : List PyData} {xs : List V}, IsAll H ds xs → IsAll H' ds xs
 | _, _, .nil => .nil
 | _, _, .cons h r => .cons (Is.mono sm h) (IsAll.mono sm r)
end
theorem IsAll.length {H : Hp} : ∀ {ds : List PyData} {xs : List V}, IsAll H ds xs → ds.length = xs.length
 | _, _, .nil => rfl
 | _, _, .cons _ r => by rw [List.length_cons, List.length_cons, IsAll.length r]
section
variable {X : Cx} {pins : List (Addr × Obj)} {σ : St} {H : Hp} {s : Shared}
mutual
theorem Is.reads (I : Inv X pins σ H s) : ∀ {d : PyData} {x : V} {v : Value}, Is H d x → RelV x v → ∃ as, Reads s.heap v d as
 | _, _, _, .non, r => by cases r; exact ⟨_, .none⟩
 | _, _, _, .bl b, r => by cases r; exact ⟨_, .bool b⟩
 | _, _, _, .int i, r => by obtain ⟨t, rfl⟩ := r; exact ⟨_, .int i t⟩
 | _, _, _, .str x, r => by obtain ⟨t, rfl⟩ := r; exact ⟨_, .str x t⟩
 | _, _, _, .lst h q, r => by
  cases r
  obtain ⟨its, vs, ⟨o, n, e, c, _, dt⟩, _⟩ := I.list (SqL.of h)
  obtain ⟨as, ra⟩ := IsAll.reads I q vs
  exact ⟨_, .list e c dt (by simpa using ra)⟩
 | _, _, _, .tup h q, r => by
  cases r
  obtain ⟨its, vs, ⟨o, e, c, n, dt⟩, _⟩ := I.tuple (SqT.of h)
  obtain ⟨as, ra⟩ := IsAll.reads I q vs
  exact ⟨_, .tuple e c dt (by simpa using ra)⟩
 | _, _, _, .dic h, r => by
  cases r
  obtain ⟨_, _, vs, kv, o, es, ep, e, c, dt, _, hp, _⟩ := I.hok _ _ h
  cases kv
  have hes : es.toList = [] := by generalize es.toList = l at hp; cases hp; rfl
  exact ⟨_, .dict (kvs := []) e c.1 dt (by rw [hes]; exact .nil) (by rw [hes]; exact .nil)⟩
theorem IsAll.reads (I : Inv X pins σ H s) : ∀ {ds : List PyData} {xs : List V} {vs : List Value}, IsAll H ds xs → Vals xs vs → ∃ as, ReadsAll s.heap vs ds as
 | _, _, _, .nil, r => by cases r; exact ⟨_, .nil⟩
 | _, _, _, .cons q t, r => by
  cases r with
  | cons r1 r2 =>
   obtain ⟨as, h1⟩ := Is.reads I q r1
   obtain ⟨bs, h2⟩ := IsAll.reads I t r2
   exact ⟨_, .cons h1 h2⟩
end
def rNeD : R2 := fun x y H Q => ∃ d e, Is H d x ∧ Is H e y ∧ SeqAt.shaped d = true ∧ SeqAt.shaped e = true ∧ Q (.bl (!PyData.eqv d e)) H
theorem tqC (hu : X.A.units + 64 < cLine) : OpR X (compareOp .NotEq) rNeD := by
 intro pins s σ H x y v u Q I rx ry h
 obtain ⟨d, e, hx, hy, sx, sy, q⟩ := h
 obtain ⟨as, ra⟩ := hx.reads I rx
 obtain ⟨bs, rb⟩ := hy.reads I ry
 exact ne_dataH ra rb sx sy hu ⟨.bl _, H, I, rfl, q⟩
end
mutual
inductive IsT (H : Hp) : PyData → V → Prop
 | non : IsT H .none .non
 | bl (b : Bool) : IsT H (.bool b) (.bl b)
 | int (i : Int) : IsT H (.int i) (.int i)
 | str (x : Str) : IsT H (.str x) (.str x)
 | tup {p : Addr} {xs : List V} {ds : List PyData} : H p = some (.tup xs) → IsTAll H ds xs → IsT H (.tuple ds) (.ref p)
inductive IsTAll (H : Hp) : List PyData → List V → Prop
 | nil : IsTAll H [] []
 | cons {d : PyData} {x : V} {ds : List PyData} {xs : List V} : IsT H d x → IsTAll H ds xs → IsTAll H (d :: ds) (x :: xs)
end
def SameT (H H' : Hp) : Prop := ∀ b xs, H b = some (.tup xs) → H' b = some (.tup xs)
theorem Same.toT {H H' : Hp} (h : Same H H') : SameT H H' := fun b xs e => h b _ e
theorem pqc {H : Hp} {p : Addr} {xs : List V} {o : HO} (h : H p = some (.lst xs)) : SameT H (upd H p o) := fun b ys e => by
 rw [aqt (qqO e h (by intro z; cases z))]; exact e
mutual
theorem IsT.mono {H H' : Hp} (sm : SameT H H') : ∀ {d : PyData} {x : V}, IsT H d x → IsT H' d x
 | _, _, .non => .non
 | _, _, .bl b => .bl b
 | _, _, .int i => .int i
 | _, _, .str x => .str x
 | _, _, .tup h r => .tup (sm _ _ h) (IsTAll.mono sm r)
theorem IsTAll.mono {H H' : Hp} (sm : SameT H H') : ∀ {ds : List PyData} {xs : List V}, IsTAll H ds xs → IsTAll H' ds xs
 | _, _, .nil => .nil
 | _, _, .cons h r => .cons (IsT.mono sm h) (IsTAll.mono sm r)
end
mutual
theorem IsT.is {H : Hp} : ∀ {d : PyData} {x : V}, IsT H d x → Is H d x
 | _, _, .non => .non
 | _, _, .bl b => .bl b
 | _, _, .int i => .int i
 | _, _, .str x => .str x
 | _, _, .tup h r => .tup h (IsTAll.is r)
theorem IsTAll.is {H : Hp} : ∀ {ds : List PyData} {xs : List V}, IsTAll H ds xs → IsAll H ds xs
 | _, _, .nil => .nil
 | _, _, .cons h r => .cons (IsT.is h) (IsTAll.is r)
end
theorem IsTAll.append {H : Hp} : ∀ {ds es : List PyData} {xs ys : List V}, IsTAll H ds xs → IsTAll H es ys → IsTAll H (ds ++ es) (xs ++ ys)
 | _, _, _, _, .nil, r => r
 | _, _, _, _, .cons h t, r => .cons h (t.append r)
theorem IsTAll.length {H : Hp} {ds : List PyData} {xs : List V} (h : IsTAll H ds xs) : ds.length = xs.length := h.is.length
section
variable {p : Addr} {fv : St} {te : TE} {Q : VK} {H1 : Hp}
inductive All2 (R : V → V → Hp → Prop) (H : Hp) : List V → List V → Prop
 | nil : All2 R H [] []
 | cons {x y : V} {xs ys : List V} : R x y H → All2 R H xs ys → All2 R H (x :: xs) (y :: ys)
end
section
variable {X : Cx}
def rAllB (K : PySem.W.Frag) : List V → Hp → VK → Prop := fun vs H Q => ∃ (p : Addr) (bs : List Bool), vs = [.ref p] ∧ SqL K H p (bs.map V.bl) ∧ Q (.bl (bs.all id)) H
def rAnyB (K : PySem.W.Frag) : List V → Hp → VK → Prop := fun vs H Q => ∃ (p : Addr) (bs : List Bool), vs = [.ref p] ∧ SqL K H p (bs.map V.bl) ∧ Q (.bl (bs.any id)) H
theorem qqk {bs : List Bool} : ∀ {us : List Value}, Vals (bs.map V.bl) us → ∀ (i : Nat) (v : Value), us[i]? = some v → ∃ b, bs[i]? = some b ∧ v = .bool b := by
 induction bs with
 | nil => intro us r i v h; rw [List.map_nil] at r; cases r; simp at h
 | cons b bs ih =>
  intro us r i v h
  rw [List.map_cons] at r
  cases r with
  | cons r1 r2 =>
   cases i with
   | zero => simp at h; subst h; exact ⟨b, rfl, r1⟩
   | succ i =>
    obtain ⟨c, h1, h2⟩ := ih r2 i v (by simpa using h)
    exact ⟨c, by simpa using h1, h2⟩
theorem oqa (hc : X.calm = true) : CallR X (.builtin "all") (rAllB X.K) := by
 intro pins s σ H xs us Q I r h
 obtain ⟨p, bs, rfl, hq, q⟩ := h
 obtain ⟨u, rfl, ru⟩ := vals1 r
 cases ru
 obtain ⟨its, vs, pl, hl⟩ := I.list hq
 have hI := pl.isList
 have hlt : p < s.heap.objs.size := by obtain ⟨_, e, _⟩ := hI; exact Heap.lt_size e
 refine call_all_walk (wpAny_pyIter_list hI ?_)
 refine ⟨s.heap.objs.size, [s.heap.objs.size, p], [s.heap.objs.size], its.toArray.size, _, _, fun i => (bs[i]?).getD true, rfl, Walks.list (A := X.A.in1) (I.ok.hd hc) _ p (Nat.ne_of_lt hlt) its.toArray,
  ⟨⟨_, Heap.get?_push_size _ rfl, rfl, rfl⟩, hI.push _⟩, fun i v s' Q' E' hP hQ => ?_, fun h' tk hk => ?_⟩
 ·obtain ⟨b, e, rfl⟩ := qqk vs i v (by simpa using hP)
  simp only [e, Option.getD_some] at hQ
  exact wpAny_truthy_bool hQ
 ·have hbl := vs.length
  rw [List.length_map] at hbl
  have e : ((List.range its.toArray.size).all fun i => (bs[i]?).getD true) = bs.all id := by
   rw [List.size_toArray, ← hbl]; exact PyProof.Rows.LSm.range_all bs
  exact ⟨.bl _, H, I.kept (t' := tk) (PyProof.Rows.LSm.kept_iter hk), rfl, by rw [e]; exact q⟩
variable {K : PySem.W.Frag}
theorem oqK (h : X.K = K) (hc : X.calm = true) : CallR X (.builtin "all") (rAllB K) := by subst h; exact oqa hc
def rListU (K : PySem.W.Frag) : List V → Hp → VK → Prop := fun xs H Q => ∃ p ys, xs = [.ref p] ∧ (SqL K H p ys ∨ SqT K H p ys) ∧ ∀ l, H l = none → Q (.ref l) (upd H l (.lst ys))
def rTupleU (K : PySem.W.Frag) : List V → Hp → VK → Prop := fun xs H Q => ∃ p ys, xs = [.ref p] ∧ ((SqL K H p ys ∧ ∀ l, H l = none → Q (.ref l) (upd H l (.tup ys))) ∨ (SqT K H p ys ∧ Q (.ref p) H))
theorem mqr {tg l : Expr} {tl : TE} (h : X.K = K) (hl : PE X l tl) : PI X tg l (iTup K tl) := by subst h; exact tqW hl
end
section
variable {H : Hp} {Q : VK} {K : PySem.W.Frag}
theorem rq0 {x : V} {T : String} : (rIsiU [x, .ty T] H Q) = (∃ k, kindV x H = some k ∧ T ∈ ["bool", "int", "str", "list", "tuple"] ∧ Q (.bl (subT k T)) H) := rfl
theorem qqT : kindV .non H = some "NoneType" := rfl
theorem tqd {b : Bool} : kindV (.bl b) H = some "bool" := rfl
theorem pqS {i : Int} : kindV (.int i) H = some "int" := rfl
theorem qqI {x : Str} : kindV (.str x) H = some "str" := rfl
theorem qqH {p : Addr} {xs : List V} (h : H p = some (.lst xs)) : kindV (.ref p) H = some "list" := by simp only [kindV, h]
theorem pq5 {p : Addr} {xs : List V} (h : H p = some (.tup xs)) : kindV (.ref p) H = some "tuple" := by simp only [kindV, h]
theorem oqs : ("bool" ∈ ["bool", "int", "str", "list", "tuple"]) = True := by simp
theorem qq4 : ("int" ∈ ["bool", "int", "str", "list", "tuple"]) = True := by simp
theorem qqM : ("str" ∈ ["bool", "int", "str", "list", "tuple"]) = True := by simp
theorem oqP : ("list" ∈ ["bool", "int", "str", "list", "tuple"]) = True := by simp
theorem nqS : ("tuple" ∈ ["bool", "int", "str", "list", "tuple"]) = True := by simp
theorem gqq : subT "NoneType" "bool" = false := by decide
theorem hqm : subT "NoneType" "int" = false := by decide
theorem hqt : subT "NoneType" "str" = false := by decide
theorem gqu : subT "NoneType" "list" = false := by decide
theorem gqh : subT "NoneType" "tuple" = false := by decide
theorem kqC : subT "bool" "bool" = true := by decide
theorem lqh : subT "bool" "int" = true := by decide
theorem lqN : subT "bool" "str" = false := by decide
theorem jq9 : subT "bool" "list" = false := by decide
theorem iq7 : subT "bool" "tuple" = false := by decide
theorem kqZ : subT "int" "bool" = false := by decide
theorem lqY : subT "int" "int" = true := by decide
theorem mqz : subT "int" "str" = false := by decide
theorem kqM : subT "int" "list" = false := by decide
theorem jqR : subT "int" "tuple" = false := by decide
theorem kq3 : subT "str" "bool" = false := by decide
theorem lq3 : subT "str" "int" = false := by decide
theorem mqp : subT "str" "str" = true := by decide
theorem lqC : subT "str" "list" = false := by decide
theorem kqt : subT "str" "tuple" = false := by decide
theorem jqZ : subT "list" "bool" = false := by decide
theorem kqQ : subT "list" "int" = false := by decide
theorem lqf : subT "list" "str" = false := by decide
theorem jqS : subT "list" "list" = true := by decide
theorem jqg : subT "list" "tuple" = false := by decide
theorem iqX : subT "tuple" "bool" = false := by decide
theorem kqh : subT "tuple" "int" = false := by decide
theorem jq2 : subT "tuple" "str" = false := by decide
theorem iq5 : subT "tuple" "list" = false := by decide
theorem iqO : subT "tuple" "tuple" = true := by decide
theorem tqx {n : Nat} {t : TGs} {v : V} {σ : St} {R : St → Hp → Prop} : (gTup K n t v σ H R) = (∃ a xs, v = .ref a ∧ SqT K H a xs ∧ xs.length = n ∧ t xs σ H R) := rfl
theorem qqG {t : TG} {u : TGs} {vs : List V} {σ : St} {R : St → Hp → Prop} : (gCons t u vs σ H R) = (∃ v r, vs = v :: r ∧ t v σ H fun σ' H' => u r σ' H' R) := rfl
theorem rqT {vs : List V} {σ : St} {R : St → Hp → Prop} : (gNil vs σ H R) = (vs = [] ∧ R σ H) := rfl
theorem rqU {to ti : TE} {t : TSet} {v : V} {σ : St} {R : St → Hp → Prop} : (gSub to ti t v σ H R) = (to σ H fun o H1 => ti σ H1 fun i H2 => t o i v H2 fun H3 => R σ H3) := rfl
theorem sqz {p : Addr} {k : Int} {v : V} {R : Hp → Prop} : rSetL (.ref p) (.int k) v H R ↔ ∃ xs j, H p = some (.lst xs) ∧ ixN xs.length k = some j ∧ R (upd H p (.lst (xs.set j v))) := by
 constructor
 ·rintro ⟨p', xs, k', j, h1, h2, h3⟩; cases h1; cases h2; exact ⟨xs, j, h3⟩
 ·rintro ⟨xs, j, h⟩; exact ⟨p, xs, k, j, rfl, rfl, h⟩
end
section
variable {X : Cx} {K : PySem.W.Frag}
end
def SameBut (p : Addr) (H H' : Hp) : Prop := ∀ b o, b ≠ p → H b = some o → H' b = some o
theorem SameBut.refl (p : Addr) (H : Hp) : SameBut p H H := fun _ _ _ e => e
theorem SameBut.trans {p : Addr} {H H' H'' : Hp} (h : SameBut p H H') (h' : SameBut p H' H'') : SameBut p H H'' := fun b o n e => h' b o n (h b o n e)
theorem Same.but {p : Addr} {H H' : Hp} (h : Same H H') : SameBut p H H' := fun b o _ e => h b o e
theorem aqR {p : Addr} {H : Hp} {o : HO} : SameBut p H (upd H p o) := fun b u n e => by rw [aqt n]; exact e
theorem SameBut.same {p : Addr} {H H' : Hp} (h : SameBut p H H') (hp : H p = none) : Same H H' := fun b o e => h b o (aqq e hp) e
section
variable {p : Addr} {fv : St} {te : TE} {Q : VK} {H1 : Hp} {K : PySem.W.Frag}
theorem Same.tup {H H' : Hp} {a : Addr} {xs : List V} (e : Same H H') (h : SqT K H a xs) : SqT K H' a xs := by
 rcases h with (h | ⟨o, h⟩) | h
 ·exact .inl (.inl (e _ _ h))
 ·exact .inl (.inr ⟨o, e _ _ h⟩)
 ·exact .inr h
theorem oqg {a : Addr} {xs zs : List V} (hxs : SqT K H1 a xs) (hlen : xs.length ≤ sizeLine) (hp : H1 p = none) (hz : zs.length = xs.length)
  (he : ∀ (i : Nat) (x z : V), xs[i]? = some x → zs[i]? = some z → ∀ (H' : Hp) (T : VK), Same H1 H' → (∀ H'', Same H' H'' → T z H'') → te (some x :: fv) H' T)
  (hQ : ∀ H', Same H1 H' → H' p = some (.lst zs) → Q (.ref p) H') : CompI (Itt K a) p fv tYes te Q H1 := by
 refine ⟨fun i m ys H2 => m = xs.length - i ∧ i ≤ xs.length ∧ ys = zs.take i ∧ H2 p = some (.lst ys) ∧ Same H1 H2, ⟨xs.length, by simp, Nat.zero_le _, by simp, aqh, fun b o e => by rw [aqt (aqq e hp)]; exact e⟩, ?_⟩
 rintro i m ys H2 ⟨rfl, hi, rfl, hp2, sm⟩
 refine ⟨hp2, ?_⟩
 have q := sm.tup hxs
 by_cases hlt : i < xs.length
 ·refine .inr ⟨⟨xs, xs[i], q, by simp [hlt]⟩, ?_, fun x H3 y => ?_⟩
  ·rw [List.length_take]; lia
  ·obtain ⟨rfl, y⟩ := y
   have hc := y xs q
   have hzi : zs[i]? = some zs[i] := List.getElem?_eq_getElem (by lia)
   unfold tYes
   dsimp only
   rw [if_pos rfl]
   refine he i x _ hc hzi _ _ sm fun H5 s5 => ⟨s5 _ _ hp2, xs.length - (i + 1), by lia, rfl, hlt, ?_, aqh, fun b o e => ?_⟩
   ·rw [List.take_add_one, hzi]; rfl
   ·rw [aqt (aqq e hp)]; exact s5 _ _ (sm _ _ e)
 ·have e : i = xs.length := by lia
  subst e
  refine .inl ⟨⟨xs, q, Nat.le_refl _⟩, hQ H2 sm ?_⟩
  rw [hp2, ← hz, List.take_length]
variable {σ : St} {H : Hp} {tl : TE} {tt : TT} {fr : List Nat} {g : TG} {tb : TS} {D : Ends}
theorem qq2 : (tComp (iTup K tl) fr tt te σ H Q) = (tl σ H fun x H1 => ∃ a, x = .ref a ∧ (∃ xs, SqT K H1 a xs) ∧ ∀ p, H1 p = none → CompI (Itt K a) p (frV σ fr) tt te Q H1) := rfl
theorem sqQ : (tFor (iTup K te) g tb D σ H) = (te σ H fun x H1 => ∃ a, x = .ref a ∧ (∃ xs, SqT K H1 a xs) ∧ LoopI (Itt K a) g tb D σ H1) := rfl
theorem pq3 {a : Addr} {xs : List V} (Pv : Nat → St → Hp → Prop) (h0 : Pv 0 σ H) (hl : ∀ i σ H, i ≤ xs.length → Pv i σ H → SqT K H a xs)
  (hs : ∀ i x σ H, xs[i]? = some x → Pv i σ H → g x σ H fun σ2 H2 => tb { D with nx := Pv (i + 1), ct := Pv (i + 1), bk := D.nx } σ2 H2) (hd : ∀ σ H, Pv xs.length σ H → D.nx σ H) : LoopI (Itt K a) g tb D σ H := sq9 Pv h0 hl hs hd
theorem oqq {a : Addr} : rAllB K [.ref a] H Q ↔ ∃ bs : List Bool, SqL K H a (bs.map V.bl) ∧ Q (.bl (bs.all id)) H := by
 constructor
 ·rintro ⟨p, bs, h1, h2⟩; cases h1; exact ⟨bs, h2⟩
 ·rintro ⟨bs, h⟩; exact ⟨a, bs, rfl, h⟩
theorem rqZ {a : Addr} : rAnyB K [.ref a] H Q ↔ ∃ bs : List Bool, SqL K H a (bs.map V.bl) ∧ Q (.bl (bs.any id)) H := by
 constructor
 ·rintro ⟨p, bs, h1, h2⟩; cases h1; exact ⟨bs, h2⟩
 ·rintro ⟨bs, h⟩; exact ⟨a, bs, rfl, h⟩
theorem uqt {a : Addr} : rListU K [.ref a] H Q ↔ ∃ ys, (SqL K H a ys ∨ SqT K H a ys) ∧ ∀ l, H l = none → Q (.ref l) (upd H l (.lst ys)) := by
 constructor
 ·rintro ⟨p, bs, h1, h2⟩; cases h1; exact ⟨bs, h2⟩
 ·rintro ⟨bs, h⟩; exact ⟨a, bs, rfl, h⟩
theorem uq2 {a : Addr} : rTupleU K [.ref a] H Q ↔ ∃ ys, (SqL K H a ys ∧ ∀ l, H l = none → Q (.ref l) (upd H l (.tup ys))) ∨ (SqT K H a ys ∧ Q (.ref a) H) := by
 constructor
 ·rintro ⟨p, bs, h1, h2⟩; cases h1; exact ⟨bs, h2⟩
 ·rintro ⟨bs, h⟩; exact ⟨a, bs, rfl, h⟩
theorem sqI {a : Addr} {lo hi : Option Int} : rSlT K (.ref a) lo hi H Q ↔ ∃ xs, SqT K H a xs ∧ ¬ (HT.sIx xs.length 0 lo = 0 ∧ HT.sIx xs.length xs.length hi = xs.length) ∧ ∀ p, H p = none → Q (.ref p) (upd H p (.tup (cutV xs lo hi))) := by
 constructor
 ·rintro ⟨p, bs, h1, h2⟩; cases h1; exact ⟨bs, h2⟩
 ·rintro ⟨bs, h⟩; exact ⟨a, bs, rfl, h⟩
end
def tCut (t u : TS) : TS := fun D σ H => ∃ P : St → Hp → Prop, t { D with nx := P } σ H ∧ ∀ σ' H', P σ' H' → u D σ' H'
section
variable {X : Cx} {st : Stmt} {rest : List Stmt} {t u : TS}
theorem aqF (h1 : PS X st t) (h2 : PSs X rest u) : PSs X (st :: rest) (tCut t u) := by
 intro pins s σ H D I h
 obtain ⟨P, h, hu⟩ := h
 refine wpAny_execs_cons (thn (h1 pins s σ H { D with nx := P } I h) fun f s1 q => ?_)
 cases f with
 | next =>
  obtain ⟨σ', H', I', q⟩ := q
  exact h2 pins s1 σ' H' D I' (hu _ _ q)
 | ret v => exact q
 | brk => exact q
 | cont => exact q
def Later (u : TS) (D : Ends) (σ : St) (H : Hp) : Prop := u D σ H
theorem qqp {D : Ends} {x : Option V} {σ : St} {H : Hp} : (Later u D (x :: σ) H) = (u D (x :: σ) H) := rfl
theorem tqP {D : Ends} {σ : St} {H : Hp} : (tCut t u D σ H) = (∃ P : St → Hp → Prop, t { D with nx := P } σ H ∧ ∀ σ' H', P σ' H' → Later u D σ' H') := rfl
end
theorem SameBut.free {p q : Addr} {H H' : Hp} (sb : SameBut p H H') (hq : H' q = none) (hne : q ≠ p) : H q = none := by
 cases e : H q with
 | none => rfl
 | some o => rw [sb q o hne e] at hq; cases hq
theorem SameBut.upd {p q : Addr} {H H' : Hp} {o : HO} (sb : SameBut p H H') (hq : H q = none) : SameBut p H (upd H' q o) := fun b u n e => by
 rw [aqt (aqq e hq)]; exact sb b u n e
theorem aqU {H : Hp} {p : Addr} {o : HO} (hp : H p = none) : Same H (upd H p o) := fun b u e => by rw [aqt (aqq e hp)]; exact e
def tTupS (t : TA) : TE := fun σ H Q => t σ H fun xs H1 => xs.length ≤ sizeLine ∧ ∀ p H', H1 p = none → Same H1 H' → H' p = some (.tup xs) → Q (.ref p) H'
def tLstS (t : TA) : TE := fun σ H Q => t σ H fun xs H1 => xs.length ≤ sizeLine ∧ ∀ p H', H1 p = none → Same H1 H' → H' p = some (.lst xs) → Q (.ref p) H'
section
variable {X : Cx} {es : List Expr} {t : TA} {pos : Pos} {K : PySem.W.Frag}
theorem bqa {x1} (h : PA X es t) : PE X (.Tuple es x1 pos) (tTupS t) := by
 intro pins s σ H Q I hq
 refine wpAny_Tuple_spliced (thn (h pos pins s σ H _ I hq) fun us s1 ⟨xs, H1, I1, r, z, q⟩ => ⟨by rw [← r.length]; exact z, ?_⟩)
 have hf : H1 s1.heap.objs.size = none := I1.hok.fresh (Nat.le_refl _)
 refine ⟨.ref s1.heap.objs.size, upd H1 s1.heap.objs.size (.tup xs), I1.laid (t' := s1.toks) (fun b u e => Heap.get?_push_of_some _ e) (Nat.le_refl _) ?_, rfl, q _ _ hf (aqU hf) aqh⟩
 exact ⟨z, us, r, ⟨_, Heap.get?_push_size _ rfl, rfl, _, rfl⟩⟩
theorem cq5 (h : PA X es t) : PE X (.List es pos) (tLstS t) := by
 intro pins s σ H Q I hq
 refine wpAny_List_spliced (thn (h pos pins s σ H _ I hq) fun us s1 ⟨xs, H1, I1, r, z, q⟩ => ⟨by rw [← r.length]; exact z, ?_⟩)
 have hf : H1 s1.heap.objs.size = none := I1.hok.fresh (Nat.le_refl _)
 refine ⟨.ref s1.heap.objs.size, upd H1 s1.heap.objs.size (.lst xs), I1.laid (t' := s1.toks) (fun b u e => Heap.get?_push_of_some _ e) (Nat.le_refl _) ?_, rfl, q _ _ hf (aqU hf) aqh⟩
 exact ⟨z, us, 0, r, Heap.get?_push_size _ rfl⟩
def rAddS (K : PySem.W.Frag) : R2 := fun x y H Q => match x, y with
 | .int i, .int j => Q (.int (i + j)) H
 | .str i, .str j => i.length + j.length ≤ sizeLine ∧ Q (.str (i ++ j)) H
 | .ref a, .ref b => (∃ xs zs, H a = some (.lst xs) ∧ H b = some (.lst zs) ∧ xs.length + zs.length ≤ sizeLine ∧ ∀ p H', H p = none → Same H H' → H' p = some (.lst (xs ++ zs)) → Q (.ref p) H') ∨
   (∃ xs ys, H a = some (.tup xs) ∧ H b = some (.tup ys) ∧ xs.length + ys.length ≤ sizeLine ∧ ∀ p H', Same H H' → H' p = some (.tup (xs ++ ys)) → Q (.ref p) H')
 | _, _ => False
theorem aq8 : OpR X (binaryOp .Add) (rAddS K) := by
 intro pins s σ H x y v u Q I rx ry h
 refine pqA pins s σ H x y v u Q I rx ry ?_
 cases x with
 | int i =>
  cases y with
  | int j => exact h
  | _ => exact h.elim
 | str i =>
  cases y with
  | str j => exact h
  | _ => exact h.elim
 | ref a =>
  cases y with
  | ref b =>
   rcases h with ⟨xs, zs, h1, h2, h3, h4⟩ | h
   ·exact .inl ⟨xs, zs, h1, h2, h3, fun p hp => h4 p _ hp (aqU hp) aqh⟩
   ·exact .inr h
  | _ => exact h.elim
 | _ => exact h.elim
def rListS (K : PySem.W.Frag) : List V → Hp → VK → Prop := fun xs H Q => ∃ p ys, xs = [.ref p] ∧ (SqL K H p ys ∨ SqT K H p ys) ∧ ∀ l H', H l = none → Same H H' → H' l = some (.lst ys) → Q (.ref l) H'
def rTupleS (K : PySem.W.Frag) : List V → Hp → VK → Prop := fun xs H Q => ∃ p ys, xs = [.ref p] ∧ (SqL K H p ys ∨ H p = some (.tup ys)) ∧ ∀ l H', Same H H' → H' l = some (.tup ys) → Q (.ref l) H'
theorem dqi (h : X.K = K) : CallR X (.type "tuple") (rTupleS K) := by
 subst h
 intro pins s σ H xs us Q I r h
 obtain ⟨p, ys, h1, h2, h3⟩ := h
 rcases h2 with h2 | h2
 ·exact fqY pins s σ H xs us Q I r ⟨p, ys, h1, .inl ⟨h2, fun l hl => h3 l _ (aqU hl) aqh⟩⟩
 ·exact fqY pins s σ H xs us Q I r ⟨p, ys, h1, .inr ⟨SqT.of h2, h3 p H (Same.refl _) h2⟩⟩
def rSlS2 (K : PySem.W.Frag) : V → Option Int → Option Int → Hp → VK → Prop := fun x lo hi H Q => ∃ a xs, x = .ref a ∧ SqT K H a xs ∧
 ¬ (HT.sIx xs.length 0 lo = 0 ∧ HT.sIx xs.length xs.length hi = xs.length) ∧ ∀ p H', H p = none → Same H H' → H' p = some (.tup (cutV xs lo hi)) → Q (.ref p) H'
end
section
variable {σ : St} {H : Hp} {Q : VK} {K : PySem.W.Frag} {aa : TA}
theorem sqk : (tTupS aa σ H Q) = (aa σ H fun xs H1 => xs.length ≤ sizeLine ∧ ∀ p H', H1 p = none → Same H1 H' → H' p = some (.tup xs) → Q (.ref p) H') := rfl
theorem sqE : (tLstS aa σ H Q) = (aa σ H fun xs H1 => xs.length ≤ sizeLine ∧ ∀ p H', H1 p = none → Same H1 H' → H' p = some (.lst xs) → Q (.ref p) H') := rfl
theorem sqU {i j : Int} : (rAddS K (.int i) (.int j) H Q) = (Q (.int (i + j)) H) := rfl
theorem sq6 {i j : Str} : (rAddS K (.str i) (.str j) H Q) = (i.length + j.length ≤ sizeLine ∧ Q (.str (i ++ j)) H) := rfl
theorem sqf {a : Addr} : rListS K [.ref a] H Q ↔ ∃ ys, (SqL K H a ys ∨ SqT K H a ys) ∧ ∀ l H', H l = none → Same H H' → H' l = some (.lst ys) → Q (.ref l) H' := by
 constructor
 ·rintro ⟨p, bs, h1, h2⟩; cases h1; exact ⟨bs, h2⟩
 ·rintro ⟨bs, h⟩; exact ⟨a, bs, rfl, h⟩
theorem rq3 {a : Addr} : rTupleS K [.ref a] H Q ↔ ∃ ys, (SqL K H a ys ∨ H a = some (.tup ys)) ∧ ∀ l H', Same H H' → H' l = some (.tup ys) → Q (.ref l) H' := by
 constructor
 ·rintro ⟨p, bs, h1, h2⟩; cases h1; exact ⟨bs, h2⟩
 ·rintro ⟨bs, h⟩; exact ⟨a, bs, rfl, h⟩
theorem rq1 {a : Addr} {lo hi : Option Int} : rSlS2 K (.ref a) lo hi H Q ↔ ∃ xs, SqT K H a xs ∧ ¬ (HT.sIx xs.length 0 lo = 0 ∧ HT.sIx xs.length xs.length hi = xs.length) ∧ ∀ p H', H p = none → Same H H' → H' p = some (.tup (cutV xs lo hi)) → Q (.ref p) H' := by
 constructor
 ·rintro ⟨p, bs, h1, h2⟩; cases h1; exact ⟨bs, h2⟩
 ·rintro ⟨bs, h⟩; exact ⟨a, bs, rfl, h⟩
end
def rSlLS (K : PySem.W.Frag) : V → Option Int → Option Int → Hp → VK → Prop := fun x lo hi H Q => ∃ a xs, x = .ref a ∧ SqL K H a xs ∧ ∀ p H', H p = none → Same H H' → H' p = some (.lst (cutV xs lo hi)) → Q (.ref p) H'
theorem qqu {K : PySem.W.Frag} {H : Hp} {Q : VK} {a : Addr} {lo hi : Option Int} : rSlLS K (.ref a) lo hi H Q ↔ ∃ xs, SqL K H a xs ∧ ∀ p H', H p = none → Same H H' → H' p = some (.lst (cutV xs lo hi)) → Q (.ref p) H' := by
 constructor
 ·rintro ⟨p, bs, h1, h2⟩; cases h1; exact ⟨bs, h2⟩
 ·rintro ⟨bs, h⟩; exact ⟨a, bs, rfl, h⟩
def rIsB (neg : Bool) : R2 := fun x y H Q => match x, y with
 | .bl b, .bl c => Q (.bl (if neg then !decide (b = c) else decide (b = c))) H
 | _, _ => False
theorem vqo {b c : Bool} {H : Hp} {Q : VK} : (rIsB false (.bl b) (.bl c) H Q) = (Q (.bl (decide (b = c))) H) := rfl
end L2
namespace Wm
open PySem L2
def isSg (c : Nat) : Bool := decide (32 ≤ c) && decide (c ≤ 126) && !decide (c = 37)
def SG : List Nat := (List.range 127).filter isSg
def hexd (n : Nat) : Nat := if n < 10 then 48 + n else 87 + n
def fig (a : Nat) : Option Nat := if 48 ≤ a ∧ a ≤ 57 then some (a - 48) else if 97 ≤ a ∧ a ≤ 102 then some (a - 87) else if 65 ≤ a ∧ a ≤ 70 then some (a - 55) else none
def figV (a : Nat) : V := match fig a with | some n => .int (n : Nat) | none => .non
abbrev one (c : Nat) : V := .str ⟨#[c]⟩
def sgV (n : Nat) : V := if isSg n then one n else .non
def signOf (a b : Nat) : V := match fig a, fig b with | some h, some l => sgV (h * 16 + l) | _, _ => .non
def signOfL : List Nat → V
 | [a, b] => signOf a b
 | _ => .non
theorem oqB {c : Nat} : c ∈ SG ↔ isSg c = true := by
 unfold SG
 rw [List.mem_filter, List.mem_range]
 constructor
 ·exact fun h => h.2
 ·intro h
  refine ⟨?_, h⟩
  simp only [isSg, Bool.and_eq_true, decide_eq_true_eq] at h
  lia
theorem dqH {c : Nat} (h : isSg c = true) : 32 ≤ c ∧ c ≤ 126 ∧ c ≠ 37 := by
 simp only [isSg, Bool.and_eq_true, decide_eq_true_eq, Bool.not_eq_true', decide_eq_false_iff_not] at h
 lia
theorem sqF : ∀ n, n < 16 → (Str.ofString "0123456789abcdef").cps.toList[n]? = some (hexd n) := by decide +kernel
theorem vqi {i : Int} {n : Nat} (e : i = (n : Int)) (h : n < 16) : atI (Str.ofString "0123456789abcdef").cps.toList i = some (hexd n) := by
 rw [e]; exact aqH (sqF n h)
theorem kqT : (Str.ofString "0123456789abcdef").length ≤ sizeLine := by decide +kernel
theorem qq5 : ∀ a, a < 128 → a ∈ (Str.ofString "0123456789abcdef").cps.toList →
  Builtin.Str.occurrences (Str.ofString "0123456789abcdef") ⟨#[a]⟩ 0 (Str.ofString "0123456789abcdef").length 1 = [(fig a).getD 0] ∧ (fig a).isSome = true := by decide +kernel
theorem qqm : ∀ a, a < 128 → ¬ a ∈ (Str.ofString "0123456789abcdef").cps.toList → a ∈ (Str.ofString "0123456789ABCDEF").cps.toList →
  Builtin.Str.occurrences (Str.ofString "0123456789ABCDEF") ⟨#[a]⟩ 0 (Str.ofString "0123456789ABCDEF").length 1 = [(fig a).getD 0] ∧ (fig a).isSome = true := by decide +kernel
theorem vqE : ∀ a, a < 128 → ¬ a ∈ (Str.ofString "0123456789abcdef").cps.toList → ¬ a ∈ (Str.ofString "0123456789ABCDEF").cps.toList → fig a = none := by decide +kernel
theorem qqR : ∀ n, n < 127 → isSg n = true → (Str.ofString " !\"#$&'()*+,-./0123456789:;<=>?@ABCDEFGHIJKLMNOPQRSTUVWXYZ[\\]^_`abcdefghijklmnopqrstuvwxyz{|}~").cps.toList[n - 32 - (if 37 < n then 1 else 0)]? = some n := by decide +kernel
theorem lqn : (Str.ofString " !\"#$&'()*+,-./0123456789:;<=>?@ABCDEFGHIJKLMNOPQRSTUVWXYZ[\\]^_`abcdefghijklmnopqrstuvwxyz{|}~").length ≤ sizeLine := by decide +kernel
theorem lqD (l : List Nat) (a : Nat) : ∀ k, ((List.range k).map fun j => a + j).filterMap (fun i => l[i]?) = (l.drop a).take k
 | 0 => by simp
 | k + 1 => by
  rw [List.range_succ, List.map_append, List.filterMap_append, lqD l a k, List.take_add_one, List.getElem?_drop]
  simp only [List.map_cons, List.map_nil]
  cases e : l[a + k]? with
  | none => simp [e]
  | some c => simp [e]
def clipI (n : Nat) (v : Int) : Nat := (max 0 (min (if v < 0 then v + n else v) n)).toNat
theorem qqc (a b : Nat) : sliceRange (a : Int) (b : Int) 1 = (List.range (b - a)).map fun j => a + j := by
 unfold sliceRange
 have h1 : (1 : Int) > 0 := by decide
 simp only [h1, if_true, Int.one_mul, Int.ediv_one]
 have e : (if (a : Int) < (b : Int) then (b : Int) - (a : Int) + 1 - 1 else 0).toNat = b - a := by split <;> lia
 rw [e]
 apply List.map_congr_left
 intro j _
 lia
theorem lqO (lo hi : Option Int) (n : Nat) : Builtin.Str.strSliceIndices lo hi 1 n = (List.range ((hi.elim n (clipI n)) - (lo.elim 0 (clipI n)))).map fun j => (lo.elim 0 (clipI n)) + j := by
 unfold Builtin.Str.strSliceIndices
 have h1 : (1 : Int) > 0 := by decide
 simp only [h1, if_true]
 rw [← qqc]
 congr 1
 ·cases lo with
  | none => rfl
  | some v => simp only [Option.elim_some, clipI]; lia
 ·cases hi with
  | none => rfl
  | some v => simp only [Option.elim_some, clipI]; lia
theorem hq8 (l : List Nat) (lo hi : Option Int) : Txt.slice (⟨l.toArray⟩ : Str) lo hi = ⟨((l.drop (lo.elim 0 (clipI l.length))).take ((hi.elim l.length (clipI l.length)) - (lo.elim 0 (clipI l.length)))).toArray⟩ := by
 have hl : (⟨l.toArray⟩ : Str).length = l.length := by simp [Str.length]
 have hb : hi.elim l.length (clipI l.length) ≤ l.length := by
  cases hi with
  | none => exact Nat.le_refl _
  | some v => simp only [Option.elim_some, clipI]; lia
 have hb' : lo.elim 0 (clipI l.length) ≤ l.length := by
  cases lo with
  | none => exact Nat.zero_le _
  | some v => simp only [Option.elim_some, clipI]; lia
 have ef : (fun i : Nat => (⟨l.toArray⟩ : Str).cps[i]?) = fun i => l[i]? := by funext i; simp
 unfold Txt.slice
 rw [hl, lqO, ef]
 split
 ·rename_i h
  simp only [List.length_map, List.length_range, beq_self_eq_true, Bool.true_and, beq_iff_eq] at h
  have e1 : lo.elim 0 (clipI l.length) = 0 := by lia
  have e2 : hi.elim l.length (clipI l.length) = l.length := by lia
  rw [e1, e2]
  simp
 ·rw [lqD l (lo.elim 0 (clipI l.length)) ((hi.elim l.length (clipI l.length)) - (lo.elim 0 (clipI l.length)))]
theorem kqq (n k : Nat) : clipI n (k : Int) = min k n := by unfold clipI; split <;> lia
theorem nq7 (l : List Nat) (k : Nat) : Txt.slice (⟨l.toArray⟩ : Str) (some (k : Int)) none = ⟨(l.drop k).toArray⟩ := by
 rw [hq8]
 simp only [Option.elim_some, Option.elim_none, kqq]
 by_cases h : k ≤ l.length
 ·rw [Nat.min_eq_left h, List.take_of_length_le (by simp)]
 ·rw [Nat.min_eq_right (by lia), List.drop_eq_nil_of_le (Nat.le_refl _), List.drop_eq_nil_of_le (by lia)]
  simp
theorem mqK (l : List Nat) (k : Nat) : Txt.slice (⟨l.toArray⟩ : Str) none (some (k : Int)) = ⟨(l.take k).toArray⟩ := by
 rw [hq8]
 simp only [Option.elim_some, Option.elim_none, kqq, List.drop_zero, Nat.sub_zero]
 by_cases h : k ≤ l.length
 ·rw [Nat.min_eq_left h]
 ·rw [Nat.min_eq_right (by lia), List.take_length, List.take_of_length_le (by lia)]
theorem oq0 (l : List Nat) (i j : Nat) : Txt.slice (⟨l.toArray⟩ : Str) (some (i : Int)) (some (j : Int)) = ⟨((l.drop i).take (j - i)).toArray⟩ := by
 rw [hq8]
 simp only [Option.elim_some, kqq]
 by_cases h : i ≤ l.length
 ·rw [Nat.min_eq_left h]
  by_cases h2 : j ≤ l.length
  ·rw [Nat.min_eq_left h2]
  ·rw [Nat.min_eq_right (by lia : l.length ≤ j), List.take_of_length_le (by simp), List.take_of_length_le (by simp; lia)]
 ·rw [Nat.min_eq_right (by lia : l.length ≤ i), List.drop_eq_nil_of_le (Nat.le_refl _), List.drop_eq_nil_of_le (by lia)]
  simp
theorem tqO : Str.ofString "" = ⟨([] : List Nat).toArray⟩ := by decide +kernel
theorem nqe (ys : List Str) : Txt.join (⟨([] : List Nat).toArray⟩ : Str) ys = ⟨(ys.flatMap fun y => y.cps.toList).toArray⟩ := by
 show Builtin.Str.glued _ _ = _
 rw [StrLaws.glued_eq_join]
 induction ys with
 | nil => rfl
 | cons y r ih =>
  cases r with
  | nil =>
   show y = _
   simp
  | cons z r =>
   show y ++ (⟨#[]⟩ : Str) ++ Str.join ⟨#[]⟩ (z :: r) = _
   rw [ih]
   show Str.mk (y.cps ++ #[] ++ _) = _
   simp [List.flatMap_cons]
theorem fq6 (l m : List Nat) : ((⟨l.toArray⟩ : Str) ++ (⟨m.toArray⟩ : Str)) = ⟨(l ++ m).toArray⟩ := by
 show Str.mk (l.toArray ++ m.toArray) = _
 simp
theorem fqA {l m : List Nat} : ((⟨l.toArray⟩ : Str) = ⟨m.toArray⟩) ↔ l = m := by
 constructor
 ·intro h; injection h with h; injection h
 ·rintro rfl; rfl
theorem bqc (l : List Nat) : (⟨l.toArray⟩ : Str).length = l.length := by simp [Str.length]
theorem pq0 : Str.ofString "~" = ⟨[126].toArray⟩ := by decide +kernel
theorem eqQ {a n : Nat} (h : fig a = some n) : figV a = .int (n : Nat) := by unfold figV; rw [h]
theorem iqG {a : Nat} (h : fig a = none) : figV a = .non := by unfold figV; rw [h]
theorem tqz {n : Nat} (h : isSg n = true) : sgV n = one n := by unfold sgV; rw [if_pos h]
theorem oqX {n : Nat} (h : ¬ isSg n = true) : sgV n = .non := by unfold sgV; rw [if_neg h]
theorem sqv {n : Nat} (h1 : 32 ≤ n) (h2 : n ≤ 126) (h3 : n ≠ 37) : isSg n = true := by
 simp only [isSg, Bool.and_eq_true, decide_eq_true_eq, Bool.not_eq_true', decide_eq_false_iff_not]
 lia
theorem nqp {l : List Nat} (h : l.length ≠ 2) : signOfL l = .non := by
 match l with
 | [] => rfl
 | [_] => rfl
 | [_, _] => exact absurd rfl h
 | _ :: _ :: _ :: _ => rfl
theorem uqY {l : List Nat} (h : l.length = 2) : ∃ a b, l = [a, b] := by
 match l, h with
 | [a, b], _ => exact ⟨a, b, rfl⟩
theorem jqW (l : List Nat) (m k : Int) (h0 : 0 < k) (h : k ≤ l.length) : ∃ a, a ∈ l ∧ atI l (m % k) = some a := by
 have h1 := Int.emod_nonneg m (show k ≠ 0 by lia)
 have h2 := Int.emod_lt_of_pos m h0
 have h3 : (m % k).toNat < l.length := by lia
 refine ⟨l[(m % k).toNat], List.getElem_mem _, ?_⟩
 have := aqH (xs := l) (j := (m % k).toNat) (v := l[(m % k).toNat]) (by simp [h3])
 rw [Int.toNat_of_nonneg h1] at this
 exact this
def isPl (c : Nat) : Bool := decide (48 ≤ c ∧ c ≤ 57) || decide (65 ≤ c ∧ c ≤ 90) || decide (97 ≤ c ∧ c ≤ 122) || decide (c = 45) || decide (c = 46) || decide (c = 95)
theorem mq3 : ∀ c, c < 128 → (decide (c ∈ (Str.ofString "abcdefghijklmnopqrstuvwxyzABCDEFGHIJKLMNOPQRSTUVWXYZ0123456789-_.").cps.toList)) = isPl c := by decide +kernel
def wr1 (c : Nat) : List Nat := if isPl c then [c] else [126, hexd (c / 16), hexd (c % 16)]
def wr (l : List Nat) : List Nat := l.flatMap wr1
theorem pqt (c : Nat) : (wr1 c).length ≤ 3 := by unfold wr1; split <;> simp
theorem gq7 (l : List Nat) : (wr l).length ≤ 3 * l.length := by
 induction l with
 | nil => simp [wr]
 | cons c r ih =>
  have := pqt c
  unfold wr at ih ⊢
  rw [List.flatMap_cons, List.length_append, List.length_cons]
  lia
def sgO (a b : Nat) : Option Nat := match fig a, fig b with
 | some h, some l => if isSg (h * 16 + l) then some (h * 16 + l) else none
 | _, _ => none
def oV : Option Nat → V
 | some c => one c
 | none => .non
theorem oq7 (a b : Nat) : signOf a b = oV (sgO a b) := by
 unfold signOf sgO
 cases fig a with
 | none => rfl
 | some h =>
  cases fig b with
  | none => rfl
  | some l =>
   simp only [sgV]
   split <;> rfl
theorem sqR {c : Nat} (hc : isSg c = true) : sgO (hexd (c / 16)) (hexd (c % 16)) = some c := by
 have l := dqH hc
 have key : ∀ h, h < 16 → fig (hexd h) = some h := by decide +kernel
 unfold sgO
 rw [key _ (by lia), key _ (by lia)]
 have e : c / 16 * 16 + c % 16 = c := by lia
 simp only [e, hc, if_true]
theorem tqq {ns : List Int} {k : Nat} (h : k < ns.length) : atI (ns.map V.int) (k : Int) = some (.int (ns.getD k 0)) := by
 refine aqH ?_
 rw [List.getElem?_map, List.getElem?_eq_getElem h, List.getD_eq_getElem?_getD, List.getElem?_eq_getElem h]
 rfl
theorem aqp {n : Nat} (h : n ≤ 100000) : n ≤ sizeLine := Nat.le_trans h (by decide)
theorem rqX (f : Nat → Nat) (l : List Nat) : (l.toArray).map f = (l.map f).toArray := by simp
theorem oqk (l : List Nat) : (⟨l.toArray⟩ : Str).cps.toList = l := rfl
theorem nqH (dn : List Nat) : ((dn.map fun c => (⟨[c].toArray⟩ : Str)).flatMap fun y => y.cps.toList) = dn := by
 induction dn with
 | nil => rfl
 | cons c r ih => rw [List.map_cons, List.flatMap_cons, ih]; rfl
theorem oqF (dn : List Nat) : ((dn.map fun c => (⟨[c].toArray⟩ : Str)).map (·.length)).sum = dn.length := by
 induction dn with
 | nil => rfl
 | cons c r ih => rw [List.map_cons, List.map_cons, List.sum_cons, ih, List.length_cons]; show 1 + _ = _; lia
theorem sqx (xs : List V) (m k : Int) (h0 : 0 < k) (h : k ≤ xs.length) : ∃ a, a ∈ xs ∧ atI xs (m % k) = some a := by
 have h1 := Int.emod_nonneg m (show k ≠ 0 by lia)
 have h2 := Int.emod_lt_of_pos m h0
 have h3 : (m % k).toNat < xs.length := by lia
 refine ⟨xs[(m % k).toNat], List.getElem_mem _, ?_⟩
 have := aqH (xs := xs) (j := (m % k).toNat) (v := xs[(m % k).toNat]) (by simp [h3])
 rw [Int.toNat_of_nonneg h1] at this
 exact this
def hit (a b c : Nat) : Bool := decide ([hexd (c / 16), hexd (c % 16)] = [PyProof.Rows.lo1 a, PyProof.Rows.lo1 b])
mutual
def smallD : PyData → Bool
 | .str x => decide (x.length ≤ 100000)
 | .list xs => decide (xs.length ≤ 100000) && smallAll xs
 | .tuple xs => decide (xs.length ≤ 100000) && smallAll xs
 | .dict _ => true
 | .none => true
 | .bool _ => true
 | .int _ => true
def smallAll : List PyData → Bool
 | [] => true
 | d :: ds => smallD d && smallAll ds
end
theorem kq7 {x : Str} (h : smallD (.str x) = true) : x.length ≤ 100000 := by simpa [smallD] using h
def isLet (c : Nat) : Bool := decide (65 ≤ c ∧ c ≤ 90) || decide (97 ≤ c ∧ c ≤ 122)
def isAln (c : Nat) : Bool := isLet c || decide (48 ≤ c ∧ c ≤ 57)
theorem uqw : ∀ c, c < 128 → (decide (c ∈ (Str.ofString "abcdefghijklmnopqrstuvwxyzABCDEFGHIJKLMNOPQRSTUVWXYZ").cps.toList)) = isLet c := by decide +kernel
theorem uqu : ∀ c, c < 128 → (decide (c ∈ (Str.ofString "abcdefghijklmnopqrstuvwxyzABCDEFGHIJKLMNOPQRSTUVWXYZ0123456789").cps.toList)) = isAln c := by decide +kernel
theorem tqF : (Str.ofString " !\"#$&'()*+,-./0123456789:;<=>?@ABCDEFGHIJKLMNOPQRSTUVWXYZ[\\]^_`abcdefghijklmnopqrstuvwxyz{|}~").cps.toList = SG := by decide +kernel
theorem tqE (c : Nat) : (decide (c ∈ (Str.ofString " !\"#$&'()*+,-./0123456789:;<=>?@ABCDEFGHIJKLMNOPQRSTUVWXYZ[\\]^_`abcdefghijklmnopqrstuvwxyz{|}~").cps.toList)) = isSg c := by
 rw [tqF, Bool.eq_iff_iff, decide_eq_true_eq, oqB]
def tx : PyData → Bool
 | .str x => x.cps.toList.all isSg
 | _ => false
def schD : PyData → Bool
 | .str x => x.cps.toList.all isSg && decide (x.length ≤ 8) && (x.cps.toList.take 1).all isLet && x.cps.toList.all isAln
 | _ => false
abbrev st (l : List Nat) : PyData := .str ⟨l.toArray⟩
def oD : Option (List Nat) → PyData
 | none => .none
 | some l => st l
def otV : Option (List Nat) → V
 | none => .non
 | some l => .str ⟨l.toArray⟩
theorem lq9 {H : Hp} (o : Option (List Nat)) : IsT H (oD o) (otV o) := by
 cases o with
 | none => exact .non
 | some x => exact .str _
def iD : Option Int → PyData
 | none => .none
 | some i => .int i
def qD : Option (List (List Nat × Option (List Nat))) → PyData
 | none => .none
 | some ps => .tuple (ps.map fun p => .tuple [st p.1, oD p.2])
structure Ad where
 scheme : List Nat
 house : Option (List Nat)
 door : Option Int
 rooted : Bool
 steps : List (List Nat)
 ends : Bool
 quest : Option (List (List Nat × Option (List Nat)))
 mark : Option (List Nat)
def Ad.way (x : Ad) : PyData := .tuple [.bool x.rooted, .tuple (x.steps.map st), .bool x.ends]
def Ad.data (x : Ad) : PyData := .tuple [st x.scheme, oD x.house, iD x.door, x.way, qD x.quest, oD x.mark]
def Tx (n : Nat) (l : List Nat) : Prop := l.length ≤ n ∧ ∀ c ∈ l, isSg c = true
structure Ad.Ok (x : Ad) : Prop where
 sch : x.scheme.length ≤ 8 ∧ (∀ c ∈ x.scheme, isAln c = true) ∧ ∀ c ∈ x.scheme.take 1, isLet c = true
 hou : ∀ l, x.house = some l → 0 < l.length ∧ Tx 60 l
 doo : ∀ i, x.door = some i → (0 ≤ i ∧ i ≤ 65535) ∧ x.house ≠ none
 stp : x.steps.length ≤ 50 ∧ ∀ l ∈ x.steps, 0 < l.length ∧ Tx 60 l
 roo : x.scheme ≠ [] ∨ x.house ≠ none → x.rooted = true
 end_ : x.steps = [] → x.ends = x.rooted
 que : ∀ ps, x.quest = some ps → ps.length ≤ 20 ∧ ∀ p ∈ ps, (0 < p.1.length ∧ Tx 6 p.1) ∧ ∀ v, p.2 = some v → Tx 6 v
 mar : ∀ l, x.mark = some l → Tx 60 l
theorem nqh {c : Nat} (h : isAln c = true) : isSg c = true := by
 simp only [isAln, isLet, Bool.or_eq_true, decide_eq_true_eq] at h
 simp only [isSg, Bool.and_eq_true, decide_eq_true_eq, Bool.not_eq_true', decide_eq_false_iff_not]
 lia
def itV : Option Int → V
 | none => .non
 | some i => .int i
theorem sqo {H : Hp} (o : Option Int) : IsT H (iD o) (itV o) := by
 cases o with
 | none => exact .non
 | some x => exact .int _
theorem sqy (ds : List PyData) : PyData.eqv (.tuple ds) (.tuple []) = ds.isEmpty := by
 cases ds <;> simp [PyData.eqv, PyData.eqvAll]
theorem fqv {l : List Nat} : ((⟨l.toArray⟩ : Str) = ⟨#[]⟩) ↔ l = [] := fqA (m := [])
def Bad (f : PyData → Bool) (H : Hp) (v : V) : Prop := ∃ d, Is H d v ∧ smallD d = true ∧ f d = false
def Bads (f : PyData → Bool) (H : Hp) (vs : List V) : Prop := ∀ v ∈ vs, Bad f H v
theorem Bads.cons {f : PyData → Bool} {H : Hp} {v : V} {vs : List V} (h : Bad f H v) (r : Bads f H vs) : Bads f H (v :: vs) := fun w hw => by
 rcases List.mem_cons.mp hw with rfl | hw
 ·exact h
 ·exact r w hw
theorem lqc {q : Addr} {H H' : Hp} {o : HO} (hq : H q = none) (sm : Same H H') : Same H (upd H' q o) := fun b u e => by
 rw [aqt (aqq e hq)]; exact sm _ _ e
def dg (i : Int) : List Nat := (Str.ofString (toString i)).cps.toList
theorem rqt {i : Int} (hi : 0 ≤ i) : ∀ c ∈ dg i, 48 ≤ c ∧ c ≤ 57 := by
 intro c hc
 obtain ⟨n, rfl⟩ := Int.eq_ofNat_of_zero_le hi
 unfold dg at hc
 rw [PySem.W.KIN.signs_num, List.mem_map] at hc
 obtain ⟨d, hd, rfl⟩ := hc
 have := Nat.isDigit_of_mem_toDigits (by decide) (by decide) hd
 simp only [Char.isDigit, Bool.and_eq_true, decide_eq_true_eq] at this
 exact ⟨this.1, this.2⟩
theorem rqg {i : Int} (hi : 0 ≤ i) (hi' : i ≤ 65535) : (dg i).length ≤ 5 := by
 have := PyProof.Rows.toString_length_le hi (k := 5) (by decide) (by lia)
 simpa [dg, Str.length] using this
def Hd (p : Nat → Bool) (r : List Nat) : Prop := ∀ c r', r = c :: r' → p c = true
theorem Hd.cons {p : Nat → Bool} {c : Nat} {r : List Nat} (h : p c = true) : Hd p (c :: r) := fun d r' e => by injection e with e; exact e ▸ h
def wch (c : Nat) : Bool := isPl c || decide (c = 126)
theorem oqo : ∀ n, n < 16 → isPl (hexd n) = true := by decide +kernel
theorem qqo {l : List Nat} (h : ∀ c ∈ l, isSg c = true) : ∀ c ∈ wr l, wch c = true := by
 intro c hc
 unfold wr at hc
 obtain ⟨d, hd, hc⟩ := List.mem_flatMap.mp hc
 have := dqH (h d hd)
 unfold wr1 at hc
 split at hc
 ·next hp => rw [List.mem_singleton] at hc; rw [hc, wch, hp]; rfl
 ·simp only [List.mem_cons, List.not_mem_nil, or_false] at hc
  rcases hc with rfl | rfl | rfl
  ·rfl
  ·rw [wch, oqo _ (by lia)]; rfl
  ·rw [wch, oqo _ (by lia)]; rfl
theorem kqB {c : Nat} (h : wch c = true) : c ≠ 35 ∧ c ≠ 38 ∧ c ≠ 47 ∧ c ≠ 58 ∧ c ≠ 61 ∧ c ≠ 63 := by
 refine ⟨?_, ?_, ?_, ?_, ?_, ?_⟩ <;> (rintro rfl; revert h; decide +kernel)
theorem oqy {c : Nat} (h : isAln c = true) : wch c = true := by
 simp only [isAln, isLet, Bool.or_eq_true, decide_eq_true_eq] at h
 simp only [wch, isPl, Bool.or_eq_true, decide_eq_true_eq]
 lia
def tlT (sep : Nat) : List (List Nat) → List Nat
 | [] => []
 | s :: r => sep :: (s ++ tlT sep r)
def joinT (sep : Nat) : List (List Nat) → List Nat
 | [] => []
 | s :: r => s ++ tlT sep r
theorem rqM {sep : Nat} {P : Nat → Prop} (hs : P sep) : ∀ {a : List (List Nat)}, (∀ s ∈ a, ∀ c ∈ s, P c) → ∀ c ∈ tlT sep a, P c
 | [], _, c, hc => by cases hc
 | s :: a, h, c, hc => by
  simp only [tlT, List.mem_cons, List.mem_append] at hc
  rcases hc with rfl | hc | hc
  ·exact hs
  ·exact h s (List.mem_cons_self ..) c hc
  ·exact rqM hs (fun t ht => h t (List.mem_cons_of_mem _ ht)) c hc
theorem nqi {sep : Nat} {P : Nat → Prop} (hs : P sep) {a : List (List Nat)} (h : ∀ s ∈ a, ∀ c ∈ s, P c) : ∀ c ∈ joinT sep a, P c := by
 intro c hc
 match a with
 | [] => cases hc
 | s :: a =>
  simp only [joinT, List.mem_append] at hc
  rcases hc with hc | hc
  ·exact h s (List.mem_cons_self ..) c hc
  ·exact rqM hs (fun t ht => h t (List.mem_cons_of_mem _ ht)) c hc
def oT (sep : Nat) : Option (List Nat) → List Nat
 | none => []
 | some l => sep :: wr l
def pairT (p : List Nat × Option (List Nat)) : List Nat := wr p.1 ++ oT 61 p.2
def queT : Option (List (List Nat × Option (List Nat))) → List Nat
 | none => []
 | some ps => 63 :: joinT 38 (ps.map pairT)
def wayT (r : Bool) (ss : List (List Nat)) (e : Bool) : List Nat := (if r then [47] else []) ++ (joinT 47 (ss.map wr) ++ (if e && !ss.isEmpty then [47] else []))
def dooT : Option Int → List Nat
 | none => []
 | some i => 58 :: dg i
def houT : Option (List Nat) → List Nat
 | none => []
 | some l => 47 :: 47 :: wr l
def schT (s : List Nat) : List Nat := if s = [] then [] else s ++ [58]
def Ad.wayT (x : Ad) : List Nat := Wm.wayT x.rooted x.steps x.ends
def Ad.shw (x : Ad) : List Nat := schT x.scheme ++ (houT x.house ++ (dooT x.door ++ (x.wayT ++ (queT x.quest ++ oT 35 x.mark))))
theorem oqD {sep : Nat} {P : Nat → Prop} (hs : P sep) (hw : ∀ c, wch c = true → P c) {o : Option (List Nat)} (h : ∀ l, o = some l → ∀ c ∈ l, isSg c = true) : ∀ c ∈ oT sep o, P c := by
 intro c hc
 cases o with
 | none => cases hc
 | some l =>
  simp only [oT, List.mem_cons] at hc
  rcases hc with rfl | hc
  ·exact hs
  ·exact hw c (qqo (h l rfl) c hc)
def PairOk (p : List Nat × Option (List Nat)) : Prop := (0 < p.1.length ∧ ∀ c ∈ p.1, isSg c = true) ∧ ∀ v, p.2 = some v → ∀ c ∈ v, isSg c = true
theorem qq8 {P : Nat → Prop} (hs : P 61) (hw : ∀ c, wch c = true → P c) {p : List Nat × Option (List Nat)} (h : PairOk p) : ∀ c ∈ pairT p, P c := by
 intro c hc
 rcases List.mem_append.mp hc with hc | hc
 ·exact hw c (qqo h.1.2 c hc)
 ·exact oqD hs hw h.2 c hc
def StepOk (s : List Nat) : Prop := 0 < s.length ∧ ∀ c ∈ s, isSg c = true
def stpT (ss : List (List Nat)) (e : Bool) : List Nat := joinT 47 (ss.map wr) ++ (if e && !ss.isEmpty then [47] else [])
theorem qqJ (e : Bool) : stpT [] e = [] := by simp [stpT, joinT]
theorem nq9 (r : Bool) (ss : List (List Nat)) (e : Bool) : wayT r ss e = (if r then [47] else []) ++ stpT ss e := rfl
structure Ad.Wf (x : Ad) : Prop where
 sch : x.scheme.length ≤ 8 ∧ (∀ c ∈ x.scheme, isAln c = true) ∧ ∀ c ∈ x.scheme.take 1, isLet c = true
 hou : ∀ l, x.house = some l → (0 < l.length ∧ l.length ≤ 60) ∧ ∀ c ∈ l, isSg c = true
 doo : ∀ i, x.door = some i → (0 ≤ i ∧ i ≤ 65535) ∧ x.house ≠ none
 stp : ∀ s ∈ x.steps, StepOk s
 roo : x.scheme ≠ [] ∨ x.house ≠ none → x.rooted = true
 end_ : x.steps = [] → x.ends = x.rooted
 que : ∀ ps, x.quest = some ps → ∀ p ∈ ps, PairOk p
 mar : ∀ l, x.mark = some l → ∀ c ∈ l, isSg c = true
theorem Ad.Ok.wf {x : Ad} (h : x.Ok) : x.Wf where
 sch := h.sch
 hou := fun l e => ⟨⟨(h.hou l e).1, (h.hou l e).2.1⟩, (h.hou l e).2.2⟩
 doo := h.doo
 stp := fun s hs => ⟨(h.stp.2 s hs).1, (h.stp.2 s hs).2.2⟩
 roo := h.roo
 end_ := h.end_
 que := fun ps e p hp => ⟨⟨((h.que ps e).2 p hp).1.1, ((h.que ps e).2 p hp).1.2.2⟩, fun v hv => (((h.que ps e).2 p hp).2 v hv).2⟩
 mar := fun l e => (h.mar l e).2
def Ad.mid (x : Ad) : List Nat := houT x.house ++ (dooT x.door ++ x.wayT)
def Ad.pre (x : Ad) : List Nat := schT x.scheme ++ x.mid
theorem Ad.shw_eq (x : Ad) : x.shw = (x.pre ++ queT x.quest) ++ oT 35 x.mark := by simp [Ad.shw, Ad.pre, Ad.mid]
theorem sq0 {P : Nat → Prop} (hs : P 47) (hw : ∀ c, wch c = true → P c) {ss : List (List Nat)} {e : Bool} (h : ∀ s ∈ ss, StepOk s) : ∀ c ∈ stpT ss e, P c := by
 intro c hc
 rcases List.mem_append.mp hc with hc | hc
 ·refine nqi hs (fun s hs' d hd => ?_) c hc
  obtain ⟨t, ht, rfl⟩ := List.mem_map.mp hs'
  exact hw d (qqo (h t ht).2 d hd)
 ·split at hc
  ·rw [List.mem_singleton.mp hc]; exact hs
  ·cases hc
theorem oqf {P : Nat → Prop} (hs : P 47) (hw : ∀ c, wch c = true → P c) {r : Bool} {ss : List (List Nat)} {e : Bool} (h : ∀ s ∈ ss, StepOk s) : ∀ c ∈ wayT r ss e, P c := by
 intro c hc
 rw [nq9] at hc
 rcases List.mem_append.mp hc with hc | hc
 ·split at hc
  ·rw [List.mem_singleton.mp hc]; exact hs
  ·cases hc
 ·exact sq0 hs hw h c hc
theorem rq8 {c : Nat} (h : 48 ≤ c ∧ c ≤ 57) : wch c = true := by
 simp only [wch, isPl, Bool.or_eq_true, decide_eq_true_eq]; lia
theorem Ad.Wf.pre_all {P : Nat → Prop} {x : Ad} (h : x.Wf) (h1 : P 47) (h2 : P 58) (hw : ∀ c, wch c = true → P c) : ∀ c ∈ x.pre, P c := by
 intro c hc
 rcases List.mem_append.mp hc with hc | hc
 ·unfold schT at hc
  split at hc
  ·cases hc
  ·rcases List.mem_append.mp hc with hc | hc
   ·exact hw c (oqy (h.sch.2.1 c hc))
   ·rw [List.mem_singleton.mp hc]; exact h2
 rcases List.mem_append.mp hc with hc | hc
 ·cases hh : x.house with
  | none => rw [hh] at hc; cases hc
  | some l =>
   rw [hh] at hc
   simp only [houT, List.mem_cons] at hc
   rcases hc with rfl | rfl | hc
   ·exact h1
   ·exact h1
   ·exact hw c (qqo (h.hou l hh).2 c hc)
 rcases List.mem_append.mp hc with hc | hc
 ·cases hd : x.door with
  | none => rw [hd] at hc; cases hc
  | some i =>
   rw [hd] at hc
   simp only [dooT, List.mem_cons] at hc
   rcases hc with rfl | hc
   ·exact h2
   ·exact hw c (rq8 (rqt (h.doo i hd).1.1 c hc))
 ·exact oqf h1 hw h.stp c hc
theorem rqI (l m : List Nat) : PyData.eqv (st l) (st m) = true ↔ l = m := by
 simp only [PyData.eqv, beq_iff_eq]; exact fqA
theorem gqM {α : Type} {f : α → PyData} (hf : ∀ a b, PyData.eqv (f a) (f b) = true ↔ a = b) : ∀ (l m : List α), PyData.eqvAll (l.map f) (m.map f) = true ↔ l = m
 | [], [] => by simp [PyData.eqvAll]
 | [], b :: m => by simp [PyData.eqvAll]
 | a :: l, [] => by simp [PyData.eqvAll]
 | a :: l, b :: m => by
  simp only [List.map_cons, PyData.eqvAll, Bool.and_eq_true, List.cons.injEq]
  rw [hf a b, gqM hf l m]
def LayAt (n : Nat) (d : PyData) : Prop := d.canLay0 = true ∧ d.depth ≤ n
theorem LayAt.shaped {n : Nat} {d : PyData} (h : LayAt n d) (hn : n ≤ 64) : SeqAt.shaped d = true := by
 unfold SeqAt.shaped; rw [h.1, decide_eq_true (Nat.le_trans h.2 hn)]; rfl
theorem LayAt.le {n m : Nat} {d : PyData} (h : LayAt n d) (hn : n ≤ m) : LayAt m d := ⟨h.1, Nat.le_trans h.2 hn⟩
theorem layAll {n : Nat} : ∀ {ds : List PyData}, (∀ d ∈ ds, LayAt n d) → PyData.canLayAll0 ds = true ∧ PyData.depthAll ds ≤ n
 | [], _ => ⟨rfl, Nat.zero_le _⟩
 | d :: ds, h => by
  obtain ⟨h1, h2⟩ := layAll (ds := ds) fun e he => h e (List.mem_cons_of_mem _ he)
  have := h d (List.mem_cons_self ..)
  simp only [PyData.canLayAll0, PyData.depthAll, this.1, h1, Bool.and_self, true_and]
  exact Nat.max_le.mpr ⟨this.2, h2⟩
theorem LayAt.tup {n : Nat} {ds : List PyData} (h : ∀ d ∈ ds, LayAt n d) : LayAt (n + 1) (.tuple ds) := by
 obtain ⟨h1, h2⟩ := layAll h
 exact ⟨by simp only [PyData.canLay0, h1], by simp only [PyData.depth]; lia⟩
theorem LayAt.st {l : List Nat} (h : ∀ c ∈ l, isSg c = true) : LayAt 0 (st l) := by
 refine ⟨?_, Nat.le_refl _⟩
 simp only [PyData.canLay0, PyData.strOk, List.all_toArray, List.all_eq_true, decide_eq_true_eq]
 intro c hc
 have := dqH (h c hc)
 lia
theorem LayAt.bool {b : Bool} : LayAt 0 (.bool b) := ⟨rfl, Nat.le_refl _⟩
theorem rqj {H : Hp} {l : List Nat} {v : V} (h : IsT H (st l) v) : v = .str ⟨l.toArray⟩ := by cases h; rfl
theorem rqz {H : Hp} {o : Option (List Nat)} {v : V} (h : IsT H (oD o) v) : v = otV o := by
 cases o with
 | none => cases h; rfl
 | some l => exact rqj h
theorem vqb {H : Hp} {o : Option Int} {v : V} (h : IsT H (iD o) v) : v = itV o := by
 cases o with
 | none => cases h; rfl
 | some l => cases h; rfl
theorem sqn {H : Hp} {ds : List PyData} {v : V} (h : IsT H (.tuple ds) v) : ∃ p xs, v = .ref p ∧ H p = some (.tup xs) ∧ IsTAll H ds xs := by
 cases h with
 | tup h1 h2 => exact ⟨_, _, rfl, h1, h2⟩
theorem isT6 {H : Hp} {a b c d e f : PyData} {v : V} (h : IsT H (.tuple [a, b, c, d, e, f]) v) : ∃ p x0 x1 x2 x3 x4 x5, v = .ref p ∧ H p = some (.tup [x0, x1, x2, x3, x4, x5]) ∧ IsT H a x0 ∧ IsT H b x1 ∧ IsT H c x2 ∧ IsT H d x3 ∧ IsT H e x4 ∧ IsT H f x5 := by
 obtain ⟨p, xs, rfl, hp, r⟩ := sqn h
 cases r with
 | cons h1 r => cases r with
  | cons h2 r => cases r with
   | cons h3 r => cases r with
    | cons h4 r => cases r with
     | cons h5 r => cases r with
      | cons h6 r => cases r; exact ⟨p, _, _, _, _, _, _, rfl, hp, h1, h2, h3, h4, h5, h6⟩
end Wm
namespace Wm
structure Ad.Sz (x : Ad) : Prop where
 stp : ∀ s ∈ x.steps, s.length ≤ 2000
 que : ∀ ps, x.quest = some ps → ps.length ≤ 2000 ∧ ∀ p ∈ ps, p.1.length ≤ 2000 ∧ ∀ v, p.2 = some v → v.length ≤ 2000
 mar : ∀ l, x.mark = some l → l.length ≤ 2000
 num : x.steps.length ≤ 2000
 all : x.shw.length ≤ 90000
theorem lg {i : Int} (h : 0 ≤ i) (h' : i ≤ 65535) : i.natAbs.log2 < 1920 := by
 by_cases h0 : i.natAbs = 0
 ·rw [h0]; simp
 ·refine (Nat.log2_lt h0).mpr (Nat.lt_of_lt_of_le (show i.natAbs < 2 ^ 16 by lia) (Nat.pow_le_pow_right (by decide) (by decide)))
theorem rqd (i : Int) : PySem.Str.ofString (toString i) = ⟨(dg i).toArray⟩ := rfl
end Wm
namespace Wm
open PySem L2
theorem nqb (sep : Nat) (ys : List (List Nat)) : Txt.join (⟨[sep].toArray⟩ : Str) (ys.map fun l => (⟨l.toArray⟩ : Str)) = ⟨(joinT sep ys).toArray⟩ := by
 show Builtin.Str.glued _ _ = _
 rw [StrLaws.glued_eq_join]
 induction ys with
 | nil => rfl
 | cons y r ih =>
  cases r with
  | nil =>
   show (⟨y.toArray⟩ : Str) = _
   simp [joinT, tlT]
  | cons z r =>
   show (⟨y.toArray⟩ : Str) ++ (⟨[sep].toArray⟩ : Str) ++ Str.join ⟨[sep].toArray⟩ ((z :: r).map fun l => (⟨l.toArray⟩ : Str)) = _
   rw [ih, fq6, fq6]
   simp [joinT, tlT]
theorem rqD {sep : Nat} : ∀ (ys : List (List Nat)), (tlT sep ys).length = (ys.map (·.length)).sum + ys.length
 | [] => rfl
 | y :: r => by simp only [tlT, List.length_cons, List.length_append, List.map_cons, List.sum_cons, rqD r]; lia
theorem nqj {sep : Nat} (ys : List (List Nat)) : (ys.map (·.length)).sum + ys.length ≤ (joinT sep ys).length + 1 := by
 cases ys with
 | nil => simp [joinT]
 | cons y r => simp only [joinT, List.length_append, List.map_cons, List.sum_cons, List.length_cons, rqD]; lia
theorem mqO {sep m : Nat} : ∀ {ys : List (List Nat)}, (∀ s ∈ ys, s.length ≤ m) → (tlT sep ys).length ≤ ys.length * (m + 1)
 | [], _ => by simp [tlT]
 | y :: r, h => by
  have h1 := h y (List.mem_cons_self ..)
  have h2 := mqO (sep := sep) (ys := r) fun s hs => h s (List.mem_cons_of_mem _ hs)
  simp only [tlT, List.length_cons, List.length_append, Nat.add_mul, Nat.one_mul]
  lia
theorem jqJ {sep m : Nat} {ys : List (List Nat)} (h : ∀ s ∈ ys, s.length ≤ m) : (joinT sep ys).length ≤ ys.length * (m + 1) := by
 cases ys with
 | nil => simp [joinT]
 | cons y r =>
  have h1 := h y (List.mem_cons_self ..)
  have h2 := mqO (sep := sep) (ys := r) fun s hs => h s (List.mem_cons_of_mem _ hs)
  simp only [joinT, List.length_cons, List.length_append, Nat.add_mul, Nat.one_mul]
  lia
theorem rqJ {sep n : Nat} {o : Option (List Nat)} (h : ∀ l, o = some l → l.length ≤ n) : (oT sep o).length ≤ 3 * n + 1 := by
 cases o with
 | none => simp [oT]
 | some l => have := h l rfl; have := gq7 l; simp only [oT, List.length_cons]; lia
theorem pqe (ts : List (List Nat)) : (ts.map fun l => (⟨l.toArray⟩ : Str)).map (·.length) = ts.map List.length := by
 rw [List.map_map]
 apply List.map_congr_left
 intro l _
 exact bqc l
theorem iqY {a : V} {r : List V} : atI (a :: r) 0 = some a := by
 unfold atI ixN
 simp
def slT (r : Bool) (ts : List (List Nat)) (e : Bool) : List Nat := (if r then [47] else []) ++ (joinT 47 ts ++ (if e && !ts.isEmpty then [47] else []))
theorem tqm (r : Bool) (ss : List (List Nat)) (e : Bool) : wayT r ss e = slT r (ss.map wr) e := by
 unfold wayT slT
 simp
end Wm
namespace L2
open PySem
end L2
namespace Wm
open PySem L2
abbrev Stp := List Nat
def sUp : Stp := [46, 46]
def sStay : Stp := [46]
def isDot (s : Stp) : Bool := decide (s = sUp) || decide (s = sStay)
theorem gqI : sUp ≠ sStay := by decide
theorem lq2 {s : Stp} : isDot s = false ↔ s ≠ sUp ∧ s ≠ sStay := by simp [isDot]
def fwd (r : Bool) (q : Nat × List Stp) (s : Stp) : Nat × List Stp :=
 if s = sUp then (match q.2 with | [] => (if r then q.1 else q.1 + 1, []) | _ :: t => (q.1, t))
 else if s = sStay then q else (q.1, s :: q.2)
def goneS (r : Bool) (ss : List Stp) : List Stp := List.replicate (ss.foldl (fwd r) (0, [])).1 sUp ++ (ss.foldl (fwd r) (0, [])).2.reverse
def bwd1 (s : Stp) (q : Nat × List Stp) : Nat × List Stp :=
 if s = sUp then (q.1 + 1, q.2) else if s ≠ sStay ∧ 0 < q.1 then (q.1 - 1, q.2) else if s ≠ sStay then (q.1, s :: q.2) else q
def bwd (ss : List Stp) : Nat × List Stp := ss.foldr bwd1 (0, [])
theorem kqn (s : Stp) (ss : List Stp) : bwd (s :: ss) = bwd1 s (bwd ss) := rfl
theorem hqN (r : Bool) : ∀ (ss : List Stp) (u : Nat) (ns : List Stp),
  ss.foldl (fwd r) (u, ns) = (if r then u else u + ((bwd ss).1 - ns.length), (bwd ss).2.reverse ++ ns.drop (bwd ss).1)
 | [], u, ns => by simp [bwd]
 | s :: ss, u, ns => by
  rw [List.foldl_cons, kqn]
  by_cases h1 : s = sUp
  ·cases ns with
   | nil =>
    rw [show fwd r (u, []) s = (if r then u else u + 1, []) by simp [fwd, h1], hqN r ss]
    cases r <;> simp [bwd1, h1]
    lia
   | cons a t =>
    rw [show fwd r (u, a :: t) s = (u, t) by simp [fwd, h1], hqN r ss]
    simp [bwd1, h1]
  ·by_cases h2 : s = sStay
   ·rw [show fwd r (u, ns) s = (u, ns) by simp [fwd, h1, h2, gqI.symm], hqN r ss]
    simp [bwd1, h2, gqI.symm]
   ·rw [show fwd r (u, ns) s = (u, s :: ns) by simp [fwd, h1, h2], hqN r ss]
    by_cases h3 : 0 < (bwd ss).1
    ·obtain ⟨k, hk⟩ : ∃ k, (bwd ss).1 = k + 1 := ⟨(bwd ss).1 - 1, by lia⟩
     simp [bwd1, h1, h2, hk]
    ·have h0 : (bwd ss).1 = 0 := by lia
     simp [bwd1, h1, h2, h0]
theorem mqT (r : Bool) (ss : List Stp) : goneS r ss = (if r then [] else List.replicate (bwd ss).1 sUp) ++ (bwd ss).2 := by
 unfold goneS
 rw [hqN]
 cases r <;> simp
theorem sqA {ss : List Stp} : ∀ s ∈ (bwd ss).2, s ∈ ss ∧ isDot s = false := by
 induction ss with
 | nil => simp [bwd]
 | cons t ss ih =>
  intro s hs
  rw [kqn] at hs
  unfold bwd1 at hs
  split at hs
  ·exact ⟨List.mem_cons_of_mem _ (ih s hs).1, (ih s hs).2⟩
  ·next h1 =>
   split at hs
   ·exact ⟨List.mem_cons_of_mem _ (ih s hs).1, (ih s hs).2⟩
   ·split at hs
    ·next h2 =>
     rcases List.mem_cons.mp hs with rfl | hs
     ·exact ⟨List.mem_cons_self .., lq2.mpr ⟨h1, h2⟩⟩
     ·exact ⟨List.mem_cons_of_mem _ (ih s hs).1, (ih s hs).2⟩
    ·exact ⟨List.mem_cons_of_mem _ (ih s hs).1, (ih s hs).2⟩
theorem tqy (ss : List Stp) : (bwd ss).1 + (bwd ss).2.length ≤ ss.length := by
 induction ss with
 | nil => simp [bwd]
 | cons t ss ih =>
  rw [kqn]
  unfold bwd1
  split
  ·simp; lia
  ·split
   ·simp; lia
   ·split <;> simp <;> lia
theorem gone_len (r : Bool) (ss : List Stp) : (goneS r ss).length ≤ ss.length := by
 rw [mqT]
 have := tqy ss
 cases r <;> simp <;> lia
theorem kqs {r : Bool} {ss : List Stp} : ∀ s ∈ goneS r ss, s ∈ ss ∧ isDot s = false ∨ r = false ∧ s = sUp := by
 intro s hs
 rw [mqT] at hs
 rcases List.mem_append.mp hs with hs | hs
 ·cases r with
  | true => cases hs
  | false => exact .inr ⟨rfl, (List.mem_replicate.mp (by simpa using hs)).2⟩
 ·exact .inl (sqA s hs)
theorem nqN {ss : List Stp} : ∀ s ∈ goneS true ss, isDot s = false := fun s hs => by
 rcases kqs s hs with h | h
 ·exact h.2
 ·cases h.1
def lastDot (ss : List Stp) : Bool := match ss.getLast? with | some s => isDot s | none => false
def goneW (r : Bool) (ss : List Stp) (e : Bool) : Bool × List Stp × Bool :=
 if ss = [] then (r, [], e) else if goneS r ss = [] then (r, if r then [] else [sStay], true) else (r, goneS r ss, e || lastDot ss)
theorem qqZ (r : Bool) : goneS r [] = [] := by simp [goneS]
theorem pqE (r : Bool) (ss : List Stp) (e : Bool) : (goneW r ss e).1 = r := by
 unfold goneW; split; rfl; split <;> rfl
def stk (q : Nat × List Stp) : List Stp := List.replicate q.1 sUp ++ q.2.reverse
def goUp (r : Bool) (L : List Stp) : List Stp :=
 match L.getLast? with
 | some s => if s = sUp then (if r then L else L ++ [sUp]) else L.dropLast
 | none => if r then L else L ++ [sUp]
def StkOk (r : Bool) (q : Nat × List Stp) : Prop := (r = true → q.1 = 0) ∧ ∀ s ∈ q.2, s ≠ sUp
theorem qqE {r : Bool} {q : Nat × List Stp} (h : StkOk r q) : goUp r (stk q) = stk (fwd r q sUp) := by
 obtain ⟨u, t⟩ := q
 obtain ⟨h1, h2⟩ := h
 dsimp only at h1 h2
 unfold fwd stk
 rw [if_pos rfl]
 cases t with
 | cons a t =>
  have ha := h2 a (List.mem_cons_self ..)
  simp only [List.reverse_cons]
  rw [← List.append_assoc]
  unfold goUp
  rw [List.getLast?_concat]
  simp only [if_neg ha, List.dropLast_concat]
 | nil =>
  cases r with
  | true =>
   have e := h1 rfl
   subst e
   simp [goUp]
  | false =>
   simp only [List.reverse_nil, List.append_nil, Bool.false_eq_true, if_false]
   cases u with
   | zero => simp [goUp]
   | succ u =>
    have e : List.replicate (u + 1) sUp = List.replicate u sUp ++ [sUp] := List.replicate_succ'
    have e2 : List.replicate (u + 1 + 1) sUp = List.replicate (u + 1) sUp ++ [sUp] := List.replicate_succ'
    rw [e2]
    unfold goUp
    rw [e, List.getLast?_concat]
    simp
theorem StkOk.fwd {r : Bool} {q : Nat × List Stp} (h : StkOk r q) (s : Stp) : StkOk r (fwd r q s) := by
 obtain ⟨u, t⟩ := q
 obtain ⟨h1, h2⟩ := h
 dsimp only at h1 h2
 unfold Wm.fwd
 by_cases e : s = sUp
 ·rw [if_pos e]
  cases t with
  | nil => exact ⟨fun z => by simp [z, h1 z], fun s hs => absurd hs (by simp)⟩
  | cons a t => exact ⟨h1, fun s hs => h2 s (List.mem_cons_of_mem _ hs)⟩
 ·rw [if_neg e]
  by_cases e2 : s = sStay
  ·rw [if_pos e2]; exact ⟨h1, h2⟩
  ·rw [if_neg e2]
   refine ⟨h1, fun x hx => ?_⟩
   rcases List.mem_cons.mp hx with rfl | hx
   ·exact e
   ·exact h2 x hx
theorem mqu (r : Bool) (q : Nat × List Stp) (s : Stp) : (stk (fwd r q s)).length ≤ (stk q).length + 1 := by
 obtain ⟨u, t⟩ := q
 unfold fwd stk
 by_cases e : s = sUp
 ·rw [if_pos e]
  cases t with
  | nil => cases r <;> simp
  | cons a t => simp; lia
 ·rw [if_neg e]
  by_cases e2 : s = sStay
  ·rw [if_pos e2]; simp
  ·rw [if_neg e2]; simp; lia
theorem sqJ {r : Bool} {q : Nat × List Stp} {s : Stp} (h1 : s ≠ sUp) (h2 : s ≠ sStay) : stk (fwd r q s) = stk q ++ [s] := by
 unfold fwd stk
 rw [if_neg h1, if_neg h2]; simp
theorem qqi {r : Bool} {q : Nat × List Stp} : fwd r q sStay = q := by
 unfold fwd
 rw [if_neg gqI.symm, if_pos rfl]
def sofar (r : Bool) (ss : List Stp) (i : Nat) : Nat × List Stp := (ss.take i).foldl (fwd r) (0, [])
theorem mqZ (r : Bool) (ss : List Stp) : ∀ i, StkOk r (sofar r ss i) ∧ (stk (sofar r ss i)).length ≤ i
 | 0 => by simp [sofar, StkOk, stk]
 | i + 1 => by
  obtain ⟨h1, h2⟩ := mqZ r ss i
  unfold sofar at *
  rw [List.take_add_one]
  cases e : ss[i]? with
  | none => simpa using ⟨h1, by lia⟩
  | some s =>
   rw [List.foldl_append]
   simp only [Option.toList_some, List.foldl_cons, List.foldl_nil]
   have := mqu r (List.foldl (fwd r) (0, []) (List.take i ss)) s
   exact ⟨h1.fwd s, by lia⟩
theorem nqI {r : Bool} {ss : List Stp} {i : Nat} {s : Stp} (h : ss[i]? = some s) : sofar r ss (i + 1) = fwd r (sofar r ss i) s := by
 unfold sofar
 rw [List.take_add_one, h, List.foldl_append]; rfl
theorem pqd (r : Bool) (ss : List Stp) : stk (sofar r ss ss.length) = goneS r ss := by
 unfold sofar; rw [List.take_length]; rfl
end Wm
namespace L2
open PySem PySem.Spec PyProof.Rows HT
section
variable {prog : Program} {w : World} {A : Around} {E : Value → Shared → Prop} {s : Shared}
theorem gqp {t sl : Addr} {items : Array Value} {vl vu : Value} {lo hi : Option Int} {Q : Value → Shared → Prop} (ht : IsTup s.heap t items) (hs : s.heap.IsSliceOf sl vl vu .none) (pl : IsPart vl lo) (pu : IsPart vu hi)
  (hw : sIx items.size 0 lo = 0 ∧ sIx items.size items.size hi = items.size) (h : Q (.ref t) s) : wpAny (model prog w) A (getItem (.ref t) (.ref sl)) Q E s := by
 obtain ⟨os, hos, hcs, hds⟩ := id hs
 have hTs : s.TypeIs (.ref sl) "slice" := ⟨os, hos, hcs⟩
 unfold getItem
 try with_reducible refine wpAny_holding ?_
 first | refine wpAny_bind (wpAny_pure ?_) | skip
 refine wpAny_bind (wpAny_sequenceKey ht.typeIs (by decide) ?_)
 refine wpAny_bind (wpAny_callSpecial?_slot (name := Str.ofString "__getitem__") ht.typeIs PyProof.Rows.slot_tuple_getitem
  (wpAny_call_entry PyProof.Rows.slot_tuple_getitem ht.typeIs entry_tuple_getitem ?_ (args_tuple_getitem _ _)))
 show wpAny _ _ (Builtin.Tuple.tupleItemsOf (.ref t) >>= _) _ _ s
 refine wpAny_bind (tupleItemsOf_ ht ?_)
 refine wpAny_bind (wpAny_typeOf hTs ?_)
 rw [if_pos (by decide)]
 refine wpAny_bind (eqr hs pl pu ?_)
 show wpAny _ _ (if (((sIx items.size 0 lo : Nat) : Int) == 0 && (1 : Int) == 1 && (sIx items.size items.size hi - sIx items.size 0 lo) == items.size) = true then _ else _) _ _ s
 rw [if_pos (by rw [hw.1, hw.2]; simp)]
 refine wpAny_bind ?_
 show wpAny _ _ (typeOf (.ref t) >>= _) _ _ s
 refine wpAny_bind (wpAny_typeOf ht.typeIs (wpAny_pure ?_))
 rw [if_pos (by decide)]
 exact wpAny_bind (wpAny_rule (wpAny_pure ⟨_, rfl, wpAny_pure h⟩))
end
section
variable {X : Cx} {K : PySem.W.Frag}
def rSlTA : V → Option Int → Option Int → Hp → VK → Prop := fun x lo hi H Q => ∃ a xs, x = .ref a ∧ H a = some (.tup xs) ∧ ∀ p H', Same H H' → H' p = some (.tup (cutV xs lo hi)) → Q (.ref p) H'
theorem nqP {xs : List V} {lo hi : Option Int} (h : sIx xs.length 0 lo = 0 ∧ sIx xs.length xs.length hi = xs.length) : cutV xs lo hi = xs := by
 unfold cutV
 rw [h.1, h.2, List.drop_zero, Nat.sub_zero, List.take_length]
theorem qqL {a : Addr} {lo hi : Option Int} {H : Hp} {Q : VK} : rSlTA (.ref a) lo hi H Q ↔ ∃ xs, H a = some (.tup xs) ∧ ∀ p H', Same H H' → H' p = some (.tup (cutV xs lo hi)) → Q (.ref p) H' := by
 constructor
 ·rintro ⟨p, bs, h1, h2⟩; cases h1; exact ⟨bs, h2⟩
 ·rintro ⟨bs, h⟩; exact ⟨a, bs, rfl, h⟩
end
mutual
inductive IsK (K : PySem.W.Frag) (H : Hp) : PyData → V → Prop
 | non : IsK K H .none .non
 | bl (b : Bool) : IsK K H (.bool b) (.bl b)
 | int (i : Int) : IsK K H (.int i) (.int i)
 | str (x : Str) : IsK K H (.str x) (.str x)
 | tup {p : Addr} {xs : List V} {ds : List PyData} : SqT K H p xs → IsKAll K H ds xs → IsK K H (.tuple ds) (.ref p)
inductive IsKAll (K : PySem.W.Frag) (H : Hp) : List PyData → List V → Prop
 | nil : IsKAll K H [] []
 | cons {d : PyData} {x : V} {ds : List PyData} {xs : List V} : IsK K H d x → IsKAll K H ds xs → IsKAll K H (d :: ds) (x :: xs)
end
section
variable {K : PySem.W.Frag} {H H' : Hp}
mutual
theorem IsK.mono (sm : Same H H') : ∀ {d : PyData} {x : V}, IsK K H d x → IsK K H' d x
 | _, _, .non => .non
 | _, _, .bl b => .bl b
 | _, _, .int i => .int i
 | _, _, .str x => .str x
 | _, _, .tup h r => .tup (sm.tup h) (IsKAll.mono sm r)
theorem IsKAll.mono (sm : Same H H') : ∀ {ds : List PyData} {xs : List V}, IsKAll K H ds xs → IsKAll K H' ds xs
 | _, _, .nil => .nil
 | _, _, .cons h r => .cons (IsK.mono sm h) (IsKAll.mono sm r)
end
mutual
theorem IsT.k : ∀ {d : PyData} {x : V}, IsT H d x → IsK K H d x
 | _, _, .non => .non
 | _, _, .bl b => .bl b
 | _, _, .int i => .int i
 | _, _, .str x => .str x
 | _, _, .tup h r => .tup (SqT.of h) (IsTAll.k r)
theorem IsTAll.k : ∀ {ds : List PyData} {xs : List V}, IsTAll H ds xs → IsKAll K H ds xs
 | _, _, .nil => .nil
 | _, _, .cons h r => .cons (IsT.k h) (IsTAll.k r)
end
end
section
variable {X : Cx} {pins : List (Addr × Obj)} {σ : St} {H : Hp} {s : Shared}
mutual
theorem IsK.reads (I : Inv X pins σ H s) : ∀ {d : PyData} {x : V} {v : Value}, IsK X.K H d x → RelV x v → ∃ as, Reads s.heap v d as
 | _, _, _, .non, r => by cases r; exact ⟨_, .none⟩
 | _, _, _, .bl b, r => by cases r; exact ⟨_, .bool b⟩
 | _, _, _, .int i, r => by obtain ⟨t, rfl⟩ := r; exact ⟨_, .int i t⟩
 | _, _, _, .str x, r => by obtain ⟨t, rfl⟩ := r; exact ⟨_, .str x t⟩
 | _, _, _, .tup h q, r => by
  cases r
  obtain ⟨its, vs, ⟨o, e, c, n, dt⟩, _⟩ := I.tuple h
  obtain ⟨as, ra⟩ := IsKAll.reads I q vs
  exact ⟨_, .tuple e c dt (by simpa using ra)⟩
theorem IsKAll.reads (I : Inv X pins σ H s) : ∀ {ds : List PyData} {xs : List V} {vs : List Value}, IsKAll X.K H ds xs → Vals xs vs → ∃ as, ReadsAll s.heap vs ds as
 | _, _, _, .nil, r => by cases r; exact ⟨_, .nil⟩
 | _, _, _, .cons q t, r => by
  cases r with
  | cons r1 r2 =>
   obtain ⟨as, h1⟩ := IsK.reads I q r1
   obtain ⟨bs, h2⟩ := IsKAll.reads I t r2
   exact ⟨_, .cons h1 h2⟩
end
variable {K : PySem.W.Frag}
def rEqX (K : PySem.W.Frag) : R2 := fun x y H Q => ∃ d e, IsK K H d x ∧ IsK K H e y ∧ SeqAt.shaped d = true ∧ SeqAt.shaped e = true ∧ Q (.bl (PyData.eqv d e)) H
theorem rqb (hk : X.K = K) (hu : X.A.units + 64 < cLine) : OpR X (compareOp .Eq) (rEqX K) := by
 subst hk
 intro pins s σ H x y v u Q I rx ry h
 obtain ⟨d, e, hx, hy, sx, sy, q⟩ := h
 obtain ⟨as, ra⟩ := hx.reads I rx
 obtain ⟨bs, rb⟩ := hy.reads I ry
 exact eq_dataH ra rb sx sy hu ⟨.bl _, H, I, rfl, q⟩
def rSlX (K : PySem.W.Frag) : V → Option Int → Option Int → Hp → VK → Prop := fun x lo hi H Q => ∃ a xs, x = .ref a ∧ SqT K H a xs ∧ ∀ p H', Same H H' → SqT K H' p (cutV xs lo hi) → Q (.ref p) H'
theorem gqx (hk : X.K = K) : SlR X (rSlX K) := by
 subst hk
 intro pins s σ H x v vl vu lo hi sl Q I rx hs pl pu h
 obtain ⟨a, xs, rfl, hx, q⟩ := h
 by_cases hw : sIx xs.length 0 lo = 0 ∧ sIx xs.length xs.length hi = xs.length
 ·cases rx
  obtain ⟨its, r, ht, hz⟩ := I.tuple hx
  have hlen : its.toArray.size = xs.length := by rw [List.size_toArray]; exact r.length.symm
  refine ⟨"tuple", _, PyProof.Rows.slot_tuple_getitem.lookup, ht.typeIs, ?_⟩
  exact gqp ht hs pl pu (by rw [hlen]; exact hw) ⟨.ref a, H, I, rfl, q a H (Same.refl _) (by rw [nqP hw]; exact hx)⟩
 ·exact tqT pins s σ H _ v vl vu lo hi sl Q I rx hs pl pu ⟨a, xs, rfl, hx, hw, fun p hp => q p _ (aqU hp) (SqT.of aqh)⟩
theorem rq7 {a : Addr} {lo hi : Option Int} {H : Hp} {Q : VK} : rSlX K (.ref a) lo hi H Q ↔ ∃ xs, SqT K H a xs ∧ ∀ p H', Same H H' → SqT K H' p (cutV xs lo hi) → Q (.ref p) H' := by
 constructor
 ·rintro ⟨p, bs, h1, h2⟩; cases h1; exact ⟨bs, h2⟩
 ·rintro ⟨bs, h⟩; exact ⟨a, bs, rfl, h⟩
def rCatX (K : PySem.W.Frag) : R2 := fun x y H Q => ∃ a b xs ys, x = .ref a ∧ y = .ref b ∧ SqT K H a xs ∧ SqT K H b ys ∧ xs.length + ys.length ≤ sizeLine ∧ ∀ p H', Same H H' → SqT K H' p (xs ++ ys) → Q (.ref p) H'
theorem gqD (hk : X.K = K) : OpR X (binaryOp .Add) (rCatX K) := by
 subst hk
 intro pins s σ H x y v u Q I rx ry h
 obtain ⟨a, b, xs, ys, rfl, rfl, ha, hb, hz, q⟩ := h
 by_cases hx : xs = []
 ·subst hx
  cases rx
  cases ry
  obtain ⟨its, r1, p1, _⟩ := I.tuple ha
  obtain ⟨its2, r2, p2, _⟩ := I.tuple hb
  cases r1
  obtain ⟨⟨cls, dd, data, sl⟩, ho, hc, n, hd⟩ := id p1
  obtain ⟨⟨cls2, dd2, data2, sl2⟩, ho2, hc2, n2, hd2⟩ := id p2
  simp only at hc hd hc2 hd2
  subst hc hd hc2 hd2
  exact concat_meets ⟨_, ho, rfl⟩ ⟨_, ho2, rfl⟩ noFill_tuple_add seq_tuple_add PySem.F.slot_tuple_add PySem.F.entry_tuple_add (PySem.F.args_tuple_add_2 _ _)
   (tuple_addW0 a b ([] : List Value).toArray its2.toArray n n2 dd dd2 sl sl2 rfl) ⟨ho, ho2, ⟨.ref b, H, I, rfl, q b H (Same.refl _) hb⟩⟩
 ·refine pqM pins s σ H _ _ v u Q I rx ry ⟨a, b, xs, ys, rfl, rfl, ha, hb, hx, hz, fun e => q a H (Same.refl _) (by rw [e, List.append_nil]; exact ha), fun _ p hp => q p _ (aqU hp) (SqT.of aqh)⟩
theorem qqV {a b : Addr} {H : Hp} {Q : VK} : rCatX K (.ref a) (.ref b) H Q ↔ ∃ xs ys, SqT K H a xs ∧ SqT K H b ys ∧ xs.length + ys.length ≤ sizeLine ∧ ∀ p H', Same H H' → SqT K H' p (xs ++ ys) → Q (.ref p) H' := by
 constructor
 ·rintro ⟨p, p', xs, ys, h1, h2, h3⟩; cases h1; cases h2; exact ⟨xs, ys, h3⟩
 ·rintro ⟨xs, ys, h⟩; exact ⟨a, b, xs, ys, rfl, rfl, h⟩
def KindK (K : PySem.W.Frag) (H : Hp) (x : V) (k : String) : Prop := kindV x H = some k ∨ ∃ a xs, x = .ref a ∧ SqT K H a xs ∧ k = "tuple"
theorem KindK.tup {K : PySem.W.Frag} {H : Hp} {a : Addr} {xs : List V} (h : SqT K H a xs) : KindK K H (.ref a) "tuple" := .inr ⟨a, xs, rfl, h, rfl⟩
def rIsiX (K : PySem.W.Frag) : List V → Hp → VK → Prop := fun vs H Q => match vs with
 | [x, .ty T] => ∃ k, KindK K H x k ∧ T ∈ ["bool", "int", "str", "list", "tuple"] ∧ Q (.bl (subT k T)) H
 | _ => False
theorem qqA {x : V} {T : String} {H : Hp} {Q : VK} : (rIsiX K [x, .ty T] H Q) = (∃ k, KindK K H x k ∧ T ∈ ["bool", "int", "str", "list", "tuple"] ∧ Q (.bl (subT k T)) H) := rfl
end
end L2
namespace Wm
open PySem L2
section
variable {K : PySem.W.Frag} {H : Hp}
theorem nqa {l : List Nat} {v : V} (h : IsK K H (st l) v) : v = .str ⟨l.toArray⟩ := by cases h; rfl
theorem pqa {o : Option (List Nat)} {v : V} (h : IsK K H (oD o) v) : v = otV o := by
 cases o with
 | none => cases h; rfl
 | some l => exact nqa h
theorem uqO {o : Option Int} {v : V} (h : IsK K H (iD o) v) : v = itV o := by
 cases o with
 | none => cases h; rfl
 | some l => cases h; rfl
theorem mqH {b : Bool} {v : V} (h : IsK K H (.bool b) v) : v = .bl b := by cases h; rfl
theorem gqt {ds : List PyData} {v : V} (h : IsK K H (.tuple ds) v) : ∃ p xs, v = .ref p ∧ SqT K H p xs ∧ IsKAll K H ds xs := by
 cases h with
 | tup h1 h2 => exact ⟨_, _, rfl, h1, h2⟩
theorem isK2 {a b : PyData} {v : V} (h : IsK K H (.tuple [a, b]) v) : ∃ p x y, v = .ref p ∧ SqT K H p [x, y] ∧ IsK K H a x ∧ IsK K H b y := by
 obtain ⟨p, xs, rfl, hp, r⟩ := gqt h
 cases r with
 | cons h1 r => cases r with
  | cons h2 r => cases r; exact ⟨p, _, _, rfl, hp, h1, h2⟩
theorem isK3 {a b c : PyData} {v : V} (h : IsK K H (.tuple [a, b, c]) v) : ∃ p x y z, v = .ref p ∧ SqT K H p [x, y, z] ∧ IsK K H a x ∧ IsK K H b y ∧ IsK K H c z := by
 obtain ⟨p, xs, rfl, hp, r⟩ := gqt h
 cases r with
 | cons h1 r => cases r with
  | cons h2 r => cases r with
   | cons h3 r => cases r; exact ⟨p, _, _, _, rfl, hp, h1, h2, h3⟩
theorem isK6 {a b c d e f : PyData} {v : V} (h : IsK K H (.tuple [a, b, c, d, e, f]) v) : ∃ p x0 x1 x2 x3 x4 x5, v = .ref p ∧ SqT K H p [x0, x1, x2, x3, x4, x5] ∧ IsK K H a x0 ∧ IsK K H b x1 ∧ IsK K H c x2 ∧ IsK K H d x3 ∧ IsK K H e x4 ∧ IsK K H f x5 := by
 obtain ⟨p, xs, rfl, hp, r⟩ := gqt h
 cases r with
 | cons h1 r => cases r with
  | cons h2 r => cases r with
   | cons h3 r => cases r with
    | cons h4 r => cases r with
     | cons h5 r => cases r with
      | cons h6 r => cases r; exact ⟨p, _, _, _, _, _, _, rfl, hp, h1, h2, h3, h4, h5, h6⟩
theorem lqq : ∀ {ss : List (List Nat)} {xs : List V}, IsKAll K H (ss.map st) xs → xs = ss.map fun l => V.str ⟨l.toArray⟩
 | [], _, h => by cases h; rfl
 | s :: ss, _, h => by
  cases h with
  | cons h1 h2 => rw [nqa h1, lqq h2]; rfl
theorem lqK : ∀ (ss : List (List Nat)), IsKAll K H (ss.map st) (ss.map fun l => V.str ⟨l.toArray⟩)
 | [] => .nil
 | s :: ss => .cons (.str _) (lqK ss)
theorem uq7 (o : Option (List Nat)) : IsK K H (oD o) (otV o) := (lq9 o).k
theorem vqH (o : Option Int) : IsK K H (iD o) (itV o) := (sqo o).k
theorem jqY {r e : Bool} {ss : List (List Nat)} {v : V} (h : IsK K H (.tuple [.bool r, .tuple (ss.map st), .bool e]) v) : ∃ p q, v = .ref p ∧ SqT K H p [.bl r, .ref q, .bl e] ∧ SqT K H q (ss.map fun l => V.str ⟨l.toArray⟩) := by
 obtain ⟨p, x, y, z, rfl, hp, h1, h2, h3⟩ := isK3 h
 cases mqH h1
 cases mqH h3
 obtain ⟨q, xs, rfl, hq, r⟩ := gqt h2
 cases lqq r
 exact ⟨p, q, rfl, hp, hq⟩
theorem wayK {r e : Bool} {ss : List (List Nat)} {p q : Addr} (hp : SqT K H p [.bl r, .ref q, .bl e]) (hq : SqT K H q (ss.map fun l => V.str ⟨l.toArray⟩)) : IsK K H (.tuple [.bool r, .tuple (ss.map st), .bool e]) (.ref p) :=
 .tup hp (.cons (.bl _) (.cons (.tup hq (lqK _)) (.cons (.bl _) .nil)))
theorem fqR {x : Ad} {v : V} (h : IsK K H x.data v) : ∃ p w q, v = .ref p ∧ SqT K H p [.str ⟨x.scheme.toArray⟩, otV x.house, itV x.door, w, q, otV x.mark] ∧ IsK K H x.way w ∧ IsK K H (qD x.quest) q := by
 obtain ⟨p, x0, x1, x2, x3, x4, x5, rfl, hp, i0, i1, i2, i3, i4, i5⟩ := isK6 (show IsK K H (.tuple [st x.scheme, oD x.house, iD x.door, x.way, qD x.quest, oD x.mark]) v from h)
 cases nqa i0
 cases pqa i1
 cases uqO i2
 cases pqa i5
 exact ⟨p, x3, x4, rfl, hp, i3, i4⟩
theorem adK {x : Ad} {p : Addr} {w q : V} (hp : SqT K H p [.str ⟨x.scheme.toArray⟩, otV x.house, itV x.door, w, q, otV x.mark]) (hw : IsK K H x.way w) (hq : IsK K H (qD x.quest) q) : IsK K H x.data (.ref p) :=
 .tup hp (.cons (.str _) (.cons (uq7 _) (.cons (vqH _) (.cons hw (.cons hq (.cons (uq7 _) .nil))))))
end
end Wm
namespace L2
open PySem PySem.Spec PyProof.Rows
def pickV {α : Type} (xs : List α) (lo hi st : Option Int) : List α :=
 (sliceRange (sliceBounds lo hi st xs.length).1 (sliceBounds lo hi st xs.length).2.1 (sliceBounds lo hi st xs.length).2.2).filterMap fun i => xs[i]?
section
variable {X : Cx}
def tSl3 (K : PySem.W.Frag) (te : TE) (tl th ts : TO) : TE := fun σ H Q => te σ H fun x H1 => tl σ H1 fun l H2 => th σ H2 fun u H3 => ts σ H3 fun k H4 =>
 ∃ a xs, x = .ref a ∧ SqL K H4 a xs ∧ k ≠ some 0 ∧ (pickV xs l u k).length ≤ sizeLine ∧ ∀ p, H4 p = none → Q (.ref p) (upd H4 p (.lst (pickV xs l u k)))
end
theorem uq6 {K : PySem.W.Frag} {te : TE} {tl th ts : TO} {σ : St} {H : Hp} {Q : VK} : tSl3 K te tl th ts σ H Q ↔ te σ H fun x H1 => tl σ H1 fun l H2 => th σ H2 fun u H3 => ts σ H3 fun k H4 =>
 ∃ a xs, x = .ref a ∧ SqL K H4 a xs ∧ k ≠ some 0 ∧ (pickV xs l u k).length ≤ sizeLine ∧ ∀ p, H4 p = none → Q (.ref p) (upd H4 p (.lst (pickV xs l u k))) := Iff.rfl
end L2
namespace Wm
open PySem L2
abbrev Way := Bool × List Stp × Bool
def Ad.w (x : Ad) : Way := (x.rooted, x.steps, x.ends)
def Ad.withWay (x : Ad) (w : Way) : Ad := { x with rooted := w.1, steps := w.2.1, ends := w.2.2 }
def goneV (w : Way) : Way := goneW w.1 w.2.1 w.2.2
def Ad.gone (x : Ad) : Ad := x.withWay (goneV x.w)
def holder (w : Way) : List Stp := if (goneV w).2.2 then (goneV w).2.1 else (goneV w).2.1.dropLast
def resM (b x : Ad) : Ad :=
 if x.scheme ≠ [] then x.gone
 else if x.house ≠ none then ({ x with scheme := b.scheme } : Ad).gone
 else if x.rooted = true then ({ x with scheme := b.scheme, house := b.house, door := b.door } : Ad).gone
 else if x.steps ≠ [] then ({ x with scheme := b.scheme, house := b.house, door := b.door, rooted := true, steps := holder b.w ++ x.steps } : Ad).gone
 else ({ b with quest := (if x.quest = none then b.quest else x.quest), mark := x.mark } : Ad).gone
theorem nqs {w : Way} (h : w.1 = true) (he : w.2.1 = [] → w.2.2 = true) : (goneV w).1 = true ∧ (goneV w).2.1 = goneS true w.2.1 ∧ (∀ s ∈ (goneV w).2.1, isDot s = false) ∧ ((goneV w).2.1 = [] → (goneV w).2.2 = true) := by
 obtain ⟨r, ss, e⟩ := w
 cases h
 show (goneW true ss e).1 = true ∧ (goneW true ss e).2.1 = goneS true ss ∧ (∀ s ∈ (goneW true ss e).2.1, isDot s = false) ∧ ((goneW true ss e).2.1 = [] → (goneW true ss e).2.2 = true)
 unfold goneW
 by_cases h1 : ss = []
 ·rw [if_pos h1]
  refine ⟨rfl, by rw [h1, qqZ], by simp, fun _ => he h1⟩
 ·rw [if_neg h1]
  by_cases h2 : goneS true ss = []
  ·rw [if_pos h2]; exact ⟨rfl, by simp [h2], by simp, fun _ => rfl⟩
  ·rw [if_neg h2]; exact ⟨rfl, rfl, nqN, fun h => absurd h h2⟩
theorem Ad.Wf.ends_w {x : Ad} (h : x.Wf) (hr : x.rooted = true) : x.w.2.1 = [] → x.w.2.2 = true := fun e => by
 have := h.end_ e; rw [hr] at this; exact this
theorem gqC {b x : Ad} (h : x.scheme ≠ []) : resM b x = x.gone := by unfold resM; rw [if_pos h]
def Ad.Done (x : Ad) : Prop := x.scheme ≠ [] ∧ x.rooted = true ∧ (∀ s ∈ x.steps, isDot s = false) ∧ (x.steps = [] → x.ends = true)
theorem hq4 {x : Ad} (hs : x.scheme ≠ []) (hr : x.rooted = true) (he : x.steps = [] → x.ends = true) : x.gone.Done := by
 obtain ⟨g1, g2, g3, g4⟩ := nqs (w := x.w) hr he
 exact ⟨hs, g1, g3, g4⟩
theorem oqI {b x : Ad} (hb : b.Wf) (hx : x.Wf) (wb : b.scheme ≠ []) : (resM b x).Done := by
 have rb := hb.roo (.inl wb)
 have eb : b.steps = [] → b.ends = true := hb.ends_w rb
 have fx : x.rooted = true → x.steps = [] → x.ends = true := fun r => hx.ends_w r
 unfold resM
 split
 ·next h => exact hq4 h (hx.roo (.inl h)) (fx (hx.roo (.inl h)))
 split
 ·next h => exact hq4 (by exact wb) (hx.roo (.inr h)) (fx (hx.roo (.inr h)))
 split
 ·next h => exact hq4 (by exact wb) h (fx h)
 split
 ·next h => exact hq4 (by exact wb) rfl (fun e => absurd (List.append_eq_nil_iff.mp e).2 h)
 ·exact hq4 (by exact wb) rb eb
def wayOf (w : Way) : PyData := .tuple [.bool w.1, .tuple (w.2.1.map st), .bool w.2.2]
theorem tqV {l : Addr} {H : Hp} {Q : VK} : rReverse (.ref l) [] H Q ↔ ∃ xs, H l = some (.lst xs) ∧ Q .non (upd H l (.lst xs.reverse)) :=
 ⟨fun ⟨_, xs, e, _, h, q⟩ => by cases e; exact ⟨xs, h, q⟩, fun ⟨xs, h, q⟩ => ⟨l, xs, rfl, rfl, h, q⟩⟩
abbrev sV (l : List Nat) : V := .str ⟨l.toArray⟩
theorem qqa {H : Hp} : ∀ (ss : List (List Nat)), IsAll H (ss.map st) (ss.map sV)
 | [] => .nil
 | s :: ss => .cons (.str _) (qqa ss)
theorem kqV {H : Hp} : ∀ (ss : List (List Nat)), IsTAll H (ss.map st) (ss.map sV)
 | [] => .nil
 | s :: ss => .cons (.str _) (kqV ss)
theorem mqC {α : Type} {l : List α} {s : α} (g : α → V) (h : l.getLast? = some s) : atI (l.map g) (-1) = some (g s) := by
 obtain ⟨pre, rfl⟩ := List.getLast?_eq_some_iff.mp h
 have e : ixN ((pre ++ [s]).map g).length (-1) = some pre.length := by
  unfold ixN
  simp
  try lia
 unfold atI
 rw [e]
 simp
theorem jqx {r e : Bool} {ss : List (List Nat)} (h : ∀ s ∈ ss, ∀ c ∈ s, isSg c = true) : SeqAt.shaped (wayOf (r, ss, e)) = true := by
 refine LayAt.shaped (n := 2) (.tup (n := 1) fun d hd => ?_) (by decide)
 simp only [List.mem_cons, List.not_mem_nil, or_false] at hd
 rcases hd with rfl | rfl | rfl
 ·exact LayAt.bool.le (by decide)
 ·refine .tup (n := 0) fun d hd => ?_
  obtain ⟨s, hs, rfl⟩ := List.mem_map.mp hd
  exact .st (h s hs)
 ·exact LayAt.bool.le (by decide)
end Wm
namespace L2
open PySem
theorem gqy {X : Cx} {K : PySem.W.Frag} (h : X.K = K) : OpR X (compareOp .In) (rIn K false) := by subst h; exact oqL
theorem uqx {l : Addr} {H : Hp} {Q : VK} : rPop (.ref l) [] H Q ↔ ∃ xs y, H l = some (.lst xs) ∧ xs[xs.length - 1]? = some y ∧ Q y (upd H l (.lst xs.dropLast)) :=
 ⟨fun ⟨_, xs, y, h1, _, h3, h4, h5⟩ => by cases h1; exact ⟨xs, y, h3, h4, h5⟩, fun ⟨xs, y, h3, h4, h5⟩ => ⟨_, xs, y, rfl, rfl, h3, h4, h5⟩⟩
theorem uqZ {H : Hp} {p : Addr} {o : HO} (h : H p = some o) : upd H p o = H := by
 funext b
 by_cases e : b = p
 ·subst e; rw [aqh, h]
 ·rw [aqt e]
theorem pqW {D : Ends} {σ : St} {H : Hp} : (tNever D σ H) = (False) := rfl
end L2
namespace Wm
open PySem L2
structure Ad.Tiny (x : Ad) : Prop where
 stp : ∀ s ∈ x.steps, s.length ≤ 9
 que : ∀ ps, x.quest = some ps → ps.length ≤ 3 ∧ ∀ p ∈ ps, p.1.length ≤ 5 ∧ ∀ v, p.2 = some v → v.length ≤ 6
 mar : ∀ l, x.mark = some l → l.length ≤ 7
 hou : ∀ l, x.house = some l → l.length ≤ 13
def noWay : Way := (false, [], false)
def wayFrom (b w : Way) : Way := if w = noWay then b else if w.1 then w else (true, holder b ++ w.2.1, w.2.2)
def questFrom (b x : Ad) : Option (List (List Nat × Option (List Nat))) := if x.w = noWay ∧ x.quest = none then b.quest else x.quest
def madeWhole (b x : Ad) : Ad := if x.house ≠ none then { x with scheme := b.scheme } else { scheme := b.scheme, house := b.house, door := b.door, rooted := (wayFrom b.w x.w).1, steps := (wayFrom b.w x.w).2.1, ends := (wayFrom b.w x.w).2.2, quest := questFrom b x, mark := x.mark }
theorem iqD {b x : Ad} (hx : x.Wf) (h : x.scheme = []) : resM b x = (madeWhole b x).gone := by
 unfold resM madeWhole
 rw [if_neg (by simp [h])]
 by_cases h1 : x.house ≠ none
 ·rw [if_pos h1, if_pos h1]
 ·rw [if_neg h1, if_neg h1]
  by_cases h2 : x.rooted = true
  ·rw [if_pos h2]
   have e : x.w ≠ noWay := fun z => by
    have := congrArg Prod.fst z
    simp only [Ad.w, noWay] at this
    rw [h2] at this; cases this
   unfold wayFrom questFrom
   simp only [if_neg e, e, false_and, if_false]
   rw [if_pos (show x.w.1 = true from h2)]
   rfl
  ·rw [if_neg h2]
   have hf : x.rooted = false := by simpa using h2
   by_cases h3 : x.steps ≠ []
   ·rw [if_pos h3]
    have e : x.w ≠ noWay := fun z => h3 (by have := congrArg (fun q : Way => q.2.1) z; exact this)
    unfold wayFrom questFrom
    simp only [if_neg e, e, false_and, if_false]
    rw [if_neg (show ¬ x.w.1 = true by rw [show x.w.1 = x.rooted from rfl, hf]; decide)]
    rfl
   ·rw [if_neg h3]
    have h3 : x.steps = [] := Classical.not_not.mp h3
    have he := hx.end_ h3
    have e : x.w = noWay := by simp only [Ad.w, noWay, hf, h3, he]
    unfold wayFrom questFrom
    simp only [e, if_true, true_and]
    rfl
theorem mqN (a b : Way) : PyData.eqv (wayOf a) (wayOf b) = decide (a = b) := by
 obtain ⟨r, ss, e⟩ := a
 obtain ⟨q, tt, f⟩ := b
 rw [Bool.eq_iff_iff, decide_eq_true_eq]
 simp only [wayOf, PyData.eqv, PyData.eqvAll, Bool.and_eq_true, Bool.and_true, beq_iff_eq, Prod.mk.injEq]
 constructor
 ·rintro ⟨h1, h2, h3⟩
  exact ⟨h1, (gqM rqI _ _).mp h2, h3⟩
 ·rintro ⟨h1, h2, h3⟩
  exact ⟨h1, (gqM rqI _ _).mpr h2, h3⟩
theorem kq8 (w : Way) : (goneV w).2.1.length ≤ w.2.1.length := by
 unfold goneV goneW
 split
 ·rename_i h; simp
 ·rename_i h
  have := List.length_pos_iff.mpr h
  split
  ·cases w.1 <;> simp <;> lia
  ·exact gone_len _ _
theorem sqb : StepOk sStay := ⟨by decide, by decide⟩
theorem vqJ : StepOk sUp := ⟨by decide, by decide⟩
theorem jq1 {w : Way} (h : ∀ s ∈ w.2.1, StepOk s) : ∀ s ∈ (goneV w).2.1, StepOk s := by
 intro s hs
 unfold goneV goneW at hs
 split at hs
 ·cases hs
 ·split at hs
  ·cases e : w.1
   ·rw [e] at hs; simp at hs; subst hs; exact sqb
   ·rw [e] at hs; simp at hs
  ·rcases kqs s hs with z | z
   ·exact h s z.1
   ·rw [z.2]; exact vqJ
theorem nq4 {w : Way} (h : w.2.1 = [] → w.2.2 = w.1) : (goneV w).2.1 = [] → (goneV w).2.2 = (goneV w).1 := by
 intro e
 unfold goneV goneW at e ⊢
 split at e
 ·rename_i z; rw [if_pos z]; exact h z
 ·rename_i z
  rw [if_neg z]
  split at e
  ·rename_i y
   rw [if_pos y]
   cases ew : w.1
   ·rw [ew] at e; simp at e
   ·rfl
  ·rename_i y; exact absurd e y
theorem pqH (w : Way) : (goneV w).1 = w.1 := pqE _ _ _
theorem Ad.Wf.gone {x : Ad} (h : x.Wf) : x.gone.Wf where
 sch := h.sch
 hou := h.hou
 doo := h.doo
 stp := jq1 (w := x.w) h.stp
 roo := fun z => (pqH x.w).trans (h.roo z)
 end_ := nq4 (w := x.w) h.end_
 que := h.que
 mar := h.mar
theorem Ad.gone_len (x : Ad) : x.gone.steps.length ≤ x.steps.length := kq8 x.w
theorem jqu (w : Way) : (holder w).length ≤ w.2.1.length := by
 have := kq8 w
 unfold holder
 split
 ·exact this
 ·rw [List.length_dropLast]; lia
theorem pqp {w : Way} (h : ∀ s ∈ w.2.1, StepOk s) : ∀ s ∈ holder w, StepOk s := by
 intro s hs
 unfold holder at hs
 split at hs
 ·exact jq1 h s hs
 ·exact jq1 h s (List.dropLast_subset _ hs)
theorem nqJ {b w : Way} (hb : ∀ s ∈ b.2.1, StepOk s) (hw : ∀ s ∈ w.2.1, StepOk s) : ∀ s ∈ (wayFrom b w).2.1, StepOk s := by
 intro s hs
 unfold wayFrom at hs
 split at hs
 ·exact hb s hs
 ·split at hs
  ·exact hw s hs
  ·rcases List.mem_append.mp hs with z | z
   ·exact pqp hb s z
   ·exact hw s z
theorem mqx (b w : Way) : (wayFrom b w).2.1.length ≤ b.2.1.length + w.2.1.length := by
 unfold wayFrom
 have := jqu b
 split
 ·lia
 ·split
  ·lia
  ·simp only [List.length_append]; lia
theorem mql {b w : Way} (hr : b.1 = true) (hb : b.2.1 = [] → b.2.2 = b.1) (hw : w.2.1 = [] → w.2.2 = w.1) : (wayFrom b w).1 = true ∧ ((wayFrom b w).2.1 = [] → (wayFrom b w).2.2 = (wayFrom b w).1) := by
 unfold wayFrom
 split
 ·exact ⟨hr, hb⟩
 ·rename_i h
  split
  ·rename_i h2; exact ⟨h2, hw⟩
  ·rename_i h2
   refine ⟨rfl, fun e => ?_⟩
   have e := (List.append_eq_nil_iff.mp e).2
   have h3 : w.1 = false := by simpa using h2
   have h4 := hw e
   exfalso; apply h
   obtain ⟨w1, w2, w3⟩ := w
   dsimp only at e h3 h4
   subst e h3 h4
   rfl
theorem kqU {b x : Ad} (hb : b.Wf) (hx : x.Wf) (wb : b.scheme ≠ []) : (madeWhole b x).Wf := by
 have hbr := hb.roo (.inl wb)
 unfold madeWhole
 split
 ·rename_i h
  exact ⟨hb.sch, hx.hou, hx.doo, hx.stp, fun _ => hx.roo (.inr h), hx.end_, hx.que, hx.mar⟩
 ·have hw := mql (b := b.w) (w := x.w) hbr hb.end_ hx.end_
  refine ⟨hb.sch, hb.hou, hb.doo, nqJ hb.stp hx.stp, fun _ => hw.1, hw.2, fun ps e => ?_, hx.mar⟩
  unfold questFrom at e
  dsimp only at e
  split at e
  ·exact hb.que ps e
  ·exact hx.que ps e
theorem fq3 (b x : Ad) : (madeWhole b x).steps.length ≤ b.steps.length + x.steps.length := by
 unfold madeWhole
 split
 ·dsimp only; lia
 ·exact mqx b.w x.w
theorem mqa {b x : Ad} (hb : b.Wf) (hx : x.Wf) (wb : b.scheme ≠ []) : (resM b x).Wf := by
 by_cases h : x.scheme = []
 ·rw [iqD hx h]; exact (kqU hb hx wb).gone
 ·rw [gqC h]; exact hx.gone
theorem kqm {b x : Ad} (hx : x.Wf) : (resM b x).steps.length ≤ b.steps.length + x.steps.length := by
 by_cases h : x.scheme = []
 ·rw [iqD hx h]
  exact Nat.le_trans (Ad.gone_len _) (fq3 b x)
 ·rw [gqC h]
  have := Ad.gone_len x
  lia
end Wm
namespace Wm
end Wm
namespace Wm
open PySem L2
def cutA {α : Type} (xs : List α) (lo hi : Option Int) : List α := (xs.drop (HT.sIx xs.length 0 lo)).take (HT.sIx xs.length xs.length hi - HT.sIx xs.length 0 lo)
theorem qqD {α : Type} (f : α → V) (xs : List α) (lo hi : Option Int) : cutV (xs.map f) lo hi = (cutA xs lo hi).map f := by
 unfold cutV cutA; rw [List.length_map, List.map_take, List.map_drop]
theorem sq2 {α : Type} (xs : List α) {n : Nat} {i : Int} (h : HT.sIx xs.length xs.length (some i) = n) : cutA xs none (some i) = xs.take n := by
 unfold cutA
 rw [h, show HT.sIx xs.length 0 none = 0 from rfl, List.drop_zero, Nat.sub_zero]
theorem nqK {α : Type} (xs : List α) : cutA xs none (some (-1)) = xs.dropLast := by
 rw [sq2 (n := xs.length - 1), List.dropLast_eq_take]
 show (if (-1 : Int) < 0 then ((-1 : Int) + (xs.length : Int)).toNat else min (-1 : Int).toNat xs.length) = _
 rw [if_pos (by decide)]; lia
end Wm
namespace L2
open PySem
end L2
namespace Wm
open PySem L2
section
variable {H : Hp}
theorem wayT' {r e : Bool} {ss : List (List Nat)} {p q : Addr} (hp : H p = some (.tup [.bl r, .ref q, .bl e])) (hq : H q = some (.tup (ss.map fun l => V.str ⟨l.toArray⟩))) : IsT H (.tuple [.bool r, .tuple (ss.map st), .bool e]) (.ref p) :=
 .tup hp (.cons (.bl _) (.cons (.tup hq (kqV _)) (.cons (.bl _) .nil)))
theorem rqC {x : Ad} {v : V} (h : IsT H x.data v) : ∃ p w q, v = .ref p ∧ H p = some (.tup [.str ⟨x.scheme.toArray⟩, otV x.house, itV x.door, w, q, otV x.mark]) ∧ IsT H x.way w ∧ IsT H (qD x.quest) q := by
 obtain ⟨p, x0, x1, x2, x3, x4, x5, rfl, hp, i0, i1, i2, i3, i4, i5⟩ := isT6 (show IsT H (.tuple [st x.scheme, oD x.house, iD x.door, x.way, qD x.quest, oD x.mark]) v from h)
 cases rqj i0
 cases rqz i1
 cases vqb i2
 cases rqz i5
 exact ⟨p, x3, x4, rfl, hp, i3, i4⟩
theorem adT {x : Ad} {p : Addr} {w q : V} (hp : H p = some (.tup [.str ⟨x.scheme.toArray⟩, otV x.house, itV x.door, w, q, otV x.mark])) (hw : IsT H x.way w) (hq : IsT H (qD x.quest) q) : IsT H x.data (.ref p) :=
 .tup hp (.cons (.str _) (.cons (lq9 _) (.cons (sqo _) (.cons hw (.cons hq (.cons (lq9 _) .nil))))))
end
theorem Ad.Wf.local {x : Ad} (h : x.Wf) : ({ x with scheme := [], house := none, door := none } : Ad).Wf :=
 ⟨⟨Nat.zero_le _, (fun c hc => by cases hc), (fun c hc => by cases hc)⟩, (fun l e => by cases e), (fun l e => by cases e), h.stp, (fun z => z.elim (fun y => absurd rfl y) (fun y => absurd rfl y)), h.end_, h.que, h.mar⟩
def Goods (n : Nat) (H : Hp) (vs : List V) : Prop := ∀ v ∈ vs, ∃ x : Ad, x.Wf ∧ x.steps.length ≤ n ∧ IsT H x.data v
theorem Goods.cons {n : Nat} {H : Hp} {v : V} {vs : List V} {x : Ad} (h1 : x.Wf) (h2 : x.steps.length ≤ n) (h3 : IsT H x.data v) (h : Goods n H vs) : Goods n H (v :: vs) := fun u hu => by
 rcases List.mem_cons.mp hu with rfl | hu
 ·exact ⟨x, h1, h2, h3⟩
 ·exact h u hu
end Wm
namespace L2
open PySem PySem.Spec PyProof.Rows
theorem vqD {b c : Bool} {H : Hp} {Q : VK} : (rIsB true (.bl b) (.bl c) H Q) = (Q (.bl (!decide (b = c))) H) := rfl
end L2
namespace Wm
open PySem L2
structure GoodAd (n : Nat) (x : Ad) : Prop where
 wf : x.Wf
 ti : x.Tiny
 sc : x.scheme ≠ []
 ln : x.steps.length ≤ n
theorem GoodAd.le {n m : Nat} {x : Ad} (h : GoodAd n x) (hm : n ≤ m) : GoodAd m x := ⟨h.wf, h.ti, h.sc, Nat.le_trans h.ln hm⟩
end Wm
namespace L2
open PySem PySem.Spec PyProof.Rows
section
variable {prog : Program} {w : World} {A : Around} {E : Value → Shared → Prop} {s : Shared}
end
def Itv (K : PySem.W.Frag) (a : Addr) (n : Nat) : It :=
 ⟨fun i H => ∃ xs x, SqT K H a xs ∧ xs.length = n ∧ i < n ∧ xs[n - 1 - i]? = some x, fun i H x H' => H' = H ∧ ∀ xs, SqT K H a xs → xs.length = n → xs[n - 1 - i]? = some x, fun i _ => n ≤ i⟩
section
variable {X : Cx} {tg : Expr} {K : PySem.W.Frag}
def iRev (K : PySem.W.Frag) (ta : TA) : TI := fun σ H R => ta σ H fun vs H1 => ∃ a xs, vs = [.ref a] ∧ SqT K H1 a xs ∧ R (Itv K a xs.length) H1
variable {σ : St} {H : Hp} {D : Ends} {g : TG} {tb : TS} {aa : TA}
theorem rq6 : (tFor (iRev K aa) g tb D σ H) = (aa σ H fun vs H1 => ∃ a xs, vs = [.ref a] ∧ SqT K H1 a xs ∧ LoopI (Itv K a xs.length) g tb D σ H1) := rfl
end
section
variable {X : Cx}
def rRepT : R2 := fun x y H Q => ∃ a k xs, x = .ref a ∧ y = .int k ∧ H a = some (.tup xs) ∧ 2 ≤ k ∧ k < 1000 ∧ xs.length * k.toNat ≤ sizeLine ∧ ∀ p H', Same H H' → H' p = some (.tup (List.replicate k.toNat xs).flatten) → Q (.ref p) H'
theorem qq1 {a : Addr} {k : Int} {H : Hp} {Q : VK} : rRepT (.ref a) (.int k) H Q ↔ ∃ xs, H a = some (.tup xs) ∧ 2 ≤ k ∧ k < 1000 ∧ xs.length * k.toNat ≤ sizeLine ∧ ∀ p H', Same H H' → H' p = some (.tup (List.replicate k.toNat xs).flatten) → Q (.ref p) H' := by
 constructor
 ·rintro ⟨a', k', xs, h1, h2, h⟩; cases h1; cases h2; exact ⟨xs, h⟩
 ·rintro ⟨xs, h⟩; exact ⟨a, k, xs, rfl, rfl, h⟩
def rRepS : R2 := fun x y H Q => ∃ l k xs, x = .ref l ∧ y = .int k ∧ H l = some (.lst xs) ∧ 0 ≤ k ∧ k < 1000000 ∧ xs.length * k.toNat ≤ sizeLine ∧ ∀ p H', H p = none → Same H H' → H' p = some (.lst (List.replicate k.toNat xs).flatten) → Q (.ref p) H'
theorem pqZ {a : Addr} {k : Int} {H : Hp} {Q : VK} : rRepS (.ref a) (.int k) H Q ↔ ∃ xs, H a = some (.lst xs) ∧ 0 ≤ k ∧ k < 1000000 ∧ xs.length * k.toNat ≤ sizeLine ∧ ∀ p H', H p = none → Same H H' → H' p = some (.lst (List.replicate k.toNat xs).flatten) → Q (.ref p) H' := by
 constructor
 ·rintro ⟨a', k', xs, h1, h2, h⟩; cases h1; cases h2; exact ⟨xs, h⟩
 ·rintro ⟨xs, h⟩; exact ⟨a, k, xs, rfl, rfl, h⟩
end
section
variable {X : Cx}
def rRepN : R2 := fun x y H Q => ∃ a k xs, x = .ref a ∧ y = .int k ∧ H a = some (.tup xs) ∧ 0 ≤ k ∧ k < 1000 ∧ xs.length * k.toNat ≤ sizeLine ∧ ∀ p H', Same H H' → H' p = some (.tup (List.replicate k.toNat xs).flatten) → Q (.ref p) H'
theorem qqf {a : Addr} {k : Int} {H : Hp} {Q : VK} : rRepN (.ref a) (.int k) H Q ↔ ∃ xs, H a = some (.tup xs) ∧ 0 ≤ k ∧ k < 1000 ∧ xs.length * k.toNat ≤ sizeLine ∧ ∀ p H', Same H H' → H' p = some (.tup (List.replicate k.toNat xs).flatten) → Q (.ref p) H' := by
 constructor
 ·rintro ⟨a', k', xs, h1, h2, h⟩; cases h1; cases h2; exact ⟨xs, h⟩
 ·rintro ⟨xs, h⟩; exact ⟨a, k, xs, rfl, rfl, h⟩
end
section
variable {X : Cx}
def intsV (lo : Int) (n : Nat) : List V := (List.range n).map fun k => .int (lo + (k : Nat))
def tLR (ta : TA) : TE := fun σ H Q => ta σ H fun vs H1 => ∃ j : Int, vs = [.int j] ∧ 0 ≤ j ∧ j ≤ 1000000 ∧ ∀ p, H1 p = none → Q (.ref p) (upd H1 p (.lst (intsV 0 j.toNat)))
end
theorem vqp {ta : TA} {σ : St} {H : Hp} {Q : VK} : (tLR ta σ H Q) = (ta σ H fun vs H1 => ∃ j : Int, vs = [.int j] ∧ 0 ≤ j ∧ j ≤ 1000000 ∧ ∀ p, H1 p = none → Q (.ref p) (upd H1 p (.lst (intsV 0 j.toNat)))) := rfl
end L2
namespace L2
open PySem
section
variable {p : Addr} {fv : St} {tt : TT} {te : TE} {Q : VK} {H1 : Hp} {K : PySem.W.Frag}
end
end L2
namespace L2
open PySem PySem.Spec PyProof.Rows
section
variable {X : Cx} {pins : List (Addr × Obj)} {σ : St} {H1 : Hp} {s3 : Shared} {x x2 : Str} {fx : List Str} {fr : List Nat} {scope : Scope} {cl : List (Str × Addr)} {fp : List Addr}
theorem qqh (I : Inv X pins σ H1 s3) (hkind : scope.kind = .function) (hcl : ∀ y c, cl.lookup y = some c → X.env.cells.lookup y = some c)
  (F : Frees X (relabel scope X.env) cl fx fr) (hfx : ((relabel scope X.env).names.all fun p => if (p.2 == .cell || p.2 == .free) then fx.contains p.1 else true) = true)
  (ffp : ∀ b ∈ fp, FpOk X pins H1 b) (flt : ∀ b ∈ fp, b < s3.heap.objs.size) : (compCx X (x :: x2 :: fx) scope cl s3 H1 fp).Ok where
 mod := I.ok.mod
 kind := hkind
 glob := I.ok.glob
 blt := I.ok.blt
 above := Nat.le_refl _
 inj := fun y z c h1 h2 => I.ok.inj y z c (hcl y c h1) (hcl z c h2)
 has := fun y h => by
  have h : (relabel scope X.env).names.lookup y = some .cell ∨ (relabel scope X.env).names.lookup y = some .free := h
  have key : y ∈ fx := by
   rcases h with h | h
   ·have q := List.all_eq_true.mp hfx _ (PySem.mem_of_lookup h)
    simpa using q
   ·have q := List.all_eq_true.mp hfx _ (PySem.mem_of_lookup h)
    simpa using q
  obtain ⟨k1, k2⟩ := F.mem y key
  obtain ⟨c, e⟩ := I.ok.has y (.inl k1)
  exact ⟨c, k2.trans e⟩
 cab := fun y c h => by cases (show false = true from h)
 hd := I.ok.hd
 frames := I.ok.frames
 stk := .inl rfl
 exf := fun b hb => ⟨Nat.ne_of_lt (flt b hb), fun y c e => (ffp b hb).2.2.2.2.1 y c (hcl y c e)⟩
 bs := I.bs
 bsz := Nat.le_trans I.ok.bsz I.sz
 noex := fun b o e hb => by
  rcases (ffp b hb).2.2.2.1 with z | z
  ·exact I.ok.noex b o e z
  ·exact absurd (Nat.lt_of_lt_of_le (Heap.lt_size (I.ok.bs b o e).1) z) (Nat.lt_irrefl _)
 exfs := fun b hb z => by
  rcases List.mem_cons.mp (I.stkSub b z) with q | q
  ·exact (ffp b hb).2.1 q
  ·exact (ffp b hb).2.2.1 q
 funs := I.stack
 frf := I.stkFree
theorem lq7 (I : Inv X pins σ H1 s3) (hkind : scope.kind = .function) (hcl : ∀ y c, cl.lookup y = some c → X.env.cells.lookup y = some c)
  (F : Frees X (relabel scope X.env) cl fx fr) (hfx : ((relabel scope X.env).names.all fun p => if (p.2 == .cell || p.2 == .free) then fx.contains p.1 else true) = true)
  (ffp : ∀ b ∈ fp, FpOk X pins H1 b) (flt : ∀ b ∈ fp, b < s3.heap.objs.size) {h1 : Heap} {t : Nat} {m : Str → Option Value} (hn : h1.Ns s3.heap.objs.size m)
  (keep : ∀ b u, s3.heap.get? b = some u → h1.get? b = some u) : Inv (compCx X (x :: x2 :: fx) scope cl s3 H1 fp) [] (none :: none :: frV σ fr) H1 { s3 with heap := h1, toks := t } := by
 refine ⟨qqh I hkind hcl F hfx ffp flt, rfl, I.bare, Un.kept keep, ⟨m, hn, fun i y v e1 e2 e3 => ?_⟩, fun y c e => ?_, I.hok.fresh (Nat.le_refl _), fun y c e => I.freeC y c (hcl y c e), fun p hp => absurd (show p ∈ ([] : List (Addr × Obj)) from hp) (by simp), I.hok.kept keep, ?_⟩
 ·cases i with
  | zero => simp at e2
  | succ j =>
   cases j with
   | zero => simp at e2
   | succ j =>
    obtain ⟨i0, k1, k2, k3, k4, k5⟩ := F.at (σ := σ) j y v (by simpa [compCx] using e1) (by simpa using e2)
    obtain ⟨m0, hn0, hl0⟩ := I.loc
    obtain ⟨u, r, l⟩ := hl0 i0 y v k1 k2 (.inr (.inl k3))
    refine ⟨u, r, ?_⟩
    rcases l with ⟨z, _⟩ | ⟨_, c, e, o, ho, hd⟩
    ·rw [k3] at z; cases z
    ·exact .inr ⟨.inl k4, c, k5.trans e, o, keep c o ho, hd⟩
 ·obtain ⟨v, o, ho, hd⟩ := I.cell y c (hcl y c e)
  exact ⟨v, o, keep c o ho, hd⟩
 ·show (none :: none :: frV σ fr).length = (x :: x2 :: fx).length
  simp [frV, F.len]
end
def CompI2 (K : PySem.W.Frag) (J : It) (p : Addr) (fv : St) (tt : TT) (te : TE) (Q : VK) (H1 : Hp) : Prop :=
 ∃ W : Nat → Nat → List V → Hp → Prop, (∃ m, W 0 m [] (upd H1 p (.lst []))) ∧ ∀ i m ys H2, W i m ys H2 → H2 p = some (.lst ys) ∧
  ((J.stop i H2 ∧ Q (.ref p) H2) ∨ (J.go i H2 ∧ ys.length < sizeLine ∧ ∀ z H3, J.yld i H2 z H3 → ∃ a x y, z = .ref a ∧ SqT K H3 a [x, y] ∧ tt (some x :: some y :: fv) H3 fun b H4 =>
   if b = true then te (some x :: some y :: fv) H4 fun y H5 => H5 p = some (.lst ys) ∧ ∃ m', m' < m ∧ W (i + 1) m' (ys ++ [y]) (upd H5 p (.lst (ys ++ [y])))
   else ∃ m', m' < m ∧ W (i + 1) m' ys H4))
def tComp2 (K : PySem.W.Frag) (wi : TI) (fr : List Nat) (tt : TT) (te : TE) : TE := fun σ H Q => wi σ H fun J H1 => ∀ p, H1 p = none → CompI2 K J p (frV σ fr) tt te Q H1
section
variable {X : Cx} {elt iter : Expr} {x x2 : Str} {px px2 ptx pos : Pos} {kx : Nat} {ifs : List Expr} {scope : Scope} {cl : List (Str × Addr)} {fx : List Str} {fr : List Nat} {wi : TI} {tt : TT} {te : TE}
theorem mqi {pins : List (Addr × Obj)} {σ : St} {H3 : Hp} {s3 : Shared} {it p : Addr} {fp : List Addr} {tn : Nat → Heap → Prop} {J : It} {Q : VK} {W : Nat → Nat → List V → Hp → Prop} {m0 t : Nat} {h₁ : Heap} {m : Str → Option Value} {RR : Result → Shared → Prop}
  (hc : X.calm = true) (hkind : scope.kind = .function) (hx : scope.names.lookup x = some .local) (hx2 : scope.names.lookup x2 = some .local) (hnd : (x :: x2 :: fx).Nodup)
  (hcl : ∀ y c, cl.lookup y = some c → X.env.cells.lookup y = some c) (F : Frees X (relabel scope X.env) cl fx fr)
  (hfx : ((relabel scope X.env).names.all fun p => if (p.2 == .cell || p.2 == .free) then fx.contains p.1 else true) = true)
  (ht : ∀ s H fp, PF (compCx X (x :: x2 :: fx) scope cl s H fp) ifs tt) (he : ∀ s H fp, PE (compCx X (x :: x2 :: fx) scope cl s H fp) elt te)
  (I3 : Inv X pins σ H3 s3) (T : Turn X.prog X.w X.K (.Tuple [.Name x px, .Name x2 px2] kx ptx) J fp it tn) (st3 : tn 0 s3.heap) (ffp : ∀ b ∈ fp, FpOk X pins H3 b) (flt3 : ∀ b ∈ fp, b < s3.heap.objs.size)
  (w0 : W 0 m0 [] H3) (turn : ∀ i m ys H2, W i m ys H2 → H2 p = some (.lst ys) ∧
   ((J.stop i H2 ∧ Q (.ref p) H2) ∨ (J.go i H2 ∧ ys.length < sizeLine ∧ ∀ z H3, J.yld i H2 z H3 → ∃ a x y, z = .ref a ∧ SqT X.K H3 a [x, y] ∧ tt (some x :: some y :: frV σ fr) H3 fun b H4 =>
    if b = true then te (some x :: some y :: frV σ fr) H4 fun y H5 => H5 p = some (.lst ys) ∧ ∃ m', m' < m ∧ W (i + 1) m' (ys ++ [y]) (upd H5 p (.lst (ys ++ [y])))
    else ∃ m', m' < m ∧ W (i + 1) m' ys H4)))
  (hns : h₁.Ns s3.heap.objs.size m) (keep1 : ∀ b u, s3.heap.get? b = some u → h₁.get? b = some u)
  (fin : ∀ s6 H5 o o2, Inv (compCx X (x :: x2 :: fx) scope cl s3 H3 fp) [] (o :: o2 :: frV σ fr) H5 s6 → Q (.ref p) H5 → RR (.ok .next) s6) :
  codeAny (model X.prog X.w) X.A (.compStart (.ListComp elt [⟨.Tuple [.Name x px, .Name x2 px2] kx ptx, iter, ifs, 0⟩] scope pos) 0 (.ref it) (.ref p) (compEnvC scope cl s3.heap.objs.size X.env))
   RR { s3 with heap := h₁, toks := t } := by
 have I4 := lq7 (x := x) (x2 := x2) (t := t) I3 hkind hcl F hfx ffp flt3 hns keep1
 have st4 : tn 0 h₁ := T.keep _ _ _ st3 fun b hb o e => keep1 b o e
 have fp0 : ∀ b ∈ fp, H3 b = none := fun b hb => (ffp b hb).1
 have hcal : (compCx X (x :: x2 :: fx) scope cl s3 H3 fp).calm = true := hc
 have stat : ∀ {H' : Hp}, (∀ b ∈ fp, H' b = none) → ∀ b ∈ fp, FpOk (compCx X (x :: x2 :: fx) scope cl s3 H3 fp) [] H' b := fun {H'} hn b hb => by
  obtain ⟨f0, f1, f2, f3, f4, f5⟩ := ffp b hb
  exact ⟨hn b hb, Nat.ne_of_lt (flt3 b hb), I4.ok.exfs b hb, .inl hb, fun y c e => f4 y c (hcl y c e), fun q hq => absurd (show q ∈ ([] : List (Addr × Obj)) from hq) (by simp)⟩
 have hxl : (relabel scope X.env).names.lookup x = some .local := lookup_relabel_local hx
 have hxl2 : (relabel scope X.env).names.lookup x2 = some .local := lookup_relabel_local hx2
 have pg : PG (compCx X (x :: x2 :: fx) scope cl s3 H3 fp) (.Tuple [.Name x px, .Name x2 px2] kx ptx) (gTup X.K 2 (gCons (gName 0) (gCons (gName 1) gNil))) := tq7 hcal (nqm (dqY (i := 0) hnd rfl (.inl hxl) (.inr hxl)) (nqm (dqY (i := 1) hnd rfl (.inl hxl2) (.inr hxl2)) rqY))
 have loop : codeAny (model X.prog X.w) X.A (.compLoop (.ListComp elt [⟨.Tuple [.Name x px, .Name x2 px2] kx ptx, iter, ifs, 0⟩] scope pos) 0 (.ref it) (.ref p) (compEnvC scope cl s3.heap.objs.size X.env))
    RR { s3 with heap := h₁, toks := t } := by
  refine gq3 (fun n s' => ∃ i ys H' o o2, Inv (compCx X (x :: x2 :: fx) scope cl s3 H3 fp) [] (o :: o2 :: frV σ fr) H' s' ∧ tn i s'.heap ∧ (∀ b ∈ fp, H' b = none) ∧ W i n ys H') ?_ m0 ⟨0, [], _, none, none, I4, st4, fp0, w0⟩
  rintro n s5 ⟨i, ys, H5, o, o2, I5, st5, fr5, w5⟩
  obtain ⟨hp5, alt⟩ := turn i n ys H5 w5
  rcases alt with ⟨stop, qn⟩ | ⟨go, hlen, step⟩
  ·refine thn (T.done (compCx X (x :: x2 :: fx) scope cl s3 H3 fp) rfl rfl rfl hcal i [] s5 (o :: o2 :: frV σ fr) H5 _ I5 (stat fr5) st5 stop) fun r s6 W' => ?_
   obtain ⟨hr, I6⟩ := W'
   subst hr
   exact fin s6 H5 o o2 I6 qn
  ·refine thn (T.item (compCx X (x :: x2 :: fx) scope cl s3 H3 fp) rfl rfl rfl hcal i [] s5 (o :: o2 :: frV σ fr) H5 _ I5 (stat fr5) st5 go) fun r s6 W' => ?_
   obtain ⟨u, hr, h6⟩ := W'
   subst hr
   refine thn h6 fun _ s7 W' => ?_
   obtain ⟨y7, H7, I7, r7, yl7, st7, fr7⟩ := W'
   have I7' := I7.pinned (stat fr7) (T.obj _ _ st7)
   have back : ∀ {σ' : St} {H' : Hp} {s' : Shared}, Inv (compCx X (x :: x2 :: fx) scope cl s3 H3 fp) ([] ++ pinsAt fp s7.heap) σ' H' s' → tn (i + 1) s'.heap ∧ ∀ b ∈ fp, H' b = none := fun {σ' H' s'} I' => by
    refine ⟨T.keep _ _ _ st7 fun b hb o e => (I'.pin (b, o) (List.mem_append_right _ (List.mem_append_right _ (cq1 hb e)))).1, fun b hb => ?_⟩
    obtain ⟨o, e, d⟩ := T.obj _ _ st7 b hb
    exact (I'.pin (b, o) (List.mem_append_right _ (List.mem_append_right _ (cq1 hb e)))).2.1
   obtain ⟨a7, z1, z2, e7, q7, step7⟩ := step y7 _ yl7
   subst e7
   refine thn (pg _ s7 _ H7 (.ref a7) u (fun σ' H' => σ' = some z1 :: some z2 :: frV σ fr ∧ H' = H7) I7' r7 ⟨a7, [z1, z2], rfl, q7, rfl, z1, [z2], rfl, z2, [], rfl, rfl, rfl, rfl⟩) fun _ s8 W' => ?_
   obtain ⟨σ8, H8, I8, e8, e8'⟩ := W'
   subst e8 e8'
   refine thn (ht s3 H3 fp _ s8 _ _ _ I8 step7) fun b s9 W' => ?_
   obtain ⟨H9, I9, q9⟩ := W'
   cases b with
   | false =>
    rw [if_neg Bool.false_ne_true] at q9 ⊢
    obtain ⟨m', hm, w9⟩ := q9
    exact ⟨m', hm, i + 1, ys, H9, some z1, some z2, I9.unpinned, (back I9).1, (back I9).2, w9⟩
   | true =>
    rw [if_pos rfl] at q9 ⊢
    refine thn (he s3 H3 fp _ s9 _ H9 _ I9 q9) fun u10 s10 W' => ?_
    obtain ⟨y10, H10, I10, r10, hp10, m', hm, w10⟩ := W'
    refine thn (cqK _ s10 _ H10 (.ref p) [y10] (.ref p) [u10] (fun _ H' => H' = upd H10 p (.lst (ys ++ [y10]))) I10 rfl (.cons r10 .nil) ⟨p, ys, y10, rfl, rfl, hp10, hlen, rfl⟩) fun _ s11 W' => ?_
    obtain ⟨_, H11, I11, _, e11⟩ := W'
    subst e11
    exact ⟨m', hm, i + 1, ys ++ [y10], _, some z1, some z2, I11.unpinned, (back I11).1, (back I11).2, w10⟩
 exact codeAny_compStart_list loop (T.self _ 0 _ _ _ st4 loop)
theorem qqb (hc : X.calm = true) (hclos : closureFor scope X.env = pure cl) (hcell : ∀ y ∈ scope.names, y.2 ≠ .cell) (hkind : scope.kind = .function)
  (hnames : ∀ y ∈ scope.names, y.2 = .local → scope.names.lookup y.1 = some .local) (hx : scope.names.lookup x = some .local) (hx2 : scope.names.lookup x2 = some .local) (hnd : (x :: x2 :: fx).Nodup)
  (hk : (cl.all fun q => fx.contains q.1) = true) (F : Frees X (relabel scope X.env) cl fx fr)
  (hfx : ((relabel scope X.env).names.all fun p => if (p.2 == .cell || p.2 == .free) then fx.contains p.1 else true) = true)
  (hi : PI X (.Tuple [.Name x px, .Name x2 px2] kx ptx) iter wi) (ht : ∀ s H fp, PF (compCx X (x :: x2 :: fx) scope cl s H fp) ifs tt) (he : ∀ s H fp, PE (compCx X (x :: x2 :: fx) scope cl s H fp) elt te)
  (hs : ∀ x, foldedSetIterable iter X.env x = pure x := by intro _; rfl) :
  PE X (.ListComp elt [⟨.Tuple [.Name x px, .Name x2 px2] kx ptx, iter, ifs, 0⟩] scope pos) (tComp2 X.K wi fr tt te) := by
 intro pins s σ H Q I h
 have hcl : ∀ y c, cl.lookup y = some c → X.env.cells.lookup y = some c := fun y c e => by
  have q := List.all_eq_true.mp hk _ (PySem.mem_of_lookup e)
  rw [← (F.mem y (by simpa using q)).2]
  exact e
 rw [eval_ListComp]
 refine wpAny_comprehension_free (use := none) rfl hs hclos hkind hnames ?_
 refine thn (hi pins s σ H _ I h) fun v s1 h1 => thn h1 fun itv s2 h2 => ?_
 obtain ⟨it, fp, tn, J, H2, e, I2, T, st2, f2, q2⟩ := h2
 subst e
 have hp0 : H2 s2.heap.objs.size = none := I2.hok.fresh (Nat.le_refl _)
 obtain ⟨W, ⟨m0, w0⟩, turn⟩ := q2 _ hp0
 have flt : ∀ b ∈ fp, b < s2.heap.objs.size := fun b hb => by
  obtain ⟨o, e, _⟩ := T.obj _ _ st2 b hb
  exact Heap.lt_size e
 refine wpAny_newObj_type (wpAny_newFunctionEnv hcell (by intro y hy; simp at hy) (fun h₁ hns₁ hsb₁ => ?_) hkind)
 dsimp only at hns₁ hsb₁ ⊢
 have hlay : ∀ b u, s2.heap.get? b = some u → (s2.heap.push { cls := .type "list", dict := none, data := .seq ([] : List Value).toArray }).get? b = some u := fun b u e => Heap.get?_push_of_some _ e
 have hnew : (s2.heap.push { cls := .type "list", dict := none, data := .seq ([] : List Value).toArray }).get? s2.heap.objs.size = some { cls := .type "list", dict := none, data := .seq ([] : List Value).toArray } := Heap.get?_push_size _ rfl
 have hsz : (s2.heap.push { cls := .type "list", dict := none, data := .seq ([] : List Value).toArray }).objs.size = s2.heap.objs.size + 1 := Heap.size_push _ _
 generalize hHH : s2.heap.push { cls := .type "list", dict := none, data := .seq ([] : List Value).toArray } = HH at hns₁ hsb₁ hlay hnew hsz ⊢
 have I3 : Inv X pins σ (upd H2 s2.heap.objs.size (.lst [])) { s2 with heap := HH, toks := s2.toks } :=
  I2.laid (t' := s2.toks) (o := .lst []) hlay (Nat.le_refl _) ⟨Nat.zero_le _, [], 0, .nil, hnew⟩
 have ffp : ∀ b ∈ fp, FpOk X pins (upd H2 s2.heap.objs.size (.lst [])) b := fun b hb => by
  obtain ⟨f0, fr'⟩ := f2 b hb
  exact ⟨by rw [aqt (Nat.ne_of_lt (flt b hb))]; exact f0, fr'⟩
 have keep1 : ∀ b u, HH.get? b = some u → h₁.get? b = some u := fun b u e => hsb₁.extBut b u (Nat.ne_of_lt (Heap.lt_size e)) (Heap.get?_push_of_some _ e)
 exact mqi (s3 := { s2 with heap := HH, toks := s2.toks }) hc hkind hx hx2 hnd hcl F hfx ht he I3 T (T.keep _ _ _ st2 fun b hb o e => hlay b o e) ffp (fun b hb => by show b < HH.objs.size; rw [hsz]; exact Nat.lt_succ_of_lt (flt b hb)) w0 turn hns₁ keep1 fun s6 H5 o o2 I6 qn => by
  obtain ⟨m, hn6, _⟩ := id I6.loc
  exact ⟨m, hn6, fun h' sb => ⟨.ref _, H5, kq2 I3 I6 ffp sb, rfl, qn⟩⟩
theorem pqn {K : PySem.W.Frag} (h : X.K = K) (hc : X.calm = true) (hclos : closureFor scope X.env = pure cl) (hcell : ∀ y ∈ scope.names, y.2 ≠ .cell) (hkind : scope.kind = .function)
  (hnames : ∀ y ∈ scope.names, y.2 = .local → scope.names.lookup y.1 = some .local) (hx : scope.names.lookup x = some .local) (hx2 : scope.names.lookup x2 = some .local) (hnd : (x :: x2 :: fx).Nodup)
  (hk : (cl.all fun q => fx.contains q.1) = true) (F : Frees X (relabel scope X.env) cl fx fr)
  (hfx : ((relabel scope X.env).names.all fun p => if (p.2 == .cell || p.2 == .free) then fx.contains p.1 else true) = true)
  (hi : PI X (.Tuple [.Name x px, .Name x2 px2] kx ptx) iter wi) (ht : ∀ s H fp, PF (compCx X (x :: x2 :: fx) scope cl s H fp) ifs tt) (he : ∀ s H fp, PE (compCx X (x :: x2 :: fx) scope cl s H fp) elt te)
  (hs : ∀ x, foldedSetIterable iter X.env x = pure x := by intro _; rfl) :
  PE X (.ListComp elt [⟨.Tuple [.Name x px, .Name x2 px2] kx ptx, iter, ifs, 0⟩] scope pos) (tComp2 K wi fr tt te) := by
 subst h; exact qqb hc hclos hcell hkind hnames hx hx2 hnd hk F hfx hi ht he hs
end
section
variable {p : Addr} {fv : St} {te : TE} {Q : VK} {H1 : Hp} {K : PySem.W.Frag}
theorem oqb {a : Addr} {xs zs : List V} {f : Nat → V × V} (hxs : SqT K H1 a xs) (hlen : xs.length ≤ sizeLine) (hp : H1 p = none) (hz : zs.length = xs.length)
  (hit : ∀ (i : Nat) (x : V) (H' : Hp), xs[i]? = some x → Same H1 H' → ∃ b, x = .ref b ∧ SqT K H' b [(f i).1, (f i).2])
  (he : ∀ (i : Nat) (z : V), i < xs.length → zs[i]? = some z → ∀ (H' : Hp) (T : VK), Same H1 H' → (∀ H'', Same H' H'' → T z H'') → te (some (f i).1 :: some (f i).2 :: fv) H' T)
  (hQ : ∀ H', Same H1 H' → H' p = some (.lst zs) → Q (.ref p) H') : CompI2 K (Itt K a) p fv tYes te Q H1 := by
 refine ⟨fun i m ys H2 => m = xs.length - i ∧ i ≤ xs.length ∧ ys = zs.take i ∧ H2 p = some (.lst ys) ∧ Same H1 H2, ⟨xs.length, by simp, Nat.zero_le _, by simp, aqh, fun b o e => by rw [aqt (aqq e hp)]; exact e⟩, ?_⟩
 rintro i m ys H2 ⟨rfl, hi, rfl, hp2, sm⟩
 refine ⟨hp2, ?_⟩
 have q := sm.tup hxs
 by_cases hlt : i < xs.length
 ·refine .inr ⟨⟨xs, xs[i], q, by simp [hlt]⟩, ?_, fun x H3 y => ?_⟩
  ·rw [List.length_take]; lia
  ·obtain ⟨rfl, y⟩ := y
   have hc := y xs q
   obtain ⟨b, rfl, hb⟩ := hit i x H3 hc sm
   refine ⟨b, _, _, rfl, hb, ?_⟩
   unfold tYes
   dsimp only
   rw [if_pos rfl]
   have hzi : zs[i]? = some zs[i] := by simp [hz, hlt]
   refine he i _ hlt hzi _ _ sm fun H5 s5 => ⟨s5 _ _ hp2, xs.length - (i + 1), by lia, rfl, hlt, ?_, aqh, fun b o e => ?_⟩
   ·rw [List.take_add_one, hzi]; rfl
   ·rw [aqt (aqq e hp)]; exact s5 _ _ (sm _ _ e)
 ·have e : i = xs.length := by lia
  subst e
  refine .inl ⟨⟨xs, q, Nat.le_refl _⟩, hQ H2 sm ?_⟩
  rw [hp2, ← hz, List.take_length]
theorem oqw {tl : TE} {tt : TT} {fr : List Nat} {σ : St} {H : Hp} : (tComp2 K (iTup K tl) fr tt te σ H Q) = (tl σ H fun x H1 => ∃ a, x = .ref a ∧ (∃ xs, SqT K H1 a xs) ∧ ∀ p, H1 p = none → CompI2 K (Itt K a) p (frV σ fr) tt te Q H1) := rfl
end
section
variable {X : Cx}
def rFind : V → List V → Hp → VK → Prop := fun x vs H Q => match x, vs with
 | .str z, [.str y] => Q (.int (Txt.find z y)) H
 | _, _ => False
theorem tqr {z y : Str} {H : Hp} {Q : VK} : (rFind (.str z) [.str y] H Q) = (Q (.int (Txt.find z y)) H) := rfl
end
end L2
namespace Wm
open PySem L2
def low1 (c : Nat) : Nat := if 65 ≤ c ∧ c ≤ 90 then c + 32 else c
theorem uqE : ∀ c, c < 128 → isSg c = true → isSg (low1 c) = true := by decide +kernel
theorem rqO : ∀ c, c < 128 → isAln c = true → isAln (low1 c) = true := by decide +kernel
theorem sqV : ∀ c, c < 128 → isLet c = true → isLet (low1 c) = true := by decide +kernel
def lowT (l : List Nat) : List Nat := l.map low1
theorem jqN (l : List Nat) : (lowT l).length = l.length := List.length_map ..
def plainM (x : Ad) : Ad := ({ x with scheme := lowT x.scheme, house := x.house.map lowT } : Ad).gone
theorem gqb {c : Nat} (h : isSg c = true) : c < 128 := by have := dqH h; lia
theorem iqL {x : Ad} (h : x.Wf) : (plainM x).Wf := by
 refine Ad.Wf.gone ⟨⟨by rw [jqN]; exact h.sch.1, fun c hc => ?_, fun c hc => ?_⟩, fun l e => ?_, fun i e => ?_, h.stp, fun z => h.roo (z.imp (fun y e => y (by rw [e]; rfl)) (fun y e => y (by rw [e]; rfl))), h.end_, h.que, h.mar⟩
 ·obtain ⟨d, hd, rfl⟩ := List.mem_map.mp hc
  have := h.sch.2.1 d hd
  exact rqO d (gqb (nqh this)) this
 ·unfold lowT at hc
  rw [← List.map_take] at hc
  obtain ⟨d, hd, rfl⟩ := List.mem_map.mp hc
  have h1 := h.sch.2.2 d hd
  exact sqV d (gqb (nqh (h.sch.2.1 d (List.mem_of_mem_take hd)))) h1
 ·obtain ⟨m, hm, rfl⟩ := Option.map_eq_some_iff.mp e
  obtain ⟨h1, h2⟩ := h.hou m hm
  refine ⟨by rw [jqN]; exact h1, fun c hc => ?_⟩
  obtain ⟨d, hd, rfl⟩ := List.mem_map.mp hc
  exact uqE d (gqb (h2 d hd)) (h2 d hd)
 ·obtain ⟨h1, h2⟩ := h.doo i e
  refine ⟨h1, fun z => h2 ?_⟩
  cases hh : x.house with
  | none => rfl
  | some l => rw [hh] at z; cases z
theorem gqB (x : Ad) : (plainM x).steps.length ≤ x.steps.length := Ad.gone_len _
end Wm
namespace Wm
end Wm
namespace L2
open PySem
theorem uqP {l : Addr} {H : Hp} {Q : VK} {i : Int} : rPopAt (.ref l) [.int i] H Q ↔ ∃ xs k y, H l = some (.lst xs) ∧ -(2 ^ 63) ≤ i ∧ i < 2 ^ 63 ∧ seqIndex? i xs.length = some k ∧ xs[k]? = some y ∧ Q y (upd H l (.lst (xs.eraseIdx k))) :=
 ⟨fun ⟨_, xs, _, k, y, h1, h2, h⟩ => by cases h1; cases h2; exact ⟨xs, k, y, h⟩, fun ⟨xs, k, y, h⟩ => ⟨_, xs, _, k, y, rfl, rfl, h⟩⟩
end L2
namespace L2
open PySem PySem.Spec PySem.W PyProof.Rows
abbrev vErr : List Value := [.type "ValueError", .type "Exception", .type "BaseException", .type "object"]
abbrev vNew : String := "ValueError.__new__"
def clsIs (d : Data) (f : ClassData → Bool) : Bool := match d with
 | .cls c => f c
 | _ => false
theorem qq6 {d : Data} {f : ClassData → Bool} (q : clsIs d f = true) : ∃ c, d = .cls c ∧ f c = true := by
 cases d with
 | cls c => exact ⟨c, rfl, q⟩
 | _ => cases q
def excInJ (K : Frag) (C : Addr) (bmB : List Value) (newId : String) (v : Option Value) : Bool := match K.lookup C with
 | some o => o.cls == .type "type" && clsIs o.data fun cd => cd.mro == .ref C :: cd.mro.tail && (o.slots == #[o.slots.getD 0 none, o.slots.getD 1 none, o.slots.getD 2 none, o.slots.getD 3 none, some (.builtin newId), o.slots.getD 5 none] && (!cd.hasDel && (tailIn K bmB cd.mro.tail && (nsOkIn K cd.ns && nsIn K cd.ns "__init__" == some v))))
 | _ => false
theorem jql {a b : Bool} (h : (a && b) = true) : a = true ∧ b = true := by cases a; cases h; exact ⟨rfl, h⟩
abbrev clsO (cd : ClassData) (C : Addr) (tl : List Value) (dd : Option Addr) (a : Nat → Option Value) (nid : String) : Obj := excClassObj cd.name cd.qualname C cd.ns cd.bases tl cd.hasDict cd.slotNames cd.subclasses cd.abstract cd.collection dd (a 0) (a 1) (a 2) (a 3) (a 5) nid
theorem sqC {o : Obj} {cd : ClassData} {C : Addr} {tl : List Value} {a : Nat → Option Value} {nid : String} (h0 : o.cls = .type "type") (h1 : o.data = .cls cd) (h2 : cd.mro = .ref C :: tl) (h3 : o.slots = #[a 0, a 1, a 2, a 3, some (.builtin nid), a 5]) (h4 : cd.hasDel = false) :
  o = clsO cd C tl o.dict a nid := by
 cases o
 cases cd
 cases h0; cases h1; cases h2; cases h3; cases h4
 rfl
theorem excObjJ {K : Frag} {h : Heap} {C : Addr} {bb : List Value} {nid : String} {v : Option Value} (kin : K.In h) (q : excInJ K C bb nid v = true) :
  ∃ cd tl dd a, h.get? C = some (clsO cd C tl dd a nid) ∧ (nsOkIn K cd.ns = true ∧ nsIn K cd.ns "__init__" = some v) ∧ OwnTail h bb tl := by
 unfold excInJ at q
 generalize lk : K.lookup C = r at q
 cases r with
 | none => cases q
 | some o =>
  have q := jql q
  obtain ⟨cd, e, q1⟩ := qq6 q.2
  have q1 := jql q1
  have q3 := jql q1.2
  have q4 := jql q3.2
  have q5 := jql q4.2
  have q6 := jql q5.2
  exact ⟨cd, _, _, _, (kin _ _ lk).trans (congrArg some (sqC (a := (o.slots.getD · none)) (beq_iff_eq.mp q.1) e (beq_iff_eq.mp q1.1) (beq_iff_eq.mp q3.1) ((Bool.not_eq_true' _).mp q4.1))), ⟨q6.1, beq_iff_eq.mp q6.2⟩, tail_of_in kin q5.1⟩
def Raises (X : Cx) (E : XK) : Prop := ∀ (pins : List (Addr × Obj)) (σ : St) (H : Hp) (s : Shared) (h' : Heap) (e C : Addr), Inv X pins σ H s → Heap.MadeExcOf s.heap h' e (.ref C) [] → E (.ref C) none H → X.xe (.ref e) { s with heap := h' }
def tRaise (E : XK) (C : Addr) : TS := fun _ _ H => E (.ref C) none H
theorem mq1 {E : XK} {C : Addr} {D : Ends} {σ : St} {H : Hp} : (tRaise E C D σ H) = (E (.ref C) none H) := rfl
theorem oqm {X : Cx} {x : Str} {C : Addr} {E : XK} {np cpos pos : Pos} (hx : Raises X E) (hg : Gl X x) (hm : X.mg x = some (.ref C)) (hc : excInJ X.K C vErr vNew none = true) (hcalm : X.calm = true) (hdb : (x == ("__debug__" : Str)) = false := by decide) :
  PS X (.Raise (some (.Call (.Name x np) [] [] cpos)) none pos) (tRaise E C) := by
 intro pins s σ H D I h
 obtain ⟨cd, tl, dd, a, hC, ⟨hno, hni⟩, T⟩ := excObjJ I.kIn hc
 have hN := Heap.Ns.of_isNs (isNs_of_in I.kIn hno)
 have hni := nsMap_none_of_in I.kIn hno hni
 refine wpAny_Raise_call_subU (C := C) (nm := cd.name) (q := cd.qualname) (N := cd.ns) (bs := cd.bases) (bm := tl) (hdct := cd.hasDict) (sn := cd.slotNames) (sub := cd.subclasses) (ab := cd.abstract) (col := cd.collection) (dd := dd) (k0 := a 0) (k1 := a 1) (k2 := a 2) (k3 := a 3) (k5 := a 5)
  F.excBase_ValueError (by decide) F.excBase_ValueError (mN := _) (T.hasType F.excBase_ValueError.hasBase) (I.ok.hd hcalm) rfl hni (eqC I hg hm ⟨rfl, ?_⟩ hdb)
 exact evalArgs_empty ⟨rfl, Nat.zero_le _, hC, hN, T, fun h' e hm' => hx pins σ H s h' e C I hm' h⟩
theorem ObjOk.ex {P : Program} {w : World} {H : Hp} {h : Heap} {a : Addr} {o : HO} (x : ObjOk P w H h a o) : ∃ u, h.get? a = some u := by
 cases o with
 | lst xs => obtain ⟨_, _, _, _, e⟩ := x; exact ⟨_, e⟩
 | tup xs => obtain ⟨_, _, _, _, e, _⟩ := x; exact ⟨_, e⟩
 | dK kvs => obtain ⟨_, _, _, _, _, _, _, e, _⟩ := x; exact ⟨_, e⟩
 | dT kvs => obtain ⟨_, _, _, _, _, _, _, e, _⟩ := x; exact ⟨_, e⟩
 | set S n => obtain ⟨_, _, _, _, e, _⟩ := x; exact ⟨_, e⟩
 | ins C dx fs => obtain ⟨_, _, _, e, _⟩ := x; exact ⟨_, e⟩
 | own y => exact x
 | xd fs => obtain ⟨_, ⟨_, _, _, e, _⟩, _⟩ := x; exact ⟨_, e⟩
 | rng lo hi => obtain ⟨_, _, _, e⟩ := x; exact ⟨_, e⟩
 | frz ob u => exact ⟨_, x.1⟩
 | tbl ps => exact ⟨_, x⟩
 | met f y => exact ⟨_, x⟩
 | ext φ => exact x.2.1
structure Flown (P : Program) (w : World) (base : Heap) (outer : List Env) (H : Hp) (s : Shared) (a t C : Addr) (B : Heap) (H' : Hp) (s' : Shared) : Prop where
 os : s'.os = s.os
 bare : AllBare s'.gens
 st : base.StaysIn B
 fly : Heap.FlyingW B outer a (.ref C) (.ref t) s'.heap
 hok : HOk P w H' B
 un : Un (frs outer) [] H H' s.heap s'.heap
 kb : ∀ b o, s.heap.get? b = some o → H b = none → b ∉ frs outer → B.get? b = some o
 thB : ∀ b o, s.heap.get? b = some o → b ∉ frs outer → ∃ o', B.get? b = some o'
def CXE (P : Program) (w : World) (base : Heap) : CXT := fun outer H s E e s' => ∃ (a t C : Addr) (B : Heap) (H' : Hp), e = .ref a ∧ E (.ref C) none H' ∧ Flown P w base outer H s a t C B H' s'
theorem dq4 {env : Env} {L : Addr} {outer : List Env} (hf : env.frame = some L) {b : Addr} : b ∈ frs (env :: outer) ↔ b = L ∨ b ∈ frs outer := by
 unfold frs
 rw [List.filterMap_cons, hf]
 exact List.mem_cons
section
variable {P : Program} {w : World} {K : Frag} {mg : Str → Option Value} {base : Heap} {N : List Str} {qual : Str} {scope : Scope} {f : Addr} {cd : Value} {A : Around} {outer : List Env} {s : Shared} {H : Hp} {E : XK}
theorem pqz : Raises (cxOf (CXE P w base) P w K mg base N qual scope f cd A outer s H E) E := by
 intro pins σ H1 s1 h' e C I hm hE
 have hf : (envOfC qual scope s.heap.objs.size f cd).frame = some s.heap.objs.size := rfl
 have stk : s1.heap.FunFrames base (envOfC qual scope s.heap.objs.size f cd :: outer) := I.stack
 have stf : ∀ b ∈ frs (envOfC qual scope s.heap.objs.size f cd :: outer), H1 b = none := I.stkFree
 have ib : Un (frs outer) [] H H1 s.heap s1.heap := I.base
 have ne : ∀ b o, s.heap.get? b = some o → b ∉ frs outer → b ∉ frs (envOfC qual scope s.heap.objs.size f cd :: outer) := fun b o q n z => by
  rcases (dq4 hf).mp z with z | z
  ·exact absurd (Heap.lt_size q) (by rw [z]; exact Nat.lt_irrefl _)
  ·exact n z
 show wpAny (model P w) (A.deeper (envOfC qual scope s.heap.objs.size f cd)) (leaving (envOfC qual scope s.heap.objs.size f cd) (.ref e)) _ _ _
 refine wpAny_leaves_madeW (base := hideAll s1.heap (frs (envOfC qual scope s.heap.objs.size f cd :: outer))) (h := s1.heap) I.ok.frames hf (fun b o q => of_hideAll _ q)
  (funFrames_hide stk fun env he b hb => List.mem_filterMap.mpr ⟨env, he, hb⟩) hm fun h2 t x1 x2 x3 x4 => ?_
 have keepB : ∀ b o, s.heap.get? b = some o → H b = none → b ∉ frs outer → (hideAll s1.heap (frs (envOfC qual scope s.heap.objs.size f cd :: outer))).get? b = some o := fun b o q n nf =>
  hideAll_get _ (ib.keep b o q n nf (by simp)) (ne b o q nf)
 have thB : ∀ b o, s.heap.get? b = some o → b ∉ frs outer → ∃ o', (hideAll s1.heap (frs (envOfC qual scope s.heap.objs.size f cd :: outer))).get? b = some o' := fun b o q nf => by
  obtain ⟨o', z⟩ := ib.there b o q (by simp)
  exact ⟨o', hideAll_get _ z (ne b o q nf)⟩
 have slotF : ∀ b, b ∈ frs outer → ∀ o, s1.heap.get? b = some o → ∃ sl, h2.get? b = some { o with slots := sl } := fun b hb o q => by
  obtain ⟨_, o2, q2, nd⟩ := stk.mem ((dq4 hf).mpr (.inr hb))
  rw [q] at q2
  cases q2
  exact x4 b o (hm.keeps b o q) nd
 refine ⟨e, t, C, _, H1, rfl, hE, ⟨I.os, I.bare, fun b o q => ?_, x1, fun a u q => ?_, ⟨fun b o q n nf _ => x1.1 b o (keepB b o q n nf), fun b o q n hb _ => ?_, ib.free, fun b o q _ => ?_, ib.tups, ib.frzs, ib.tbls⟩, keepB, thB⟩⟩
 ·exact hideAll_get _ (I.bk b o q) fun z => by rw [(stk.mem z).1] at q; cases q
 ·refine (I.hok a u q).stay (fun b v hb z => hideAll_get _ z fun m => ?_) (fun _ z => z) fun _ _ z => z
  have := stf b m
  rcases hb with rfl | hb
  ·rw [q] at this; cases this
  ·rw [hb] at this; cases this
 ·obtain ⟨sl, z⟩ := ib.slot b o q n hb (by simp)
  obtain ⟨sl', z'⟩ := slotF b hb _ z
  exact ⟨sl', z'⟩
 ·by_cases hb : b ∈ frs outer
  ·obtain ⟨o', z⟩ := ib.there b o q (by simp)
   obtain ⟨sl', z'⟩ := slotF b hb _ z
   exact ⟨_, z'⟩
  ·obtain ⟨o', z⟩ := thB b o q hb
   exact ⟨o', x1.1 b o' z⟩
theorem pql : Passes (CXE P w base) (cxOf (CXE P w base) P w K mg base N qual scope f cd A outer s H E) E := by
 intro pins σ H1 s1 e s2 I hq
 obtain ⟨a, t, C, B, H2, rfl, hE, W⟩ := hq
 have hf : (envOfC qual scope s.heap.objs.size f cd).frame = some s.heap.objs.size := rfl
 have ib : Un (frs outer) [] H H1 s.heap s1.heap := I.base
 have W : Flown P w base (envOfC qual scope s.heap.objs.size f cd :: outer) H1 s1 a t C B H2 s2 := W
 have ne : ∀ b o, s.heap.get? b = some o → b ∉ frs outer → b ∉ frs (envOfC qual scope s.heap.objs.size f cd :: outer) := fun b o q n z => by
  rcases (dq4 hf).mp z with z | z
  ·exact absurd (Heap.lt_size q) (by rw [z]; exact Nat.lt_irrefl _)
  ·exact n z
 show wpAny (model P w) (A.deeper (envOfC qual scope s.heap.objs.size f cd)) (leaving (envOfC qual scope s.heap.objs.size f cd) (.ref a)) _ _ _
 refine wpAny_leaves_onW I.ok.frames hf W.fly fun h3 x1 x2 => ?_
 have keepB : ∀ b o, s.heap.get? b = some o → H b = none → b ∉ frs outer → B.get? b = some o := fun b o q n nf =>
  W.kb b o (ib.keep b o q n nf (by simp)) (ib.free b o q n (by simp)) (ne b o q nf)
 have thB : ∀ b o, s.heap.get? b = some o → b ∉ frs outer → ∃ o', B.get? b = some o' := fun b o q nf => by
  obtain ⟨o', z⟩ := ib.there b o q (by simp)
  exact W.thB b o' z (ne b o q nf)
 have slotF : ∀ b, b ∈ frs outer → ∀ o, s2.heap.get? b = some o → ∃ sl, h3.get? b = some { o with slots := sl } := fun b hb o q => by
  obtain ⟨_, o2, q2, nd⟩ := W.fly.2.2.1.mem ((dq4 hf).mpr (.inr hb))
  rw [q] at q2
  cases q2
  exact x2 b o q nd
 refine ⟨a, t, C, B, H2, rfl, hE, ⟨W.os.trans I.os, W.bare, W.st, x1, W.hok, ⟨fun b o q n nf _ => x1.1 b o (keepB b o q n nf), fun b o q n hb _ => ?_, fun b o q n _ => ?_, fun b o q _ => ?_, fun b xs q => W.un.tups b xs (ib.tups b xs q), fun b o u q => W.un.frzs b o u (ib.frzs b o u q), fun b ps q => ?_⟩, keepB, thB⟩⟩
 ·obtain ⟨sl, z⟩ := ib.slot b o q n hb (by simp)
  obtain ⟨sl1, z1⟩ := W.un.slot b _ z (ib.free b o q n (by simp)) ((dq4 hf).mpr (.inr hb)) (by simp)
  obtain ⟨sl', z'⟩ := slotF b hb _ z1
  exact ⟨sl', z'⟩
 ·obtain ⟨o', z⟩ := ib.there b o q (by simp)
  exact W.un.free b o' z (ib.free b o q n (by simp)) (by simp)
 ·by_cases hb : b ∈ frs outer
  ·obtain ⟨o', z⟩ := ib.there b o q (by simp)
   obtain ⟨o'', z1⟩ := W.un.there b o' z (by simp)
   obtain ⟨sl', z'⟩ := slotF b hb _ z1
   exact ⟨_, z'⟩
  ·obtain ⟨o', z⟩ := thB b o q hb
   exact ⟨o', x1.1 b o' z⟩
 ·obtain ⟨m1, z⟩ := ib.tbls b ps q
  obtain ⟨m2, z2⟩ := W.un.tbls b _ z
  exact ⟨m1 ++ m2, by rw [z2, Array.append_assoc]⟩
end
def exO (a C : Addr) : HO := .ext fun h => ∃ o, h.get? a = some o ∧ o.cls = .ref C
abbrev Cx.handling (X : Cx) (e : Value) : Cx := { X with A := X.A.mark (some e), calm := false, xe := fun _ _ => False }
section
variable {X : Cx} {pins : List (Addr × Obj)} {σ : St} {H H1 H2 : Hp} {s s1 s2 : Shared}
theorem Inv.handling (e : Value) (I : Inv X pins σ H s) : Inv (X.handling e) pins σ H s :=
 ⟨⟨I.ok.mod, I.ok.kind, I.ok.glob, I.ok.blt, I.ok.above, I.ok.inj, I.ok.has, I.ok.cab, (fun z => by cases z), I.ok.frames, I.ok.stk, I.ok.exf, I.ok.bs, I.ok.bsz, I.ok.noex, I.ok.exfs, I.ok.funs, I.ok.frf⟩, I.os, I.bare, I.base, I.loc, I.cell, I.free, I.freeC, I.pin, I.hok, I.len⟩
theorem Inv.handled {e : Value} (J : X.Ok) (I : Inv (X.handling e) pins σ H s) : Inv X pins σ H s := ⟨J, I.os, I.bare, I.base, I.loc, I.cell, I.free, I.freeC, I.pin, I.hok, I.len⟩
theorem Flown.new {P : Program} {w : World} {base B h5 : Heap} {outer : List Env} {a t C : Addr} {a0 : Value} (W : Flown P w base outer H1 s1 a t C B H2 s2) : H2 a = none := by
 cases q : H2 a with
 | none => rfl
 | some u =>
  obtain ⟨o, z⟩ := (W.hok a u q).ex
  rw [W.fly.2.1] at z
  cases z
theorem Inv.caught {a t C : Addr} {B h5 : Heap} {a0 : Value} (I : Inv X pins σ H1 s1) (W : Flown X.prog X.w X.base X.stack H1 s1 a t C B H2 s2) (f5 : Heap.FlyingW B X.stack a (.ref C) a0 h5) (sm : s2.heap.UpToSlots h5) :
  Inv X pins σ (upd H2 a (exO a C)) { s2 with heap := h5 } := by
 have hn : H2 a = none := W.new (h5 := h5) (a0 := a0)
 obtain ⟨oe, vs, T, oT, ts, he, _, hd, _⟩ := W.fly.2.2.2
 have fr : ∀ b ∈ frs X.stack, ∀ o, s2.heap.get? b = some o → b ≠ a ∧ ∃ sl, h5.get? b = some { o with slots := sl } := fun b hb o q => by
  obtain ⟨_, o2, q2, nd⟩ := W.fly.2.2.1.mem hb
  rw [q] at q2
  cases q2
  refine ⟨fun z => ?_, sm b o q nd⟩
  rw [z, he] at q
  cases q
  exact nd _ hd
 have na : ∀ b o, s1.heap.get? b = some o → b ≠ a := fun b o q => by
  by_cases hb : b ∈ frs X.stack
  ·obtain ⟨o', z⟩ := W.un.there b o q (by simp)
   exact (fr b hb o' z).1
  ·obtain ⟨o', z⟩ := W.thB b o q hb
   rintro rfl
   rw [W.fly.2.1] at z
   cases z
 refine I.call' (H' := upd H2 a (exO a C)) (s' := { s2 with heap := h5 }) (ch := []) W.os ⟨fun b o q n nf _ => f5.1 b o (W.kb b o q n nf), fun b o q n hb _ => ?_, fun b o q n _ => ?_, fun b o q _ => ?_, fun b xs q => ?_, fun b o u q => ?_, fun b ps q => ?_⟩ (fun b u q => ?_) W.bare (fun b z => by cases z)
 ·obtain ⟨sl, z⟩ := W.un.slot b o q n hb (by simp)
  obtain ⟨_, sl', z'⟩ := fr b hb _ z
  exact ⟨sl', z'⟩
 ·rw [aqt (na b o q)]
  exact W.un.free b o q n (by simp)
 ·by_cases hb : b ∈ frs X.stack
  ·obtain ⟨o', z⟩ := W.un.there b o q (by simp)
   obtain ⟨_, sl', z'⟩ := fr b hb _ z
   exact ⟨_, z'⟩
  ·obtain ⟨o', z⟩ := W.thB b o q hb
   exact ⟨o', f5.1 b o' z⟩
 ·have z := W.un.tups b xs q
  rw [aqt (aqq z hn)]
  exact z
 ·have z := W.un.frzs b o u q
  rw [aqt (aqq z hn)]
  exact z
 ·obtain ⟨m, z⟩ := W.un.tbls b ps q
  exact ⟨m, by rw [aqt (aqq z hn)]; exact z⟩
 ·by_cases hb : b = a
  ·subst hb
   rw [aqh] at q
   cases q
   obtain ⟨ob, hob, hoc⟩ := f5.there
   exact ⟨⟨ob, hob, hoc⟩, ⟨ob, hob⟩, fun h1 h2 ⟨o, z, c⟩ k => ⟨o, k o z, c⟩⟩
  ·rw [aqt hb] at q
   refine (W.hok b u q).stay (fun c v _ z => f5.1 c v z) (fun c z => ?_) fun c xs z => ?_
   ·rw [aqt (aqq z hn)]; exact z
   ·rw [aqt (aqq z hn)]; exact z
theorem Inv.goes {M : Model} {A : Around} {E : Value → Shared → Prop} {i : Nat} {n : Str} {pos : Pos} {Q : Unit → Shared → Prop} (I : Inv X pins σ H s) (nd : X.N.Nodup) (hi : X.N[i]? = some n) (hl : X.env.scope.names.lookup n = some .local)
  (h : ∀ s', Inv X pins (σ.set i none) H s' → Q () s') : wpAny M A (do bindName X.env n .none; unbindBehindTheSuite X.env n pos) Q E s := by
 obtain ⟨m, hn, hlk⟩ := id I.loc
 have hcls : (X.env.scope.kind == .class || (X.env.scope.kind == .module && X.env.locals != X.env.globals)) = false := by rw [I.ok.kind]; rfl
 have hiσ : i < σ.length := by rw [I.len]; exact (List.getElem?_eq_some_iff.mp hi).1
 refine wpAny_nameGoes_keeps hl hn hcls fun h' v hn' hs => h _ ?_
 have neL : ∀ b o, X.s₀.heap.get? b = some o → b ≠ X.env.locals := fun b o e => Nat.ne_of_lt (Nat.lt_of_lt_of_le (Heap.lt_size e) I.ok.above)
 refine ⟨I.ok, I.os, I.bare, ⟨fun b o e z hb hx => (hs.2 b (neL b o e)).trans (I.base.keep b o e z hb hx), fun b o e z hb hx => ?_, I.base.free, fun b o e hx => ?_, I.base.tups, I.base.frzs, I.base.tbls⟩, ⟨_, hn', fun j y v' e1 e2 e3 => ?_⟩, fun y c e => ?_, I.free, I.freeC, fun p hp => ?_, fun b ob e => ?_, by simpa using I.len⟩
 ·obtain ⟨sl, e1⟩ := I.base.slot b o e z hb hx
  exact ⟨sl, (hs.2 b (neL b o e)).trans e1⟩
 ·obtain ⟨o', e1⟩ := I.base.there b o e hx
  exact ⟨o', (hs.2 b (neL b o e)).trans e1⟩
 ·by_cases hj : j = i
  ·subst hj
   rw [List.getElem?_set_self hiσ] at e2
   cases e2
  ·rw [List.getElem?_set_ne (Ne.symm hj)] at e2
   obtain ⟨u', r', q⟩ := hlk j y v' e1 e2 e3
   refine ⟨u', r', ?_⟩
   rcases q with ⟨k, e⟩ | ⟨k, c, e, z⟩
   ·refine .inl ⟨k, ?_⟩
    have : y ≠ n := fun e => hj (kqc nd e1 (e ▸ hi))
    simp [this, e]
   ·exact .inr ⟨k, c, e, z.sameBut hs (I.cne y c e)⟩
 ·obtain ⟨w', z⟩ := I.cell y c e
  exact ⟨w', z.sameBut hs (I.cne y c e)⟩
 ·obtain ⟨e, n1, ne, nf, d⟩ := I.pin p hp
  exact ⟨(hs.2 p.1 ne).trans e, n1, ne, nf, d⟩
 ·refine (I.hok b ob e).stay (fun c w' hc q => (hs.2 c ?_).trans q) (fun _ q => q) fun _ _ q => q
  rintro rfl
  rcases hc with rfl | hc
  ·rw [I.free] at e; cases e
  ·rw [I.free] at hc; cases hc
end
structure Catch (K : Frag) (W : Addr) : Prop where
 ty : typeIn K (.ref W) = some (.type "type")
 ex : subIn K (.ref W) (.type "BaseException") = some true
 cl : (clsIn K W).isSome = true
theorem mqf {K : Frag} {M : Model} {h : Heap} {a W C : Addr} {o : Obj} (kin : K.In h) (ha : h.get? a = some o) (hc : o.cls = .ref C) (cw : Catch K W) (hs : subIn K (.ref C) (.ref W) = some true) : Looks M h (excMatches (.ref a) (.ref W)) true := by
 have L1 := looks_typeIn (M := M) kin cw.ty
 have L2 := looks_subIn (M := M) kin cw.ex
 have L3 := looks_subIn (M := M) kin hs
 have L4 : Looks M h (typeOf (.ref a)) (.ref C) := hc ▸ (Looks.ld ha).andThen .now
 have L5 : Looks M h (isInstance (.ref W) (.type "tuple")) false := L1.andThen (Looks.of_pure tc_notTuple)
 have L6 : Looks M h (isType (.ref W)) true := by
  have z := cw.cl
  unfold clsIn at z
  split at z
  ·next lk =>
   intro A' Q' E' s' k q
   unfold isType loadHead
   exact wpAny_bind (wpAny_loadPart (k _ _ (kin _ _ lk)) (wpAny_pure q))
  ·cases z
 intro A Q E s k q
 unfold excMatches isExcClass
 refine wpAny_bind (L5 A _ E s k ?_)
 simp only [Bool.false_eq_true, if_false]
 refine wpAny_bind (wpAny_pure ?_)
 refine wpAny_bind ?_
 rw [List.forIn_cons]
 refine wpAny_bind (wpAny_bind (wpAny_bind (L6 A _ E s k ?_)))
 simp only [if_true]
 refine L2 A _ E s k ?_
 simp only [Bool.not_true, Bool.false_eq_true, if_false]
 refine wpAny_pure ?_
 dsimp only
 rw [List.forIn_nil]
 refine wpAny_pure ?_
 refine wpAny_bind (L4 A _ E s k ?_)
 refine wpAny_bind ?_
 rw [List.forIn_cons]
 refine wpAny_bind (wpAny_bind (L3 A _ E s k ?_))
 simp only [if_true]
 refine wpAny_pure ?_
 dsimp only
 exact wpAny_pure (wpAny_pure q)
def tTry (K : Frag) (sp : Sp) (t : TA) (W : Addr) (i : Nat) (tb : TS) : TS := fun D σ H => t σ H fun vs H1 => sp vs H1 (fun _ H2 => D.nx σ H2) fun cls _ H2 =>
 ∃ C, cls = .ref C ∧ subIn K (.ref C) (.ref W) = some true ∧ ∀ a, H2 a = none → tb { nx := fun σ' H' => D.nx (σ'.set i none) H', rt := D.rt } (σ.set i (some (.ref a))) (upd H2 a (exO a C))
end L2
namespace L2
open PySem PySem.Spec PySem.W PySem.Calls PyProof.Rows PySem.Builtin PySem.Builtin.ObjectAttr PySem.Builtin.Getset_descriptor
structure ExLook (K : Frag) (C : Addr) : Prop where
 ga : findIn K (.ref C) "__getattribute__" = some (some (.builtin "BaseException.__getattribute__"))
 cl : findIn K (.ref C) "__class__" = some (some (.builtin "object.__class__"))
 na : findIn K (.ref C) "__getattr__" = some none
 mo : mroIn K C (.type "object") = some true
 mb : mroIn K C (.type "BaseException") = some true
 is : (clsIn K C).isSome = true
section
variable {prog : Program} {w : World} {A : Around} {E : Value → Shared → Prop} {hh : Heap} {g : Array GenState} {dr : Drawn} {t : Nat} {os : OsState} {K : Frag} {a C : Addr} {o : Obj}
theorem fqk {M : Model} (hx : hh.get? a = some o) (hc : o.cls = .ref C) : Looks M hh (typeOf (.ref a)) (.ref C) := hc ▸ (Looks.ld hx).andThen .now
theorem kql {tp : Value} {R : Result → Shared → Prop} (kin : K.In hh) (hx : hh.get? a = some o) (hc : o.cls = .ref C) (hm : mroIn K C (.type "object") = some true)
  (h : R (.ok (.ret (.ref C))) ⟨hh, g, dr, t, os⟩) : codeAny (model prog w) A (.call (.builtin "getset_descriptor.__get__") ⟨[.builtin "object.__class__", .ref a, tp], []⟩) R ⟨hh, g, dr, t, os⟩ := by
 have lt := fqk (M := model prog w) hx hc; have ls := looks_mroIn (M := model prog w) kin hm
 refine codeAny_call_builtin KF.slot_gs.plain KF.entry_gs (KF.slot_gs.check _ _ _ _ _ _ _ _ KF.type_class (KF.args_gs _ _ _) ?_); unfold Builtin.«getset_descriptor.__get__» descrGet; rw [dga_obj]
 refine wpAny_bind (wpAny_pure ?_); unfold descrGetter descrCheckInstance descrNameAndClass isInstance; simp only [KF.owner_class]
 repeat lk
 refine ⟨Code.quiet_builtin _ (by decide +kernel), codeAny_builtin KF.entry_class ?_⟩; unfold Builtin.«object.__class__» shownTypeOf
 repeat lk
 exact h
theorem iql {tk : Tok} {Q : Fin → Shared → Prop} (kin : K.In hh) (hx : hh.get? a = some o) (hc : o.cls = .ref C) (L : ExLook K C) (hq : Q (.done (.ret (.ref C))) ⟨hh, g, dr, t, os⟩) :
  wpAny (model prog w) A (Builtin.«object.__getattribute__» ⟨[.ref a, .str "__class__" tk], []⟩) Q E ⟨hh, g, dr, t, os⟩ := by
 have lt := fqk (M := model prog w) hx hc; have lc := looks_findIn (M := model prog w) kin L.cl
 have hT5 : (⟨hh, g, dr, t, os⟩ : Shared).TypeIs (.builtin "object.__class__") "getset_descriptor" := F.typeOf_object_class
 have f5 := F.typeOf_object_class; have f6 := F.slot_gs_get.lookup; have f7 := F.slot_gs_set.lookup
 repeat (any_goals (first | assumption | with_reducible refine Looks.at lt ?_ | with_reducible refine Looks.at lc ?_ | wp_step))
 refine kql kin hx hc L.mo ?_
 repeat (any_goals (first | assumption | wp_step))
theorem gqV {M : Model} {nv : Value} {Q : Unit → Shared → Prop} (kin : K.In hh) (hx : hh.get? a = some o) (hc : o.cls = .ref C) (L : ExLook K C) (hq : Q () ⟨hh, g, dr, t, os⟩) :
  wpAny M A (checkBuiltinCall "BaseException.__getattribute__" ⟨[.ref a, nv], []⟩) Q E ⟨hh, g, dr, t, os⟩ := by
 have lt := fqk (M := M) hx hc; have lb := looks_mroIn (M := M) kin L.mb
 have z1 : builtinKind "BaseException.__getattribute__" = some .slot := by decide +kernel
 have z2 : splitId "BaseException.__getattribute__" = some ("BaseException", "__getattribute__") := by decide +kernel
 have z3 := F.args_bexc_ga (.ref a) nv
 simp only [checkBuiltinCall, z1, z2]; refine wpAny_bind ?_; unfold isInstance
 repeat (first | with_reducible refine Looks.at lt ?_ | with_reducible refine Looks.at lb ?_ | wp_step)
 exact hq
theorem kqL {tk : Tok} {Q : Value → Shared → Prop} (kin : K.In hh) (hx : hh.get? a = some o) (hc : o.cls = .ref C) (L : ExLook K C) (gb : Slot "ValueError" "__getattribute__" "BaseException.__getattribute__") (hq : Q (.ref C) ⟨hh, g, dr, t, os⟩) :
  wpAny (model prog w) A (getAttrBy (.ref a) (.str "__class__" tk) false) Q E ⟨hh, g, dr, t, os⟩ := by
 have lt := fqk (M := model prog w) hx hc; have lg := looks_findIn (M := model prog w) kin L.ga; have ln := looks_findIn (M := model prog w) kin L.na
 have f3 := gb.bind (.ref a)
 have y2 : (Value.builtin "BaseException.__getattribute__" == Value.builtin "object.__getattribute__") = false := by decide +kernel
 have y1 : (onTheHeap (Value.ref C) && Value.builtin "BaseException.__getattribute__" == Value.builtin "object.__getattribute__") = false := by rw [y2]; rfl
 repeat (any_goals (first | assumption | with_reducible refine Looks.at lt ?_ | with_reducible refine Looks.at lg ?_ | with_reducible refine Looks.at ln ?_ | wp_step))
 refine codeAny_call_builtin gb.plain F.entry_bexc_ga (gqV kin hx hc L (iql kin hx hc L ?_))
 repeat (any_goals (first | assumption | wp_step))
theorem iqV {s : Shared} {Q : Option Value → Shared → Prop} (kin : K.In s.heap) (hx : s.heap.get? a = some o) (hc : o.cls = .ref C) (L : ExLook K C) (gb : Slot "ValueError" "__getattribute__" "BaseException.__getattribute__") (hq : Q (some (.ref C)) { s with toks := s.toks + 1 }) :
  wpAny (model prog w) A (getAttr? (.ref a) "__class__") Q E s := by
 obtain ⟨hh, g, dr, t, os⟩ := s
 unfold getAttr? getAttrBy?
 repeat (any_goals (first | assumption | with_reducible apply kqL kin hx hc L gb | wp_step))
theorem qqU (L : ExLook K C) (gb : Slot "ValueError" "__getattribute__" "BaseException.__getattribute__") : KitX K (.ref a) (.ref C) (fun h => ∃ o, h.get? a = some o ∧ o.cls = .ref C) where
 ty := fun _ _ _ ⟨o, hx, hc⟩ => fqk hx hc
 it := fun _ _ X _ => by
  have z := L.is
  unfold clsIn at z
  split at z
  ·next lk =>
   intro A' Q' E' s' k q
   unfold isType loadHead
   exact wpAny_bind (wpAny_loadPart (k _ _ (X _ _ lk)) (wpAny_pure q))
  ·cases z
 ne := fun h tp dd its n sl X htp => by
  have z := L.is
  refine Bool.eq_false_iff.mpr fun q => ?_
  obtain rfl : C = tp := Value.ref.inj (beq_iff_eq.mp q)
  unfold clsIn at z
  split at z
  ·next lk =>
   have y := (X _ _ lk).symm.trans htp
   cases y
  ·cases z
 ca := fun X ⟨o, hx, hc⟩ k => iqV X hx hc L gb k
end
inductive KitAns (K : Frag) (H : Hp) (C : Addr) : V → Bool → Prop
 | cls {W : Addr} {b : Bool} : kitOne K (.ref C) (.ref W) = some b → KitAns K H C (.ref W) b
 | ty {T : String} {b : Bool} : kitOne K (.ref C) (.type T) = some b → KitAns K H C (.ty T) b
 | tup {p : Addr} {cs : List Addr} {b : Bool} : H p = some (.tup (cs.map V.ref)) → kitAny K (.ref C) (cs.map Value.ref) = some b → KitAns K H C (.ref p) b
theorem kqP : ∀ {cs : List Addr} {us : List Value}, Vals (cs.map V.ref) us → us = cs.map Value.ref
 | [], _, .nil => rfl
 | _ :: _, _, .cons r rs => by cases r; rw [kqP rs]; rfl
def rIsE (K : Frag) : List V → Hp → VK → Prop := fun vs H Q => ∃ a c C b, vs = [.ref a, c] ∧ H a = some (exO a C) ∧ ExLook K C ∧ KitAns K H C c b ∧ Q (.bl b) H
end L2
namespace L2
open PySem PySem.W
theorem jq6 : bootBuiltins "ValueError" = some (.type "ValueError") := by decide +kernel
theorem tqM {K : Frag} {a : Addr} {c : V} {H : Hp} {Q : VK} : rIsE K [.ref a, c] H Q ↔ ∃ C b, H a = some (exO a C) ∧ ExLook K C ∧ KitAns K H C c b ∧ Q (.bl b) H :=
 ⟨fun ⟨_, _, C, b, e, h⟩ => by cases e; exact ⟨C, b, h⟩, fun ⟨C, b, h⟩ => ⟨a, c, C, b, rfl, h⟩⟩
theorem uqR {K : Frag} {sp : Sp} {t : TA} {W : Addr} {i : Nat} {tb : TS} {D : Ends} {σ : St} {H : Hp} : tTry K sp t W i tb D σ H ↔ t σ H fun vs H1 => sp vs H1 (fun _ H2 => D.nx σ H2) fun cls _ H2 =>
 ∃ C, cls = .ref C ∧ subIn K (.ref C) (.ref W) = some true ∧ ∀ a, H2 a = none → tb { nx := fun σ' H' => D.nx (σ'.set i none) H', rt := D.rt } (σ.set i (some (.ref a))) (upd H2 a (exO a C)) := Iff.rfl
end L2
namespace L2
open PySem PySem.Spec PyProof.Rows
theorem sw3 (x y : Str) (t u : Tok) (i : Nat) (v : Tok) :
  Meets (Builtin.«str.startswith» ⟨[.str x t, .str y u, .int (i : Int) v], []⟩) (fun _ R s => R (.ok (.ret (.bool (decide (i + y.length ≤ x.length) && Builtin.Str.subAt x y i)))) s) :=
 .of_wp fun prog w A R s h => by
  obtain ⟨hp, g, d, tk, os⟩ := s
  unfold Builtin.«str.startswith»
  wp_walk
  rw [F.slot_int_index.lookup]
  wp_walk
  refine ⟨_, rfl, ?_⟩
  have e1 : (max (0 : Int) (if (i : Int) < 0 then (i : Int) + (x.length : Int) else (i : Int))).toNat = i := by
   rw [if_neg (by lia)]; lia
  have e2 : min ((x.length : Nat) : Int).toNat x.length = x.length := by lia
  dsimp only
  rw [e1, e2]
  exact h
section
variable {X : Cx}
def rStarts : V → List V → Hp → VK → Prop := fun x vs H Q => ∃ z y, ∃ i : Nat, x = .str z ∧ vs = [.str y, .int (i : Int)] ∧ Q (.bl (decide (i + y.length ≤ z.length) && Builtin.Str.subAt z y i)) H
theorem nqv : MtR X "str.startswith" rStarts := by
 intro pins s σ H x vs v us Q I rx rv h
 obtain ⟨z, y, i, rfl, rfl, q⟩ := h
 obtain ⟨t, rfl⟩ := rx
 obtain ⟨u1, u2, rfl, r1, r2⟩ := vals2 rv
 obtain ⟨t1, rfl⟩ := r1
 obtain ⟨t2, rfl⟩ := r2
 exact call_meets F.slot_str_startswith (typeIs_str _ _ _) F.entry_str_startswith (F.args_str_startswith_3 _ _ _) (sw3 z y t t1 i t2) ⟨.bl _, H, I, rfl, q⟩
end
section
variable {X : Cx}
def rPart : V → List V → Hp → VK → Prop := fun x vs H Q => ∃ z y, x = .str z ∧ vs = [.str y] ∧ (y.length == 0) = false ∧ z.length ≤ sizeLine ∧
 ∀ p, H p = none → Q (.ref p) (upd H p (.tup [.str (Txt.partition z y).1, .str (Txt.partition z y).2.1, .str (Txt.partition z y).2.2]))
theorem gqR : MtR X "str.partition" rPart := by
 intro pins s σ H x vs v us Q I rx rv h
 obtain ⟨z, y, rfl, rfl, hy, hz, q⟩ := h
 obtain ⟨t, rfl⟩ := rx
 obtain ⟨u, rfl, t', rfl⟩ := vals1 rv
 have hf : H s.heap.objs.size = none := I.hok.fresh (Nat.le_refl _)
 have q := q _ hf
 refine call_meets F.slot_str_partition (typeIs_str _ _ _) F.entry_str_partition (F.args_str_partition_2 _ _) (meets_str_partition z y t t' hy hz) ?_
 unfold Txt.partition at q
 revert q
 cases Builtin.Str.occurrences z y 0 z.length 1 with
 | nil =>
  intro q
  refine ⟨.ref s.heap.objs.size, _, I.laid (t' := s.toks + 1) (o := .tup _) (fun b u e => Heap.get?_push_of_some _ e) (by lia) ?_, rfl, q⟩
  exact ⟨by show 3 ≤ sizeLine; decide, _, .cons ⟨_, rfl⟩ (.cons ⟨_, rfl⟩ (.cons ⟨_, rfl⟩ .nil)), IsTup.new _ _⟩
 | cons i r =>
  intro q
  refine ⟨.ref s.heap.objs.size, _, I.laid (t' := s.toks + 1 + 1) (o := .tup _) (fun b u e => Heap.get?_push_of_some _ e) (by lia) ?_, rfl, q⟩
  exact ⟨by show 3 ≤ sizeLine; decide, _, .cons ⟨_, rfl⟩ (.cons ⟨_, rfl⟩ (.cons ⟨_, rfl⟩ .nil)), IsTup.new _ _⟩
end
theorem oqc {us : List Value} {d : Value} (h : (us ++ [d]).length = 3) : ∃ x y, us = [x, y] := by
 match us, h with
 | [x, y], _ => exact ⟨x, y, rfl⟩
 | [], h => simp at h
 | [_], h => simp at h
 | _ :: _ :: _ :: _, h => simp at h
section
variable {X : Cx}
def rIntS : List V → Hp → VK → Prop := fun xs H Q => ∃ z n, xs = [.str z] ∧ z.length ≤ 640 ∧ PySem.intText? z = some n ∧ Q (.int n) H
theorem lqk : CallR X (.type "int") rIntS := by
 intro pins s σ H xs us Q I r h
 obtain ⟨z, n, rfl, hz, hn, q⟩ := h
 obtain ⟨u, rfl, t, rfl⟩ := vals1 r
 exact PySem.W.KIN.call_text hn hz ⟨.int n, H, I.tok _, ⟨_, rfl⟩, q⟩
theorem sqB {z : Str} {H : Hp} {Q : VK} : rIntS [.str z] H Q ↔ ∃ n, z.length ≤ 640 ∧ PySem.intText? z = some n ∧ Q (.int n) H :=
 ⟨fun ⟨_, n, e, h⟩ => by cases e; exact ⟨n, h⟩, fun ⟨n, h⟩ => ⟨z, n, rfl, h⟩⟩
theorem tq4 {z y : Str} {i : Nat} {H : Hp} {Q : VK} : rStarts (.str z) [.str y, .int (i : Int)] H Q ↔ Q (.bl (decide (i + y.length ≤ z.length) && Builtin.Str.subAt z y i)) H :=
 ⟨fun ⟨_, _, j, e1, e2, h⟩ => by
  cases e1
  injection e2 with e2 e3
  cases e2
  injection e3 with e3
  injection e3 with e3
  obtain rfl : i = j := by lia
  exact h, fun h => ⟨z, y, i, rfl, rfl, h⟩⟩
theorem rqG {z y : Str} {H : Hp} {Q : VK} : rPart (.str z) [.str y] H Q ↔ (y.length == 0) = false ∧ z.length ≤ sizeLine ∧ ∀ p, H p = none → Q (.ref p) (upd H p (.tup [.str (Txt.partition z y).1, .str (Txt.partition z y).2.1, .str (Txt.partition z y).2.2])) :=
 ⟨fun ⟨_, _, e1, e2, h⟩ => by cases e1; cases e2; exact h, fun h => ⟨z, y, rfl, rfl, h⟩⟩
theorem uqq {K : PySem.W.Frag} {ta : TE} {f : Str} {σ : St} {H : Hp} {Q : VK} : (tFld K ta f σ H Q) = (ta σ H fun x H1 => ∃ a C dx fs v, x = .ref a ∧ H1 a = some (.ins C dx fs) ∧ Cls K C ∧ NoAttr K C f ∧ fs.lookup f = some v ∧ Q v H1) := rfl
theorem sqd {K : PySem.W.Frag} {ta tv : TE} {f : Str} {D : Ends} {σ : St} {H : Hp} : (sFld K ta tv f D σ H) = (tv σ H fun y H1 => ta σ H1 fun x H2 => ∃ a C dx fs, x = .ref a ∧ H2 a = some (.ins C dx fs) ∧ Cls K C ∧ NoAttr K C f ∧ fs.length < 1000 ∧ D.nx σ (upd H2 a (.ins C dx (putF f y fs)))) := rfl
theorem sqD {C : Addr} {m : Str} {sp : Sp} {dvs : List V} {E : XK} {ta : TE} {t : TA} {σ : St} {H : Hp} {Q : VK} : (tMeth C m sp dvs E ta t σ H Q) = (ta σ H fun x H1 => ∃ a dx fs, x = .ref a ∧ H1 a = some (.ins C dx fs) ∧ fs.lookup m = none ∧ t σ H1 fun vs H2 => sp (x :: (vs ++ dvs)) H2 Q E) := rfl
theorem tqc {C : Addr} {sp : Sp} {dvs : List V} {E : XK} {t : TA} {σ : St} {H : Hp} {Q : VK} : (tMake C sp dvs E t σ H Q) = (t σ H fun vs H1 => ∀ x dx, H1 x = none → H1 dx = none → dx ≠ x → sp (.ref x :: (vs ++ dvs)) (upd (upd H1 dx (.own x)) x (.ins C dx [])) (fun v H2 => v = .non ∧ Q (.ref x) H2) E) := rfl
end
end L2
namespace Wm
open PySem L2
theorem oqN (t w : List Nat) (i : Nat) (hi : i ≤ t.length) : (decide (i + (⟨w.toArray⟩ : Str).length ≤ (⟨t.toArray⟩ : Str).length) && Builtin.Str.subAt ⟨t.toArray⟩ ⟨w.toArray⟩ i) = decide ((t.drop i).take w.length = w) := by
 rw [bqc, bqc]
 have e : Builtin.Str.subAt ⟨t.toArray⟩ ⟨w.toArray⟩ i = decide ((t.drop i).take w.length = w) := by
  unfold Builtin.Str.subAt
  rw [bqc, Bool.eq_iff_iff, beq_iff_eq, decide_eq_true_eq]
  show (t.toArray.extract i (i + w.length) = w.toArray) ↔ _
  rw [← Array.toList_inj]
  simp
 rw [e]
 by_cases h : (t.drop i).take w.length = w
 ·have hl := congrArg List.length h
  rw [List.length_take, List.length_drop] at hl
  rw [decide_eq_true h, Bool.and_true]
  by_cases hw : w.length = 0
  ·rw [hw, Nat.add_zero]
   exact decide_eq_true hi
  ·exact decide_eq_true (by lia)
 ·rw [decide_eq_false h, Bool.and_false]
theorem occ1 (x y : Str) : ∀ (l : List Nat) (free : Nat), (∀ i ∈ l, free ≤ i) →
  (forIn l ((#[] : Array Nat), free) (StrLaws.occBody x y x.length 1)).run.fst.toList = (l.find? fun i => decide (i + y.length ≤ x.length) && Builtin.Str.subAt x y i).toList
 | [], free, _ => rfl
 | a :: l, free, hf => by
  rw [List.forIn_cons, List.find?_cons]
  have ha : free ≤ a := hf a (List.mem_cons_self ..)
  by_cases hc : a + y.length ≤ x.length ∧ Builtin.Str.subAt x y a = true
  ·have e : (decide (a + y.length ≤ x.length) && Builtin.Str.subAt x y a) = true := by rw [decide_eq_true hc.1, hc.2]; rfl
   rw [e]
   unfold StrLaws.occBody
   rw [if_pos ⟨⟨⟨by simp, ha⟩, hc.1⟩, hc.2⟩]
   have full : ∀ (l : List Nat) (st : Array Nat × Nat), st.1.size = 1 → (forIn l st (StrLaws.occBody x y x.length 1)).run.fst = st.1 := by
    intro l
    induction l with
    | nil => intro st _; rfl
    | cons b l ih =>
     intro st hs
     rw [List.forIn_cons]
     unfold StrLaws.occBody
     rw [if_neg (fun h => by have := h.1.1.1; lia)]
     exact ih st hs
   show (forIn l ((#[] : Array Nat).push a, a + y.length) (StrLaws.occBody x y x.length 1)).run.fst.toList = _
   rw [full l _ (by simp)]
   simp
  ·have e : (decide (a + y.length ≤ x.length) && Builtin.Str.subAt x y a) = false := by
    cases h1 : Builtin.Str.subAt x y a with
    | false => rw [Bool.and_false]
    | true => rw [Bool.and_true]; exact decide_eq_false fun z => hc ⟨z, h1⟩
   rw [e]
   unfold StrLaws.occBody
   rw [if_neg (fun h => hc ⟨h.1.2, h.2⟩)]
   exact occ1 x y l free fun i hi => hf i (List.mem_cons_of_mem _ hi)
def ahead (t : List Nat) : List Nat := t.takeWhile fun c => decide (c ≠ 58)
theorem pq4 (t : List Nat) (i : Nat) : (decide (i + (⟨[58].toArray⟩ : Str).length ≤ (⟨t.toArray⟩ : Str).length) && Builtin.Str.subAt ⟨t.toArray⟩ ⟨[58].toArray⟩ i) = decide (t[i]? = some 58) := by
 by_cases hi : i ≤ t.length
 ·rw [oqN t [58] i hi, decide_eq_decide]
  cases h : t.drop i with
  | nil =>
   have : t[i]? = none := List.getElem?_eq_none (by have := congrArg List.length h; rw [List.length_drop, List.length_nil] at this; lia)
   rw [this]
   simp
  | cons c r =>
   have : t[i]? = some c := by rw [← List.head?_drop, h]; rfl
   rw [this]
   simp
 ·rw [List.getElem?_eq_none (by lia), bqc, bqc, decide_eq_false (by rw [List.length_singleton]; lia)]
  rfl
theorem nqB (t : List Nat) : ∀ (k : Nat), k ≤ t.length → (t.take k).all (fun c => decide (c ≠ 58)) = true →
  ((List.range' k (t.length + 1 - k)).find? fun i => decide (t[i]? = some 58)) = if 58 ∈ t then some (ahead t).length else none := by
 intro k
 induction hn : t.length - k generalizing k with
 | zero =>
  intro hk ha
  have e : k = t.length := by lia
  subst e
  rw [List.take_length] at ha
  have hno : 58 ∉ t := fun h => by have := List.all_eq_true.mp ha 58 h; simp at this
  rw [if_neg hno, show t.length + 1 - t.length = 1 by lia]
  simp
 | succ n ih =>
  intro hk ha
  have hk' : k < t.length := by lia
  have hc : t[k]? = some t[k] := List.getElem?_eq_getElem hk'
  rw [show t.length + 1 - k = (t.length + 1 - (k + 1)) + 1 by lia, List.range'_succ, List.find?_cons, hc]
  by_cases h58 : t[k] = 58
  ·rw [h58]
   simp only [decide_true]
   rw [if_pos (by rw [← h58]; exact List.getElem_mem hk')]
   congr 1
   have ht : t = t.take k ++ 58 :: t.drop (k + 1) := by
    rw [← h58, List.getElem_cons_drop, List.take_append_drop]
   unfold ahead
   rw [ht, List.takeWhile_append_of_pos (fun c hc' => List.all_eq_true.mp ha c hc'), List.takeWhile_cons_of_neg (by simp)]
   simp; lia
  ·rw [show decide (some t[k] = some 58) = false from decide_eq_false (by simpa using h58)]
   refine ih (k + 1) (by lia) (by lia) ?_
   rw [List.take_add_one, hc, List.all_append, ha]
   simpa using h58
theorem nqw (t : List Nat) : (Txt.partition ⟨t.toArray⟩ ⟨[58].toArray⟩).1 = ⟨(ahead t).toArray⟩ := by
 have e : Builtin.Str.occurrences (⟨t.toArray⟩ : Str) ⟨[58].toArray⟩ 0 (⟨t.toArray⟩ : Str).length 1 = (if 58 ∈ t then some (ahead t).length else none).toList := by
  rw [StrLaws.occ_eq, occ1 _ _ _ _ (fun i _ => Nat.zero_le i)]
  simp only [pq4]
  rw [bqc]
  exact congrArg Option.toList (nqB t 0 (Nat.zero_le _) rfl)
 unfold Txt.partition
 rw [e]
 by_cases h : 58 ∈ t
 ·rw [if_pos h]
  show Builtin.Str.strSub ⟨t.toArray⟩ 0 (ahead t).length = _
  unfold Builtin.Str.strSub
  have hp : t.take (ahead t).length = ahead t := (List.prefix_iff_eq_take.mp (List.takeWhile_prefix _)).symm
  rw [← hp, List.length_take]
  have : (ahead t).length ≤ t.length := (List.takeWhile_prefix _).length_le
  rw [show min (ahead t).length t.length = (ahead t).length by lia]
  show (⟨t.toArray.extract 0 (ahead t).length⟩ : Str) = _
  simp
 ·rw [if_neg h]
  have all : ∀ l : List Nat, 58 ∉ l → ahead l = l := fun l => by
   induction l with
   | nil => intro _; rfl
   | cons c l ih =>
    intro hl
    have h1 : c ≠ 58 := fun z => hl (by rw [z]; exact List.mem_cons_self ..)
    unfold ahead
    rw [List.takeWhile_cons, if_pos (decide_eq_true h1)]
    exact congrArg (c :: ·) (ih fun z => hl (List.mem_cons_of_mem _ z))
  have : ahead t = t := all t h
  rw [this]
  rfl
def Cur (H : Hp) (C p : Addr) (t : List Nat) (k : Nat) : Prop := ∃ dx, H p = some (.ins C dx [("text", .str ⟨t.toArray⟩), ("place", .int (k : Int))])
inductive WrT (fr : List Nat) : List Nat → List Nat → Prop
 | nil : WrT fr [] []
 | self {c : Nat} {s w : List Nat} : (isPl c = true ∨ c ∈ fr) → c ≠ 126 → WrT fr s w → WrT fr (c :: s) (c :: w)
 | pair {c a b : Nat} {s w : List Nat} : sgO a b = some c → WrT fr s w → WrT fr (c :: s) (126 :: a :: b :: w)
def Stops (fr r : List Nat) : Prop := ∀ c, r.head? = some c → isPl c = false ∧ c ∉ fr ∧ c ≠ 126
def moV : Option Nat → V
 | none => .non
 | some m => .int (m : Int)
theorem hqW {fr s : List Nat} (h : ∀ c ∈ s, isSg c = true) : WrT fr s (wr s) := by
 induction s with
 | nil => exact .nil
 | cons c s ih =>
  have hc := h c (List.mem_cons_self ..)
  have ih := ih fun d hd => h d (List.mem_cons_of_mem _ hd)
  show WrT fr (c :: s) (wr1 c ++ wr s)
  unfold wr1
  by_cases hp : isPl c = true
  ·rw [if_pos hp]
   exact .self (.inl hp) (fun z => by rw [z] at hp; cases hp) ih
  ·rw [if_neg hp]
   exact .pair (sqR hc) ih
theorem rqm {a n : Nat} (h : fig a = some n) : a < 128 ∧ n < 16 ∧ (n < 10 → a = 48 + n) := by
 unfold fig at h
 split at h
 ·cases h; lia
 ·split at h
  ·cases h; lia
  ·split at h
   ·cases h; lia
   ·cases h
theorem kqH {a b c : Nat} (h : sgO a b = some c) : a ∈ (Str.ofString "234567").cps.toList ∧ a < 128 ∧ b < 128 ∧ isSg c = true := by
 unfold sgO at h
 cases ha : fig a with
 | none => simp [ha] at h
 | some n =>
  cases hb : fig b with
  | none => simp [ha, hb] at h
  | some m =>
   simp only [ha, hb] at h
   split at h
   ·next hs =>
    cases h
    obtain ⟨a1, a2, a3⟩ := rqm ha
    obtain ⟨b1, b2, _⟩ := rqm hb
    have hr := hs
    simp only [isSg, Bool.and_eq_true, decide_eq_true_eq] at hr
    have e := a3 (by lia)
    refine ⟨?_, a1, b1, hs⟩
    have key : ∀ n, n < 8 → 2 ≤ n → 48 + n ∈ (Str.ofString "234567").cps.toList := by decide +kernel
    rw [e]
    exact key n (by lia) (by lia)
   ·cases h
section
variable {K : PySem.W.Frag} {H : Hp} {C p : Addr} {t : List Nat} {i : Nat}
theorem rqV {v u : V} : List.lookup (Str.ofString "text") [(Str.ofString "text", v), (Str.ofString "place", u)] = some v := by
 rw [List.lookup_cons, beq_self_eq_true]
theorem pqU {v u : V} : List.lookup (Str.ofString "place") [(Str.ofString "text", v), (Str.ofString "place", u)] = some u := by
 rw [List.lookup_cons, show (Str.ofString "place" == Str.ofString "text") = false by decide +kernel, List.lookup_cons, beq_self_eq_true]
theorem dq1 {R : V → Prop} (h : Cur H C p t i) (cl : Cls K C) (n : NoAttr K C "text") (r : R (.str ⟨t.toArray⟩)) : ∃ a C dx fs v, p = a ∧ H a = some (.ins C dx fs) ∧ Cls K C ∧ NoAttr K C (Str.ofString "text") ∧ List.lookup (Str.ofString "text") fs = some v ∧ R v :=
 let ⟨dx, hp⟩ := h
 ⟨p, C, dx, _, _, rfl, hp, cl, n, rqV, r⟩
theorem aqQ {R : V → Prop} (h : Cur H C p t i) (cl : Cls K C) (n : NoAttr K C "place") (r : R (.int (i : Int))) : ∃ a C dx fs v, p = a ∧ H a = some (.ins C dx fs) ∧ Cls K C ∧ NoAttr K C (Str.ofString "place") ∧ List.lookup (Str.ofString "place") fs = some v ∧ R v :=
 let ⟨dx, hp⟩ := h
 ⟨p, C, dx, _, _, rfl, hp, cl, n, pqU, r⟩
theorem pqu {v u w : V} : putF (Str.ofString "place") w [(Str.ofString "text", v), (Str.ofString "place", u)] = [(Str.ofString "text", v), (Str.ofString "place", w)] := by
 have h : Str.ofString "text" ≠ Str.ofString "place" := by decide +kernel
 simp only [putF, if_neg h, if_true]
theorem lqy {N : Hp → Prop} {z : Int} (h : Cur H C p t i) (cl : Cls K C) (n : NoAttr K C "place") (j : Nat) (hz : z = (j : Int)) (hN : ∀ H', SameBut p H H' → Cur H' C p t j → N H') :
  ∃ a C dx fs, p = a ∧ H a = some (.ins C dx fs) ∧ Cls K C ∧ NoAttr K C (Str.ofString "place") ∧ fs.length < 1000 ∧ N (upd H a (.ins C dx (putF (Str.ofString "place") (.int z) fs))) := by
 obtain ⟨dx, hp⟩ := h
 refine ⟨p, C, dx, _, rfl, hp, cl, n, by show 2 < 1000; decide, ?_⟩
 rw [pqu, hz]
 exact hN _ aqR ⟨dx, aqh⟩
theorem sqh {m : Str} {v u : V} (h1 : (m == Str.ofString "text") = false) (h2 : (m == Str.ofString "place") = false) : List.lookup m [(Str.ofString "text", v), (Str.ofString "place", u)] = none := by
 rw [List.lookup_cons, h1, List.lookup_cons, h2]; rfl
theorem aqN {R : Prop} {m : Str} (h : Cur H C p t i) (r : R) (h1 : (m == Str.ofString "text") = false := by decide +kernel) (h2 : (m == Str.ofString "place") = false := by decide +kernel) :
  ∃ a dx fs, p = a ∧ H a = some (.ins C dx fs) ∧ List.lookup m fs = none ∧ R :=
 let ⟨dx, hp⟩ := h
 ⟨p, dx, _, rfl, hp, sqh h1 h2, r⟩
theorem Cur.same {H' : Hp} (h : Cur H C p t i) (s : Same H H') : Cur H' C p t i := let ⟨dx, hp⟩ := h; ⟨dx, s _ _ hp⟩
end
def plS : List Nat := (Str.ofString "abcdefghijklmnopqrstuvwxyzABCDEFGHIJKLMNOPQRSTUVWXYZ0123456789-_.").cps.toList
theorem pqx : plS.length = 65 := by decide +kernel
theorem rqp {c : Nat} (h : c < 128) : (c ∈ plS) ↔ isPl c = true := by
 have := mq3 c h
 rw [← this, decide_eq_true_eq]
 exact Iff.rfl
def seesB (t sg : List Nat) (i : Nat) : Bool := ((t[i]?).map fun c => decide (c ∈ sg)).getD false
theorem dqL {t sg : List Nat} {i c : Nat} (h : t[i]? = some c) : seesB t sg i = decide (c ∈ sg) := by unfold seesB; rw [h]; rfl
theorem dqX {t sg : List Nat} {i : Nat} (h : t[i]? = none) : seesB t sg i = false := by unfold seesB; rw [h]; rfl
theorem iqw {t w : List Nat} {i c : Nat} (h : t.drop i = c :: w) : t[i]? = some c ∧ i < t.length := by
 have e : t[i]? = some c := by rw [← List.head?_drop, h]; rfl
 exact ⟨e, (List.getElem?_eq_some_iff.mp e).1⟩
theorem sqi {fr s w : List Nat} (h : WrT fr s w) : s.length ≤ w.length := by
 induction h with
 | nil => exact Nat.le_refl _
 | self _ _ _ ih => simp only [List.length_cons]; lia
 | pair _ _ ih => simp only [List.length_cons]; lia
def frS : List Nat := (Str.ofString "!$'()*,;@&=+").cps.toList
def frQ : List Nat := (Str.ofString "!$'()*,;@+/?:").cps.toList
def frM : List Nat := (Str.ofString "!$'()*,;@&=+/?:").cps.toList
theorem mqc : frS.length ≤ 100 := by decide +kernel
theorem lqT : frQ.length ≤ 100 := by decide +kernel
theorem rq9 : frM.length ≤ 100 := by decide +kernel
theorem eqT {fr : List Nat} : Stops fr [] := fun c h => by cases h
theorem bqf {fr r : List Nat} {c : Nat} (h : isPl c = false ∧ c ∉ fr ∧ c ≠ 126) : Stops fr (c :: r) := fun d e => by cases e; exact h
def MarW (o : Option (List Nat)) (w : List Nat) : Prop := match o with
 | none => w = []
 | some s => ∃ v, w = 35 :: v ∧ WrT frM s v
def ValW (o : Option (List Nat)) (w : List Nat) : Prop := match o with
 | none => w = []
 | some s => ∃ v, w = 61 :: v ∧ WrT frQ s v
def HouW (o : Option (List Nat)) (w : List Nat) : Prop := match o with
 | none => w = []
 | some s => ∃ v, w = 47 :: 47 :: v ∧ WrT [] s v ∧ s ≠ [] ∧ s.length ≤ 60
inductive TlW : List (List Nat) → Bool → List Nat → Prop
 | stop : TlW [] false []
 | ends : TlW [] true [47]
 | more {s w : List Nat} {ss : List (List Nat)} {e : Bool} {v : List Nat} : WrT frS s w → s ≠ [] → TlW ss e v → TlW (s :: ss) e (47 :: (w ++ v))
inductive StpW : List (List Nat) → Bool → List Nat → Prop
 | none {e : Bool} : StpW [] e []
 | some {s w : List Nat} {ss : List (List Nat)} {e : Bool} {v : List Nat} : WrT frS s w → s ≠ [] → TlW ss e v → StpW (s :: ss) e (w ++ v)
theorem oqV : (47 : Nat) ∉ frS := by decide +kernel
theorem nql {fr s w : List Nat} (h : WrT fr s w) (hs : s ≠ []) : ∃ c r, w = c :: r ∧ (isPl c = true ∨ c ∈ fr ∨ c = 126) := by
 cases h with
 | nil => exact absurd rfl hs
 | self a _ _ => exact ⟨_, _, rfl, a.elim .inl (fun z => .inr (.inl z))⟩
 | pair _ _ => exact ⟨_, _, rfl, .inr (.inr rfl)⟩
theorem mqR {ss : List (List Nat)} {e : Bool} {v rest : List Nat} (h : TlW ss e v) (hr : Stops frS rest) : Stops frS (v ++ rest) := by
 cases h with
 | stop => exact hr
 | ends => exact bqf ⟨by decide, oqV, by decide⟩
 | more _ _ _ => exact bqf ⟨by decide, oqV, by decide⟩
theorem nqk {ss : List (List Nat)} {e : Bool} {v rest : List Nat} (h : StpW ss e v) (hr : rest.head? ≠ some 47) : (v ++ rest).head? ≠ some 47 := by
 cases h with
 | none => exact hr
 | some hw hs _ =>
  obtain ⟨c, r, rfl, hc⟩ := nql hw hs
  intro z
  have e : c = 47 := Option.some.inj z
  subst e
  rcases hc with z | z | z
  ·cases z
  ·exact oqV z
  ·cases z
inductive PrsW : List (List Nat × Option (List Nat)) → List Nat → Prop
 | nil : PrsW [] []
 | cons {n w v : List Nat} {o : Option (List Nat)} {ps : List (List Nat × Option (List Nat))} {r : List Nat} : WrT frQ n w → n ≠ [] → ValW o v → PrsW ps r → PrsW ((n, o) :: ps) (38 :: (w ++ (v ++ r)))
def QueW (q : Option (List (List Nat × Option (List Nat)))) (w : List Nat) : Prop := match q with
 | none => w = []
 | some [] => w = [63]
 | some ((n, o) :: ps) => ∃ a v r, w = 63 :: (a ++ (v ++ r)) ∧ WrT frQ n a ∧ n ≠ [] ∧ ValW o v ∧ PrsW ps r
theorem oqG : (35 : Nat) ∉ frQ ∧ (38 : Nat) ∉ frQ ∧ (61 : Nat) ∉ frQ := by decide +kernel
theorem iqM {ps : List (List Nat × Option (List Nat))} {r rest : List Nat} (h : PrsW ps r) (hr : rest = [] ∨ ∃ x, rest = 35 :: x) : Stops frQ (r ++ rest) ∧ (r ++ rest).head? ≠ some 61 := by
 cases h with
 | nil =>
  rcases hr with rfl | ⟨x, rfl⟩
  ·exact ⟨eqT, by simp⟩
  ·exact ⟨bqf ⟨by decide, oqG.1, by decide⟩, by simp⟩
 | cons _ _ _ _ => exact ⟨bqf ⟨by decide, oqG.2.1, by decide⟩, by simp⟩
theorem kqS {o : Option (List Nat)} {v r : List Nat} (h : ValW o v) (hr : Stops frQ r) : Stops frQ (v ++ r) := by
 cases o with
 | none =>
  have h : v = [] := h
  subst h
  exact hr
 | some s =>
  obtain ⟨x, rfl, _⟩ := h
  exact bqf ⟨by decide, oqG.2.2, by decide⟩
theorem Cur.toT {H H' : Hp} {C p : Addr} {t : List Nat} {i : Nat} (h : Cur H C p t i) (s : SameBut p H H') : SameT H H' := fun b xs e => s b _ (by
 obtain ⟨dx, hp⟩ := h
 exact qqO e hp (by intro z; cases z)) e
def pD (a : List Nat × Option (List Nat)) : PyData := .tuple [st a.1, oD a.2]
def PrL (H : Hp) (vs : List V) (dn : List (List Nat × Option (List Nat))) : Prop := vs.length = dn.length ∧ ∀ (i : Nat) (a : List Nat × Option (List Nat)) (y : V), dn[i]? = some a → vs[i]? = some y → IsT H (pD a) y
theorem PrL.mono {H H' : Hp} {vs : List V} {dn : List (List Nat × Option (List Nat))} (h : PrL H vs dn) (s : SameT H H') : PrL H' vs dn := ⟨h.1, fun i a y e1 e2 => (h.2 i a y e1 e2).mono s⟩
theorem PrL.snoc {H : Hp} {vs : List V} {dn : List (List Nat × Option (List Nat))} {a : List Nat × Option (List Nat)} {y : V} (h : PrL H vs dn) (hy : IsT H (pD a) y) : PrL H (vs ++ [y]) (dn ++ [a]) := by
 refine ⟨by simp [h.1], fun i b z e1 e2 => ?_⟩
 by_cases hi : i < dn.length
 ·rw [List.getElem?_append_left hi] at e1
  rw [List.getElem?_append_left (by rw [h.1]; exact hi)] at e2
  exact h.2 i b z e1 e2
 ·have := (List.getElem?_eq_some_iff.mp e1).1
  rw [List.length_append, List.length_singleton] at this
  have e : i = dn.length := by lia
  subst e
  rw [List.getElem?_append_right (Nat.le_refl _), Nat.sub_self] at e1
  rw [← h.1, List.getElem?_append_right (Nat.le_refl _), Nat.sub_self] at e2
  cases e1
  cases e2
  exact hy
theorem jqn {H : Hp} {α : Type} {g : α → PyData} : ∀ {l : List α} {ys : List V}, ys.length = l.length → (∀ (i : Nat) (a : α) (y : V), l[i]? = some a → ys[i]? = some y → IsT H (g a) y) → IsTAll H (l.map g) ys
 | [], [], _, _ => .nil
 | [], _ :: _, h, _ => by simp at h
 | _ :: _, [], h, _ => by simp at h
 | a :: l, y :: ys, h, k => .cons (k 0 a y rfl rfl) (jqn (by simpa using h) fun i b z e1 e2 => k (i + 1) b z (by simpa using e1) (by simpa using e2))
def fgS : List Nat := (Str.ofString "0123456789").cps.toList
theorem mqX {c : Nat} : c ∈ fgS ↔ 48 ≤ c ∧ c ≤ 57 := by
 rw [show fgS = List.range' 48 10 by decide +kernel, List.mem_range'_1]
 lia
def valD (ds : List Nat) : Nat := ds.foldl (fun a c => a * 10 + (c - 48)) 0
theorem eqG (ds : List Nat) (c : Nat) : valD (ds ++ [c]) = valD ds * 10 + (c - 48) := by unfold valD; rw [List.foldl_append]; rfl
theorem oqt : ∀ (es ds : List Nat), valD ds ≤ valD (ds ++ es)
 | [], ds => by rw [List.append_nil]; exact Nat.le_refl _
 | c :: es, ds => by
  have h := oqt es (ds ++ [c])
  rw [eqG, List.append_assoc] at h
  exact Nat.le_trans (by lia) h
def DooW (o : Option Int) (w : List Nat) : Prop := match o with
 | none => w = []
 | some n => ∃ ds, w = 58 :: ds ∧ ds ≠ [] ∧ (∀ c ∈ ds, 48 ≤ c ∧ c ≤ 57) ∧ (valD ds : Int) = n ∧ valD ds ≤ 65535 ∧ (ds = [48] ∨ ds.head? ≠ some 48)
theorem oq5 : ∀ c, c < 58 → 48 ≤ c → PySem.intText? ⟨#[c]⟩ = some (((c - 48 : Nat)) : Int) := by decide +kernel
theorem pqv {s r : List Nat} (h : ∀ c ∈ s, c ≠ 58) : ahead (s ++ 58 :: r) = s := by
 unfold ahead
 rw [List.takeWhile_append_of_pos (fun c hc => decide_eq_true (h c hc)), List.takeWhile_cons_of_neg (by simp), List.append_nil]
theorem lqi (t : List Nat) : ∃ r, t = ahead t ++ r := ⟨t.dropWhile fun c => decide (c ≠ 58), (List.takeWhile_append_dropWhile (p := fun c => decide (c ≠ 58))).symm⟩
theorem pqi (t : List Nat) : (ahead t).length ≤ t.length := by
 obtain ⟨r, h⟩ := lqi t
 have := congrArg List.length h
 rw [List.length_append] at this
 lia
theorem jqp (t : List Nat) : t.take (ahead t ++ [58]).length = ahead t ++ [58] ↔ t[(ahead t).length]? = some 58 := by
 obtain ⟨r, h⟩ := lqi t
 generalize ahead t = a at h
 subst h
 rw [List.length_append, List.length_singleton, List.getElem?_append_right (Nat.le_refl _), Nat.sub_self, List.take_append]
 rw [List.take_of_length_le (by lia), show a.length + 1 - a.length = 1 by lia]
 constructor
 ·intro e
  have e := List.append_cancel_left e
  cases r with
  | nil => simp at e
  | cons c r => simp at e; rw [e]; rfl
 ·intro e
  cases r with
  | nil => simp at e
  | cons c r => simp at e; rw [e]; rfl
def schM (t : List Nat) : List Nat := if ahead t ≠ [] ∧ schD (.str ⟨(ahead t).toArray⟩) = true ∧ t[(ahead t).length]? = some 58 then ahead t else []
def schP (t : List Nat) : Nat := (schT (schM t)).length
theorem hqz {t : List Nat} (h1 : ahead t ≠ []) (h2 : schD (.str ⟨(ahead t).toArray⟩) = true) (h3 : t[(ahead t).length]? = some 58) : schM t = ahead t ∧ schP t = (ahead t ++ [58]).length := by
 have e : schM t = ahead t := by unfold schM; rw [if_pos ⟨h1, h2, h3⟩]
 exact ⟨e, by unfold schP schT; rw [e, if_neg h1]⟩
theorem gqF {t : List Nat} (h : ¬ (ahead t ≠ [] ∧ schD (.str ⟨(ahead t).toArray⟩) = true ∧ t[(ahead t).length]? = some 58)) : schM t = [] ∧ schP t = 0 := by
 have e : schM t = [] := by unfold schM; rw [if_neg h]
 exact ⟨e, by unfold schP schT; rw [e, if_pos rfl]; rfl⟩
def RdW (x : Ad) (t : List Nat) : Prop := ∃ h d w q m, t = schT x.scheme ++ (h ++ (d ++ ((if x.rooted then [47] else []) ++ (w ++ (q ++ m))))) ∧ schM t = x.scheme ∧ HouW x.house h ∧ DooW x.door d ∧ StpW x.steps x.ends w ∧ QueW x.quest q ∧ MarW x.mark m
end Wm
namespace L2
open PySem
theorem IsKAll.length {K : PySem.W.Frag} {H : Hp} : ∀ {ds : List PyData} {xs : List V}, IsKAll K H ds xs → xs.length = ds.length
 | _, _, .nil => rfl
 | _, _, .cons _ r => by simp [IsKAll.length r]
theorem jqz {K : PySem.W.Frag} {H : Hp} : ∀ {ds : List PyData} {xs : List V} {i : Nat} {d : PyData} {x : V}, IsKAll K H ds xs → ds[i]? = some d → xs[i]? = some x → IsK K H d x
 | _, _, 0, _, _, .cons h _, e1, e2 => by cases e1; cases e2; exact h
 | _, _, i + 1, _, _, .cons _ r, e1, e2 => jqz r (i := i) (by simpa using e1) (by simpa using e2)
 | _, _, 0, _, _, .nil, e1, _ => by cases e1
 | _, _, _ + 1, _, _, .nil, e1, _ => by cases e1
end L2
namespace Wm
open PySem L2
theorem jqw : ∀ n : Nat, valD ((Nat.toDigits 10 n).map Char.toNat) = n ∧ (Nat.toDigits 10 n).map Char.toNat ≠ [] ∧ (((Nat.toDigits 10 n).map Char.toNat).head? = some 48 → n = 0)
 | n => by
  by_cases h : n < 10
  ·rw [Nat.toDigits_of_lt_base h]
   have key : ∀ n, n < 10 → valD ([Nat.digitChar n].map Char.toNat) = n ∧ ([Nat.digitChar n].map Char.toNat).head? = some (48 + n) := by decide +kernel
   obtain ⟨k1, k2⟩ := key n h
   refine ⟨k1, by simp, fun z => ?_⟩
   rw [k2] at z
   injection z with z
   lia
  ·have h' : 10 ≤ n := by lia
   rw [Nat.toDigits_of_base_le (by decide) h', List.map_append]
   obtain ⟨i1, i2, i3⟩ := jqw (n / 10)
   have key : ∀ n, n < 10 → ([Nat.digitChar n].map Char.toNat) = [48 + n] := by decide +kernel
   rw [key (n % 10) (by lia), eqG, i1]
   refine ⟨by lia, by simp, fun z => ?_⟩
   cases hh : (Nat.toDigits 10 (n / 10)).map Char.toNat with
   | nil => exact absurd hh i2
   | cons c r =>
    rw [hh] at z i3
    have := i3 z
    lia
theorem qqg {o : Option Int} (h : ∀ i, o = some i → 0 ≤ i ∧ i ≤ 65535) : DooW o (dooT o) := by
 cases o with
 | none => rfl
 | some i =>
  obtain ⟨h1, h2⟩ := h i rfl
  obtain ⟨n, rfl⟩ := Int.eq_ofNat_of_zero_le h1
  have e : dg (n : Int) = (Nat.toDigits 10 n).map Char.toNat := by unfold dg; rw [PySem.W.KIN.signs_num]
  obtain ⟨i1, i2, i3⟩ := jqw n
  refine ⟨dg n, rfl, by rw [e]; exact i2, rqt h1, by rw [e, i1], by rw [e, i1]; lia, ?_⟩
  by_cases hz : (dg n).head? = some 48
  ·rw [e] at hz
   have := i3 hz
   subst this
   exact .inl (by rw [e]; decide)
  ·exact .inr hz
theorem qqe {o : Option (List Nat)} (h : ∀ l, o = some l → (0 < l.length ∧ l.length ≤ 60) ∧ ∀ c ∈ l, isSg c = true) : HouW o (houT o) := by
 cases o with
 | none => rfl
 | some l =>
  obtain ⟨⟨h1, h2⟩, h3⟩ := h l rfl
  exact ⟨wr l, rfl, hqW h3, (fun e => by rw [e] at h1; cases h1), h2⟩
theorem qqF {o : Option (List Nat)} (h : ∀ l, o = some l → ∀ c ∈ l, isSg c = true) : MarW o (oT 35 o) := by
 cases o with
 | none => rfl
 | some l => exact ⟨wr l, rfl, hqW (h l rfl)⟩
theorem nqd {o : Option (List Nat)} (h : ∀ l, o = some l → ∀ c ∈ l, isSg c = true) : ValW o (oT 61 o) := by
 cases o with
 | none => rfl
 | some l => exact ⟨wr l, rfl, hqW (h l rfl)⟩
theorem rqK {e : Bool} : ∀ {ss : List (List Nat)}, (∀ s ∈ ss, StepOk s) → TlW ss e (tlT 47 (ss.map wr) ++ if e then [47] else [])
 | [], _ => by cases e <;> simp [tlT] <;> constructor
 | s :: ss, h => by
  have h1 := h s (List.mem_cons_self ..)
  have := TlW.more (hqW (fr := frS) h1.2) (fun z => by rw [z] at h1; cases h1.1) (rqK (e := e) (ss := ss) fun t ht => h t (List.mem_cons_of_mem _ ht))
  simpa [tlT] using this
theorem pqO {ss : List (List Nat)} {e : Bool} (h : ∀ s ∈ ss, StepOk s) : StpW ss e (stpT ss e) := by
 cases ss with
 | nil => rw [qqJ]; exact .none
 | cons s ss =>
  have h1 := h s (List.mem_cons_self ..)
  have := StpW.some (hqW (fr := frS) h1.2) (fun z => by rw [z] at h1; cases h1.1) (rqK (e := e) (ss := ss) fun t ht => h t (List.mem_cons_of_mem _ ht))
  unfold stpT
  simpa [joinT] using this
theorem mq0 : ∀ {ps : List (List Nat × Option (List Nat))}, (∀ p ∈ ps, PairOk p) → PrsW ps (tlT 38 (ps.map pairT))
 | [], _ => .nil
 | (n, o) :: ps, h => by
  have h1 := h (n, o) (List.mem_cons_self ..)
  have := PrsW.cons (hqW (fr := frQ) h1.1.2) (fun z => by have := h1.1.1; rw [z] at this; cases this) (nqd h1.2) (mq0 (ps := ps) fun t ht => h t (List.mem_cons_of_mem _ ht))
  simpa [tlT, pairT] using this
theorem qqQ {q : Option (List (List Nat × Option (List Nat)))} (h : ∀ ps, q = some ps → ∀ p ∈ ps, PairOk p) : QueW q (queT q) := by
 cases q with
 | none => rfl
 | some ps =>
  cases ps with
  | nil => rfl
  | cons p ps =>
   obtain ⟨n, o⟩ := p
   have h1 := h _ rfl (n, o) (List.mem_cons_self ..)
   exact ⟨wr n, oT 61 o, tlT 38 (ps.map pairT), by simp [queT, joinT, pairT], hqW h1.1.2, (fun z => by have := h1.1.1; rw [z] at this; cases this), nqd h1.2, mq0 fun t ht => h _ rfl t (List.mem_cons_of_mem _ ht)⟩
theorem mqG {P : Nat → Prop} (h1 : P 63) (h2 : P 38) (h3 : P 61) (hw : ∀ c, wch c = true → P c) {q : Option (List (List Nat × Option (List Nat)))} (h : ∀ ps, q = some ps → ∀ p ∈ ps, PairOk p) : ∀ c ∈ queT q, P c := by
 intro c hc
 cases q with
 | none => cases hc
 | some ps =>
  simp only [queT, List.mem_cons] at hc
  rcases hc with rfl | hc
  ·exact h1
  ·refine nqi h2 (fun s hs d hd => ?_) c hc
   obtain ⟨p, hp, rfl⟩ := List.mem_map.mp hs
   exact qq8 h3 hw (h ps rfl p hp) d hd
theorem Ad.Wf.all {P : Nat → Prop} {x : Ad} (h : x.Wf) (h1 : P 47) (h2 : P 58) (h3 : P 63) (h4 : P 38) (h5 : P 61) (h6 : P 35) (hw : ∀ c, wch c = true → P c) : ∀ c ∈ x.shw, P c := by
 intro c hc
 rw [Ad.shw_eq] at hc
 rcases List.mem_append.mp hc with hc | hc
 ·rcases List.mem_append.mp hc with hc | hc
  ·exact h.pre_all h1 h2 hw c hc
  ·exact mqG h3 h4 h5 hw h.que c hc
 ·exact oqD h6 hw h.mar c hc
theorem uqd {c : Nat} (h : wch c = true) : c < 128 := by
 simp only [wch, isPl, Bool.or_eq_true, decide_eq_true_eq] at h
 lia
theorem iqs {x : Ad} (h : x.Wf) : ∀ c ∈ x.shw, c < 128 := h.all (by decide) (by decide) (by decide) (by decide) (by decide) (by decide) fun _ => uqd
theorem qqB {x : Ad} (h : x.Wf) : schM x.shw = x.scheme := by
 by_cases hs : x.scheme = []
 ·rw [hs]
  refine (gqF ?_).1
  rintro ⟨_, z2, z3⟩
  cases hh : x.house with
  | some l =>
   obtain ⟨r, hr⟩ : ∃ r, x.shw = 47 :: r := by
    unfold Ad.shw
    rw [hs, hh]
    exact ⟨_, rfl⟩
   rw [hr] at z2
   have : (ahead (47 :: r)) = 47 :: ahead r := by unfold ahead; rw [List.takeWhile_cons_of_pos (by decide)]
   rw [this] at z2
   simp [schD, isLet] at z2
  | none =>
   have hd : x.door = none := by
    cases hd : x.door with
    | none => rfl
    | some i => exact absurd hh (h.doo i hd).2
   have hm : (58 : Nat) ∈ x.shw := List.mem_of_getElem? z3
   unfold Ad.shw at hm
   rw [hs, hh, hd] at hm
   simp only [schT, if_true, houT, dooT, List.nil_append] at hm
   have ha : ∀ c, c ∈ x.wayT ++ (queT x.quest ++ oT 35 x.mark) → c ≠ 58 := by
    intro c hc
    rcases List.mem_append.mp hc with hc | hc
    ·exact oqf (P := fun c => c ≠ 58) (by decide) (fun c hc => (kqB hc).2.2.2.1) h.stp c hc
    ·rcases List.mem_append.mp hc with hc | hc
     ·exact mqG (P := fun c => c ≠ 58) (by decide) (by decide) (by decide) (fun c hc => (kqB hc).2.2.2.1) h.que c hc
     ·exact oqD (P := fun c => c ≠ 58) (by decide) (fun c hc => (kqB hc).2.2.2.1) h.mar c hc
   exact ha 58 hm rfl
 ·have hc : ∀ c ∈ x.scheme, c ≠ 58 := fun c hc => (kqB (oqy (h.sch.2.1 c hc))).2.2.2.1
  obtain ⟨r, hr⟩ : ∃ r, x.shw = x.scheme ++ 58 :: r := by
   unfold Ad.shw schT
   rw [if_neg hs]
   exact ⟨_, by rw [List.append_assoc]; rfl⟩
  have ha : ahead x.shw = x.scheme := by rw [hr]; exact pqv hc
  have := (hqz (t := x.shw) (by rw [ha]; exact hs) (by
   rw [ha]
   simp only [schD, Bool.and_eq_true, List.all_eq_true, decide_eq_true_eq]
   exact ⟨⟨⟨fun c hc => nqh (h.sch.2.1 c hc), by show x.scheme.length ≤ 8; exact h.sch.1⟩, h.sch.2.2⟩, h.sch.2.1⟩) (by
   rw [ha, hr, List.getElem?_append_right (Nat.le_refl _), Nat.sub_self]; rfl)).1
  rw [this, ha]
theorem tqv {x : Ad} (h : x.Wf) : RdW x x.shw :=
 ⟨houT x.house, dooT x.door, stpT x.steps x.ends, queT x.quest, oT 35 x.mark, by
  unfold Ad.shw Ad.wayT
  rw [nq9, List.append_assoc], qqB h, qqe h.hou, qqg fun i e => (h.doo i e).1, pqO h.stp, qqQ h.que, qqF h.mar⟩
theorem Ad.Tiny.len {x : Ad} (h : x.Wf) (t : x.Tiny) (hn : x.steps.length ≤ 300) : x.shw.length ≤ 80000 := by
 have a1 : (schT x.scheme).length ≤ 9 := by
  unfold schT
  split
  ·simp
  ·have := h.sch.1; simp only [List.length_append, List.length_cons, List.length_nil]; lia
 have a2 : (houT x.house).length ≤ 200 := by
  cases hh : x.house with
  | none => simp [houT]
  | some l => have := (h.hou l hh).1.2; have := gq7 l; simp only [houT, List.length_cons]; lia
 have a3 : (dooT x.door).length ≤ 6 := by
  cases hh : x.door with
  | none => simp [dooT]
  | some i => have b := (h.doo i hh).1; have := rqg b.1 b.2; simp only [dooT, List.length_cons]; lia
 have a4 : x.wayT.length ≤ 9000 := by
  have hj := jqJ (sep := 47) (m := 27) (ys := x.steps.map wr) fun s hs => by
   obtain ⟨u, hu, rfl⟩ := List.mem_map.mp hs
   have := gq7 u; have := t.stp u hu; lia
  rw [List.length_map] at hj
  have e1 : (if x.rooted then [47] else [] : List Nat).length ≤ 1 := by split <;> simp
  have e2 : (if x.ends && !x.steps.isEmpty then [47] else [] : List Nat).length ≤ 1 := by split <;> simp
  simp only [Ad.wayT, Wm.wayT, List.length_append]
  have : x.steps.length * (27 + 1) ≤ 300 * 28 := Nat.mul_le_mul hn (Nat.le_refl _)
  lia
 have a5 : (queT x.quest).length ≤ 1000 := by
  cases hq : x.quest with
  | none => simp [queT]
  | some ps =>
   have hk := t.que ps hq
   have hj := jqJ (sep := 38) (m := 37) (ys := ps.map pairT) fun s hs => by
    obtain ⟨p, hp, rfl⟩ := List.mem_map.mp hs
    have h1 := (hk.2 p hp).1
    have h2 := rqJ (sep := 61) (n := 6) (o := p.2) fun v hv => (hk.2 p hp).2 v hv
    have := gq7 p.1
    simp only [pairT, List.length_append]
    lia
   rw [List.length_map] at hj
   have : ps.length * (37 + 1) ≤ 3 * 38 := Nat.mul_le_mul hk.1 (Nat.le_refl _)
   simp only [queT, List.length_cons]
   lia
 have a6 := rqJ (sep := 35) (n := 60) (o := x.mark) fun l e => Nat.le_trans (t.mar l e) (by decide)
 simp only [Ad.shw, List.length_append]
 lia
theorem Ad.Tiny.sz {x : Ad} (h : x.Wf) (t : x.Tiny) (hn : x.steps.length ≤ 300) : x.Sz where
 stp := fun s hs => Nat.le_trans (t.stp s hs) (by decide)
 que := fun ps e => ⟨Nat.le_trans (t.que ps e).1 (by decide), fun p hp => ⟨Nat.le_trans ((t.que ps e).2 p hp).1 (by decide), fun v hv => Nat.le_trans (((t.que ps e).2 p hp).2 v hv) (by decide)⟩⟩
 mar := fun l e => Nat.le_trans (t.mar l e) (by decide)
 num := Nat.le_trans hn (by decide)
 all := Nat.le_trans (Ad.Tiny.len h t hn) (by decide)
theorem gqJ {w : Way} (h : ∀ s ∈ w.2.1, s.length ≤ 9) : ∀ s ∈ (goneV w).2.1, s.length ≤ 9 := by
 intro s hs
 unfold goneV goneW at hs
 split at hs
 ·cases hs
 ·split at hs
  ·split at hs
   ·cases hs
   ·rw [List.mem_singleton.mp hs]; decide
  ·rcases kqs s hs with z | z
   ·exact h s z.1
   ·rw [z.2]; decide
theorem mqw {w : Way} (h : ∀ s ∈ w.2.1, s.length ≤ 9) : ∀ s ∈ holder w, s.length ≤ 9 := by
 intro s hs
 unfold holder at hs
 split at hs
 ·exact gqJ h s hs
 ·exact gqJ h s (List.dropLast_subset _ hs)
theorem Ad.Tiny.gone {x : Ad} (h : x.Tiny) : x.gone.Tiny := ⟨gqJ (w := x.w) h.stp, h.que, h.mar, h.hou⟩
theorem fqG {x : Ad} (h : x.Tiny) : (plainM x).Tiny := by
 refine Ad.Tiny.gone ⟨h.stp, h.que, h.mar, fun l e => ?_⟩
 obtain ⟨m, hm, rfl⟩ := Option.map_eq_some_iff.mp e
 rw [jqN]
 exact h.hou m hm
theorem kq5 {b x : Ad} (hb : b.Tiny) (hx : x.Tiny) : (resM b x).Tiny := by
 unfold resM
 split
 ·exact hx.gone
 ·split
  ·exact Ad.Tiny.gone ⟨hx.stp, hx.que, hx.mar, hx.hou⟩
  ·split
   ·exact Ad.Tiny.gone ⟨hx.stp, hx.que, hx.mar, hb.hou⟩
   ·split
    ·refine Ad.Tiny.gone ⟨fun s hs => ?_, hx.que, hx.mar, hb.hou⟩
     rcases List.mem_append.mp hs with hs | hs
     ·exact mqw (w := b.w) hb.stp s hs
     ·exact hx.stp s hs
    ·refine Ad.Tiny.gone ⟨hb.stp, ?_, hx.mar, hb.hou⟩
     show ∀ ps, (if x.quest = none then b.quest else x.quest) = some ps → _
     split
     ·exact hb.que
     ·exact hx.que
def GoodsT (n : Nat) (H : Hp) (vs : List V) : Prop := ∀ v ∈ vs, ∃ x : Ad, (x.Wf ∧ x.Tiny ∧ x.steps.length ≤ n) ∧ IsT H x.data v
theorem GoodsT.cons {n : Nat} {H : Hp} {v : V} {vs : List V} {x : Ad} (h1 : x.Wf ∧ x.Tiny ∧ x.steps.length ≤ n) (h3 : IsT H x.data v) (h : GoodsT n H vs) : GoodsT n H (v :: vs) := fun u hu => by
 rcases List.mem_cons.mp hu with rfl | hu
 ·exact ⟨x, h1, h3⟩
 ·exact h u hu
theorem Ad.Tiny.local {x : Ad} (h : x.Tiny) : ({ x with scheme := [], house := none, door := none } : Ad).Tiny := ⟨h.stp, h.que, h.mar, fun l e => by cases e⟩
end Wm
namespace L2
open PySem
end L2
namespace Wm
open PySem L2
def PrW (p : List Nat × Option (List Nat)) (w : List Nat) : Prop := ∃ a v, w = a ++ v ∧ WrT frQ p.1 a ∧ ValW p.2 v
inductive PrWs : List (List Nat × Option (List Nat)) → List (List Nat) → Prop
 | nil : PrWs [] []
 | cons {p : List Nat × Option (List Nat)} {w : List Nat} {ps : List (List Nat × Option (List Nat))} {ws : List (List Nat)} : PrW p w → PrWs ps ws → PrWs (p :: ps) (w :: ws)
inductive StWs : List (List Nat) → List (List Nat) → Prop
 | nil : StWs [] []
 | cons {s w : List Nat} {ss ws : List (List Nat)} : WrT frS s w → StWs ss ws → StWs (s :: ss) (w :: ws)
end Wm
namespace L2
open PySem PySem.Spec PyProof.Rows
section
variable {X : Cx} {pins : List (Addr × Obj)} {σ : St} {H : Hp} {s : Shared} {h' : Heap}
end
def ItW (n : Nat) (ok : Hp → Prop) (pt : Nat → Hp → List V → Prop) : It :=
 ⟨fun i H => i < n ∧ ok H, fun i H x H' => ∃ T xs, x = .ref T ∧ H T = none ∧ H' = upd H T (.tup xs) ∧ pt i H xs, fun i H => i = n ∧ ok H⟩
section
variable {σ : St} {H : Hp} {D : Ends} {g : TG} {tb : TS}
end
section
variable {prog : Program} {w : World} {A : Around} {E : Value → Shared → Prop} {s : Shared}
end
section
variable {prog : Program} {w : World} {A : Around} {E : Value → Shared → Prop} {s : Shared}
end
def ItE (K : PySem.W.Frag) (a : Addr) (xs : List V) : It := ItW xs.length (fun H => SqT K H a xs) fun i _ ys => ∃ v, xs[i]? = some v ∧ ys = [.int (i : Int), v]
section
variable {X : Cx} {K : PySem.W.Frag} {elts : List Expr} {kk : Nat} {tpos : Pos}
def iEnum (K : PySem.W.Frag) (ta : TA) : TI := fun σ H R => ta σ H fun vs H1 => ∃ a xs, vs = [.ref a] ∧ SqT K H1 a xs ∧ R (ItE K a xs) H1
variable {σ : St} {H : Hp} {D : Ends} {g : TG} {tb : TS} {aa : TA}
theorem sqH : (tFor (iEnum K aa) g tb D σ H) = (aa σ H fun vs H1 => ∃ a xs, vs = [.ref a] ∧ SqT K H1 a xs ∧ LoopI (ItE K a xs) g tb D σ H1) := rfl
end
structure Zap (z TI TO i1 i2 l1 l2 : Addr) : Prop where
 a1 : TI ≠ z ∧ TO ≠ z ∧ i1 ≠ z ∧ i2 ≠ z ∧ l1 ≠ z ∧ l2 ≠ z
 a2 : TI ≠ TO ∧ TI ≠ i1 ∧ TI ≠ i2 ∧ TO ≠ i1 ∧ TO ≠ i2 ∧ i1 ≠ i2
 a3 : l1 ≠ TO ∧ l2 ≠ TO ∧ l1 ≠ i2 ∧ l2 ≠ i1
section
variable {prog : Program} {w : World} {A : Around} {E : Value → Shared → Prop} {s : Shared}
variable {z TI TO i1 i2 l1 l2 : Addr} {n1 n2 k : Nat} {P1 P2 : Nat → Value → Prop} {S1 S2 : Nat → Heap → Prop}
end
section
variable {prog : Program} {w : World} {A : Around} {E : Value → Shared → Prop} {s : Shared}
end
def ItZ (K : PySem.W.Frag) (a b : Addr) (xs ys : List V) : It := ItW (min xs.length ys.length) (fun H => SqT K H a xs ∧ SqT K H b ys) fun i _ vs => ∃ x y, xs[i]? = some x ∧ ys[i]? = some y ∧ vs = [x, y]
section
variable {X : Cx} {K : PySem.W.Frag} {elts : List Expr} {kk : Nat} {tpos : Pos}
def iZip (K : PySem.W.Frag) (ta : TA) : TI := fun σ H R => ta σ H fun vs H1 => ∃ a b xs ys, vs = [.ref a, .ref b] ∧ SqT K H1 a xs ∧ SqT K H1 b ys ∧ R (ItZ K a b xs ys) H1
variable {σ : St} {H : Hp} {D : Ends} {g : TG} {tb : TS} {aa : TA}
theorem sq4 : (tFor (iZip K aa) g tb D σ H) = (aa σ H fun vs H1 => ∃ a b xs ys, vs = [.ref a, .ref b] ∧ SqT K H1 a xs ∧ SqT K H1 b ys ∧ LoopI (ItZ K a b xs ys) g tb D σ H1) := rfl
variable {p : Addr} {fv : St} {tt : TT} {te : TE} {Q : VK} {H1 : Hp} {fr : List Nat}
theorem oq6 : (tComp2 K (iZip K aa) fr tt te σ H Q) = (aa σ H fun vs H1 => ∃ a b xs ys, vs = [.ref a, .ref b] ∧ SqT K H1 a xs ∧ SqT K H1 b ys ∧ ∀ p, H1 p = none → CompI2 K (ItZ K a b xs ys) p (frV σ fr) tt te Q H1) := rfl
end
section
variable {p : Addr} {fv : St} {tt : TT} {te : TE} {Q : VK} {H1 H : Hp} {fr : List Nat} {aa : TA} {σ : St}
theorem oqJ : (tComp (iRng1 aa) fr tt te σ H Q) = (aa σ H fun vs H1 => ∃ j : Int, vs = [.int j] ∧ -(2 ^ 62) ≤ j ∧ j < 2 ^ 62 ∧ ∀ p, H1 p = none → CompI (Itr 0 j.toNat) p (frV σ fr) tt te Q H1) := rfl
theorem iqA {n : Nat} (J : Nat → List V → Hp → Prop) (hlen : n ≤ sizeLine) (h0 : J 0 [] (upd H1 p (.lst [])))
  (he : ∀ (i : Nat) (ys : List V) (H2 : Hp) (T : VK), i < n → J i ys H2 → H2 p = some (.lst ys) → (∀ y H3, H3 p = some (.lst ys) → J (i + 1) (ys ++ [y]) (upd H3 p (.lst (ys ++ [y]))) → T y H3) → te (some (.int (0 + (i : Int))) :: fv) H2 T)
  (hQ : ∀ ys H2, J n ys H2 → H2 p = some (.lst ys) → Q (.ref p) H2) : CompI (Itr 0 n) p fv tYes te Q H1 := by
 refine ⟨fun i m ys H2 => m = n - i ∧ i ≤ n ∧ ys.length = i ∧ H2 p = some (.lst ys) ∧ J i ys H2, ⟨n, by simp, Nat.zero_le _, rfl, aqh, h0⟩, ?_⟩
 rintro i m ys H2 ⟨rfl, hi, hyl, hp2, hJ⟩
 refine ⟨hp2, ?_⟩
 by_cases hlt : i < n
 ·refine .inr ⟨hlt, by lia, fun x H3 y => ?_⟩
  obtain ⟨rfl, rfl⟩ := y
  unfold tYes
  dsimp only
  rw [if_pos rfl]
  exact he i ys _ _ hlt hJ hp2 fun y H5 hp5 hJ5 => ⟨hp5, n - (i + 1), by lia, rfl, hlt, by rw [List.length_append, hyl]; rfl, aqh, hJ5⟩
 ·have e : i = n := by lia
  subst e
  exact .inl ⟨Nat.le_refl _, hQ ys H2 hJ hp2⟩
end
section
variable {prog : Program} {w : World} {A : Around} {E : Value → Shared → Prop} {s : Shared}
end
def ItZL (K : PySem.W.Frag) (a b : Addr) (xs ys : List V) : It := ItW (min xs.length ys.length) (fun H => SqL K H a xs ∧ SqL K H b ys) fun i _ vs => ∃ x y, xs[i]? = some x ∧ ys[i]? = some y ∧ vs = [x, y]
section
variable {X : Cx} {K : PySem.W.Frag} {elts : List Expr} {kk : Nat} {tpos : Pos}
def iZipL (K : PySem.W.Frag) (ta : TA) : TI := fun σ H R => ta σ H fun vs H1 => ∃ a b xs ys, vs = [.ref a, .ref b] ∧ SqL K H1 a xs ∧ SqL K H1 b ys ∧ R (ItZL K a b xs ys) H1
variable {σ : St} {H : Hp} {D : Ends} {g : TG} {tb : TS} {aa : TA}
theorem qqW : (tFor (iZipL K aa) g tb D σ H) = (aa σ H fun vs H1 => ∃ a b xs ys, vs = [.ref a, .ref b] ∧ SqL K H1 a xs ∧ SqL K H1 b ys ∧ LoopI (ItZL K a b xs ys) g tb D σ H1) := rfl
variable {p : Addr} {fv : St} {tt : TT} {te : TE} {Q : VK} {H1 : Hp} {fr : List Nat}
theorem nqq : (tComp2 K (iZipL K aa) fr tt te σ H Q) = (aa σ H fun vs H1 => ∃ a b xs ys, vs = [.ref a, .ref b] ∧ SqL K H1 a xs ∧ SqL K H1 b ys ∧ ∀ p, H1 p = none → CompI2 K (ItZL K a b xs ys) p (frV σ fr) tt te Q H1) := rfl
end
section
variable {K : PySem.W.Frag} {p : Addr} {fv : St} {te : TE} {Q : VK} {H1 : Hp}
end
section
variable {prog : Program} {w : World} {A : Around} {E : Value → Shared → Prop} {s : Shared}
end
def ItEL (K : PySem.W.Frag) (a : Addr) (xs : List V) : It := ItW xs.length (fun H => SqL K H a xs) fun i _ ys => ∃ v, xs[i]? = some v ∧ ys = [.int (i : Int), v]
section
variable {X : Cx} {K : PySem.W.Frag} {elts : List Expr} {kk : Nat} {tpos : Pos}
def iEnumL (K : PySem.W.Frag) (ta : TA) : TI := fun σ H R => ta σ H fun vs H1 => ∃ a xs, vs = [.ref a] ∧ SqL K H1 a xs ∧ R (ItEL K a xs) H1
variable {σ : St} {H : Hp} {D : Ends} {g : TG} {tb : TS} {aa : TA}
theorem pq1 : (tFor (iEnumL K aa) g tb D σ H) = (aa σ H fun vs H1 => ∃ a xs, vs = [.ref a] ∧ SqL K H1 a xs ∧ LoopI (ItEL K a xs) g tb D σ H1) := rfl
variable {p : Addr} {fv : St} {tt : TT} {te : TE} {Q : VK} {H1 : Hp} {fr : List Nat}
theorem nqO : (tComp2 K (iEnumL K aa) fr tt te σ H Q) = (aa σ H fun vs H1 => ∃ a xs, vs = [.ref a] ∧ SqL K H1 a xs ∧ ∀ p, H1 p = none → CompI2 K (ItEL K a xs) p (frV σ fr) tt te Q H1) := rfl
theorem nqu : (tComp2 K (iEnum K aa) fr tt te σ H Q) = (aa σ H fun vs H1 => ∃ a xs, vs = [.ref a] ∧ SqT K H1 a xs ∧ ∀ p, H1 p = none → CompI2 K (ItE K a xs) p (frV σ fr) tt te Q H1) := rfl
end
end L2
namespace L2
open PySem PySem.Spec PySem.W PyProof.Rows
def SameD (h h' : Heap) : Prop := ∀ (b : Nat) (o : Obj), h.objs[b]? = some o → ∃ o', h'.objs[b]? = some o' ∧ o'.dict = o.dict
theorem SameD.refl (h : Heap) : SameD h h := fun _ o e => ⟨o, e, rfl⟩
theorem SameD.trans {a b c : Heap} (x : SameD a b) (y : SameD b c) : SameD a c := fun d o e => by
 obtain ⟨o1, e1, q1⟩ := x d o e
 obtain ⟨o2, e2, q2⟩ := y d o1 e1
 exact ⟨o2, e2, q2.trans q1⟩
theorem SameD.push (h : Heap) (o : Obj) : SameD h (h.push o) := fun b u e => by
 refine ⟨u, ?_, rfl⟩
 have hb : b < h.objs.size := (Array.getElem?_eq_some_iff.mp e).1
 show (h.objs.push o)[b]? = some u
 rw [Array.getElem?_push, if_neg (Nat.ne_of_lt hb)]
 exact e
theorem SameD.upd (h : Heap) (a : Addr) {f : Obj → Obj} (hf : ∀ o, (f o).dict = o.dict) : SameD h (h.update a f) := fun b u e => by
 show ∃ o', (h.objs.modify a f)[b]? = some o' ∧ _
 rw [Array.getElem?_modify]
 by_cases q : a = b
 ·rw [if_pos q, e]; exact ⟨f u, rfl, hf u⟩
 ·rw [if_neg q, e]; exact ⟨u, rfl, rfl⟩
theorem SameD.get {h h' : Heap} (x : SameD h h') {b : Addr} {o o' : Obj} (e : h.get? b = some o) (e' : h'.get? b = some o') : o'.dict = o.dict := by
 obtain ⟨o1, q, r⟩ := x b o (Heap.get?_some_iff.mp e).1
 have := (Heap.get?_some_iff.mp e').1
 rw [q] at this
 cases this
 exact r
def kd {α : Type} : Sem α → Prop
 | .pure _ => True
 | .raise _ => False
 | .unsupported _ => True
 | .finish _ => True
 | .rule _ k => kd (k ())
 | .at _ k => kd (k ())
 | .load _ _ k => ∀ o, kd (k o)
 | .update _ _ f k => (∀ o, (f o).dict = o.dict) ∧ kd (k ())
 | .alloc _ k => ∀ a, kd (k a)
 | .loadIfAlive _ k => ∀ o, kd (k o)
 | .point _ k => kd (k ())
 | .register _ _ => True
 | .fresh k => ∀ t, kd (k t)
 | .ask k => ∀ t, kd (k t)
 | .choose _ _ k => ∀ t, kd (k t)
 | .os _ _ _ => False
 | .call _ _ _ _ _ => False
 | .handled _ k => ∀ t, kd (k t)
 | .newGen _ _ => False
 | .genState _ _ => False
 | .resume _ _ _ _ => False
 | .yield _ _ _ _ => True
 | .stack k => ∀ t, kd (k t)
 | .fork _ _ => True
 | .thread k => ∀ t, kd (k t)
 | .await _ _ _ _ _ => True
theorem aqZ {α β : Type} {m : Sem α} {f : α → Sem β} (a : kd m) (b : ∀ x, kd (f x)) : kd (m >>= f) := by
 show kd (Sem.bind m f)
 induction m with
 | pure x => exact b x
 | raise _ => exact a.elim
 | unsupported _ => exact True.intro
 | finish _ => exact True.intro
 | rule _ k ih => exact ih () a
 | «at» _ k ih => exact ih () a
 | load _ _ k ih => exact fun o => ih o (a o)
 | update _ _ g k ih => exact ⟨a.1, ih () a.2⟩
 | alloc _ k ih => exact fun o => ih o (a o)
 | loadIfAlive _ k ih => exact fun o => ih o (a o)
 | point _ k ih => exact ih () a
 | register _ k ih => exact True.intro
 | fresh k ih => exact fun o => ih o (a o)
 | ask k ih => exact fun o => ih o (a o)
 | choose _ _ k ih => exact fun o => ih o (a o)
 | os _ _ k ih => exact a.elim
 | call _ _ _ _ k ih => exact a.elim
 | handled _ k ih => exact fun o => ih o (a o)
 | newGen _ k ih => exact a.elim
 | genState _ k ih => exact a.elim
 | resume _ _ _ k ih => exact a.elim
 | yield _ _ _ k ih => exact True.intro
 | stack k ih => exact fun o => ih o (a o)
 | fork _ k ih => exact True.intro
 | thread k ih => exact fun o => ih o (a o)
 | await _ _ _ _ k ih => exact True.intro
theorem vqA {α : Type} {M : Model} {Γ : PySem.Ctx} (t : Sem α) : ∀ {Q : α → Pos → Shared → Prop} {E : Value → Pos → Shared → Prop} {p : Pos} {s : Shared}, kd t → Sem.wp M Γ t Q E p s →
  Sem.wp M Γ t (fun a p' s' => Q a p' s' ∧ SameD s.heap s'.heap) (fun _ _ _ => False) p s := by
 induction t with
 | pure x => intro Q E p s _ h; exact ⟨h, .refl _⟩
 | raise _ => intro Q E p s a h; exact a.elim
 | unsupported _ => intro Q E p s _ h; exact h.elim
 | finish _ => intro Q E p s _ h; exact h.elim
 | rule _ k ih => intro Q E p s a h; exact ih () a h
 | «at» _ k ih => intro Q E p s a h; exact ih () a h
 | load _ _ k ih => intro Q E p s a h; obtain ⟨o, e, h⟩ := h; exact ⟨o, e, ih o (a o) h⟩
 | update x _ g k ih =>
  intro Q E p s a h
  obtain ⟨e, h⟩ := h
  exact ⟨e, Sem.wp_mono M Γ (k ()) (fun _ _ _ z => ⟨z.1, (SameD.upd _ _ a.1).trans z.2⟩) (fun _ _ _ z => z) _ _ (ih () a.2 h)⟩
 | alloc o k ih => intro Q E p s a h; exact Sem.wp_mono M Γ (k _) (fun _ _ _ z => ⟨z.1, (SameD.push _ _).trans z.2⟩) (fun _ _ _ z => z) _ _ (ih _ (a _) h)
 | loadIfAlive _ k ih => intro Q E p s a h; exact ih _ (a _) h
 | point _ k ih => intro Q E p s a h; exact ih () a h
 | register _ k ih => intro Q E p s _ h; exact h.elim
 | fresh k ih => intro Q E p s a h; exact ih _ (a _) h
 | ask k ih => intro Q E p s a h; exact ih _ (a _) h
 | choose _ _ k ih => intro Q E p s a h; exact ⟨h.1, ih _ (a _) h.2⟩
 | os _ _ k ih => intro Q E p s a h; exact a.elim
 | call _ _ _ _ k ih => intro Q E p s a h; exact a.elim
 | handled _ k ih => intro Q E p s a h; exact ih _ (a _) h
 | newGen _ k ih => intro Q E p s a h; exact a.elim
 | genState _ k ih => intro Q E p s a h; exact a.elim
 | resume _ _ _ k ih => intro Q E p s a h; exact a.elim
 | yield _ _ _ k ih => intro Q E p s a h; exact h.elim
 | stack k ih => intro Q E p s a h; exact ih _ (a _) h
 | fork _ k ih => intro Q E p s a h; exact h.elim
 | thread k ih => intro Q E p s a h; exact ih _ (a _) h
 | await _ _ _ _ k ih => intro Q E p s a h; exact h.elim
theorem fqj {α : Type} {M : Model} {A : Around} {t : Sem α} {Q : α → Shared → Prop} {E : Value → Shared → Prop} {s : Shared} (k : kd t) (h : wpAny M A t Q E s) : wpAny M A t (fun a s' => Q a s' ∧ SameD s.heap s'.heap) (fun _ _ => False) s :=
 fun Γ p hΓ => vqA t k (h Γ p hΓ)
theorem mqs (v : Value) : kd (fieldsOf v) := by
 cases v <;> first | exact True.intro | (refine aqZ (fun _ => True.intro) fun o => ?_; split <;> exact True.intro)
theorem hqG (v : Value) (i : Nat) : kd (field v i) := by
 refine aqZ (mqs v) fun x => ?_
 split <;> exact True.intro
theorem fqK (v : Value) (i : Nat) (x : Value) : kd (setField v i x) := by
 cases v <;> first | exact True.intro | skip
 refine aqZ (fun _ => True.intro) fun o => ?_
 split
 ·split
  ·refine ⟨fun o => ?_, True.intro⟩
   unfold Obj.mapFields
   first | rfl | (split <;> rfl) | (cases o; rename_i d _; cases d <;> rfl)
  ·exact True.intro
 ·exact True.intro
theorem eqZ (e : Value) (f : Option Addr) : kd (setFlight e f) := by
 refine aqZ (hqG e 1) fun tb => ?_
 try dsimp only
 split
 ·exact fqK _ _ _
 ·exact True.intro
theorem fqz : ∀ l : List Env, kd (readyFrames l)
 | [] => True.intro
 | env :: outer => by
  unfold readyFrames
  split
  ·refine aqZ (fun _ => True.intro) fun o => ?_
   try dsimp only
   split
   ·exact True.intro
   ·refine aqZ ?_ fun im => ?_
    ·unfold behindIsImport
     try dsimp only
     split
     ·exact True.intro
     ·split
      ·exact True.intro
      ·exact aqZ (hqG _ _) fun _ => True.intro
    ·refine aqZ ?_ fun bk => ?_
     ·unfold keptBack
      split
      ·split
       ·exact True.intro
       ·exact aqZ (aqZ (fun _ => True.intro) fun _ => True.intro) fun _ => by split <;> exact True.intro
      ·exact True.intro
     ·exact aqZ ⟨fun _ => rfl, True.intro⟩ fun _ => fqz outer
  ·exact True.intro
theorem nqY (env : Env) : kd (PySem.frameOf env) := by
 unfold PySem.frameOf
 refine aqZ (aqZ (fun _ => True.intro) fun _ => True.intro) fun l => aqZ ?_ fun r => ?_
 ·unfold frameObject
  split
  ·exact True.intro
  ·exact aqZ (fqz _) fun _ => True.intro
 ·split <;> exact True.intro
theorem kq9 (ty : String) (vs : List Value) : kd (newFields ty vs) := by
 unfold newFields newObj newObjAsIs
 try dsimp only
 split
 ·exact True.intro
 ·exact fun _ => True.intro
theorem gqZ (e : Value) (env : Env) : kd (noteFrame e env) := by
 unfold noteFrame
 split
 ·refine aqZ (hqG e 1) fun hd => ?_
  try dsimp only
  have rest : ∀ (x : Unit) (f : Addr) (hd : Value), kd (do setField e 1 (← EntryCells.newEntry hd (← PySem.frameOf env) .none (rawInt f) .none (← entryPlaceOf f (hd != .none))) : Sem Unit) := fun _ f hd => by
   refine aqZ (nqY env) fun _ => aqZ ?_ fun _ => aqZ ?_ fun _ => fqK _ _ _
   ·unfold entryPlaceOf
    refine aqZ (fun _ => True.intro) fun acts => ?_
    split <;> exact True.intro
   ·unfold EntryCells.newEntry
    exact kq9 _ _
  split
  ·refine aqZ (hqG _ _) fun g => ?_
   try dsimp only
   split
   ·exact True.intro
   ·exact aqZ (fqK _ _ _) fun _ => rest () _ _
  ·exact rest () _ _
 ·exact True.intro
theorem gqP (env : Env) (e : Value) : kd (leaving env e) := aqZ (gqZ e env) fun _ => eqZ e none
end L2
namespace L2
open PySem PySem.Spec PySem.W PySem.Calls PyProof.Rows PySem.Builtin PySem.Builtin.ObjectAttr
def errTail : List Value → Bool
 | .ref _ :: r => errTail r
 | l => l == vErr
theorem jqk (self : Value) : ∀ {l : List Value}, errTail l = true → refuseLoop self "__setattr__" l = pure ()
 | [], e => by cases e
 | v :: r, e => by
  cases v <;> first | (rw [refuseLoop_ref]; exact jqk self (by unfold errTail at e; exact e)) | (rw [show (_ :: r) = vErr from beq_iff_eq.mp e]; exact PySem.F.store_ValueError.passes self)
theorem oq4 : ∀ {l : List Value}, errTail l = true → l.contains (.type "object") = true
 | [], e => by cases e
 | v :: r, e => by
  cases v <;> first | (rw [List.contains_cons, oq4 (l := r) (by unfold errTail at e; exact e), Bool.or_true]) | (rw [show (_ :: r) = vErr from beq_iff_eq.mp e]; decide +kernel)
def overErr (K : Frag) (C : Addr) : Bool := (clsIn K C).any fun cd => errTail cd.mro
section
variable {prog : Program} {w : World} {A : Around} {E : Value → Shared → Prop} {s : Shared} {K : Frag} {x C : Addr} {name : Str} {v : Value} {ox : Obj} {od : Option Obj}
theorem sql {tk : Tok} {R : Result → Shared → Prop} (X : K.In s.heap) (I : PySem.W.InstAt s.heap x ox C od) (hp : overErr K C = true) (ht : takerIn K C name = some none)
  (h : ∀ b, wpAny (model prog w) A.in1 (storeInOwnDict (.ref x) (.ref C) (.str name tk) name v b)
   (fun fin s' => match fin with | .done f => R (.ok f) s' | .again c' => c'.quiet = true ∧ codeAny (model prog w) A c' R s') (fun e s' => R (.error e) s') s) :
  codeAny (model prog w) A (.call (.builtin "object.__setattr__") ⟨[.ref x, .str name tk, v], []⟩) R s := by
 have SF := PySem.F.store_object
 obtain ⟨cd, hc, ho⟩ := any_some hp
 have ne : cd.mro.isEmpty = false := by cases q : cd.mro with | nil => rw [q] at ho; cases ho | cons _ _ => rfl
 have sub : Looks (model prog w) s.heap (isInstance (.ref x) (.type "object")) true := I.type.andThen (looks_mroIn X (by unfold mroIn; rw [hc, Option.bind_some, if_neg (by rw [ne]; decide), oq4 ho]))
 refine codeAny_call_builtin SF.slot.plain SF.entry (@check_slot (model prog w) _ _ s "object.__setattr__" "object" "__setattr__" (.ref x) [.str name tk, v] [] _ SF.kind SF.split sub (SF.args (.ref x) (.str name tk) v) ?_)
 obtain ⟨attr, ha, hr⟩ := Option.bind_eq_some_iff.mp ht
 have hm : Looks (model prog w) s.heap (mroOf (.ref C)) cd.mro := (looks_clsIn X hc).andThen .now
 have L3 : Looks (model prog w) s.heap (storeTaker? attr) none := by
  cases attr with
  | none => exact .now
  | some a =>
   obtain ⟨b, hb, hbn⟩ := Option.map_eq_some_iff.mp hr
   refine (looks_takesIn X hb).andThen ?_
   cases b with
   | true => cases hbn
   | false => exact .now
 rw [osa_eq, refuse_eq]
 refine wpAny_bind (wpAny_bind (I.type.here (wpAny_bind (hm.here ?_))))
 rw [jqk _ ho]
 refine wpAny_pure (wpAny_bind (I.type.here (wpAny_bind ((looks_findIn X ha).here (wpAny_bind (L3.here ?_))))))
 exact h _
theorem sqM {Q : Unit → Shared → Prop} (X : K.In s.heap) (hx : s.heap.get? x = some ox) (hc : ox.cls = .ref C) (hd : ox.dict = none) (hn : notCls ox = true)
  (hs : findIn K (.ref C) "__setattr__" = some (some (.builtin "object.__setattr__"))) (hp : overErr K C = true) (ht : takerIn K C name = some none) (hh : hasDictIn K C = true)
  (h : ∀ h' tk, h'.get? x = some { ox with dict := some s.heap.objs.size } → h'.Ns1 s.heap.objs.size (fun y => if y = name then some v else none) → (∀ b o, b ≠ x → s.heap.get? b = some o → h'.get? b = some o) → Q () { s with heap := h', toks := tk }) :
  wpAny (model prog w) A (setAttr (.ref x) name v) Q E s := by
 have J : PySem.W.InstAt s.heap x ox C none := ⟨hx, hc, hn, by rw [hd]; exact True.intro⟩
 refine PySem.W.set_plain X J hs (sql (s := { s with toks := s.toks + 1 }) X J hp ht fun b => ?_)
 obtain ⟨cd, hcd, hd'⟩ := any_some hh
 obtain ⟨oc, odi, oda, osl⟩ := ox
 dsimp only at hc hd
 subst hc hd
 refine wpAny_bind (wpAny_pure (wpAny_bind (wpAny_bind (wpAny_loadPart hx (wpAny_bind (Looks.here (s := { s with toks := s.toks + 1 }) (looks_clsIn X hcd) ?_))))))
 rw [hd']
 have nc : ∀ c, oda ≠ .cls c := fun c q => by subst q; cases hn
 have hx₁ : (s.heap.push { cls := .type "dict", data := .dict #[] }).get? x = some ⟨.ref C, none, oda, osl⟩ := Heap.get?_push_of_some _ hx
 have hxs : x ≠ s.heap.objs.size := Nat.ne_of_lt (Heap.lt_size hx)
 have hgd : ((s.heap.push { cls := .type "dict", data := .dict #[] }).update x fun o => { o with dict := some s.heap.objs.size }).get? s.heap.objs.size = some { cls := .type "dict", data := .dict #[] } :=
  (Heap.get?_update_ne _ _ _ _ hxs.symm).trans (Heap.get?_push_at rfl rfl)
 have hnd : ((s.heap.push { cls := .type "dict", data := .dict #[] }).update x fun o => { o with dict := some s.heap.objs.size }).Ns s.heap.objs.size (fun _ => none) :=
  ⟨_, #[], _, hgd, rfl, fun e he => absurd he (by simp), fun _ => rfl⟩
 have fin : wpAny (model prog w) A.in1 (storeInDict s.heap.objs.size (.str name (s.toks)) name v)
   (fun fin s' => match fin with | .done f => (match (Except.ok f : Result) with | .ok (.ret _) => Q () s' | .ok _ => False | .error e => E e s') | .again c' => c'.quiet = true ∧ codeAny (model prog w) A c' (fun r s' => match r with | .ok (.ret _) => Q () s' | .ok _ => False | .error e => E e s') s') (fun e s' => E e s')
   { s with heap := ((s.heap.push { cls := .type "dict", data := .dict #[] }).update x fun o => { o with dict := some s.heap.objs.size }), toks := s.toks + 1 } := by
  unfold storeInDict newKeyGuard
  refine wpAny_bind (wpAny_pure (wpAny_bind (wpAny_nsSet1 (s := { s with heap := ((s.heap.push { cls := .type "dict", data := .dict #[] }).update x fun o => { o with dict := some s.heap.objs.size }), toks := s.toks + 1 }) (Heap.Ns1.of_empty hnd) fun h' hn' hs' => ?_)))
  obtain ⟨oD, esD, epD, hoD, hdD, hcD⟩ := hn'.count (Within.cons name v Within.nil)
  refine wpAny_bind (wpAny_lookBehind hoD (by rw [hdD]; exact pastItsLine_dict (Nat.le_trans hcD (by rw [List.length_cons, List.length_nil, sizeLine_eq]; lia))) ?_)
  refine wpAny_pure (h h' _ ?_ hn' fun b o hb e => ?_)
  ·refine (hs'.2 x hxs).trans (Heap.get?_update_self _ hx₁ ?_)
   have hfr := (Heap.get?_some_iff.mp hx).2
   cases oda <;> first | rfl | exact hfr
  ·exact (hs'.2 b (Nat.ne_of_lt (Heap.lt_size e))).trans ((Heap.get?_update_ne _ _ _ _ hb).trans (Heap.get?_push_of_some _ e))
 cases oda <;> first | exact absurd rfl (nc _) | exact wpAny_bind (wpAny_alloc' (wpAny_bind (wpAny_update' hx₁ (wpAny_pure fin))))
end
end L2
namespace L2
open PySem PySem.Spec PySem.W PySem.Calls PyProof.Rows
theorem sqs {K : Frag} {h : Heap} {N : Addr} {m : Str → Option Value} {n : Str} {v : Value} (X : K.In h) (G : h.Ns N m) (e : nsIn K N n = some (some v)) : m n = some v := by
 obtain ⟨o, es, ep, ho, hd, _, hf⟩ := G
 unfold nsIn at e
 split at e
 ·next q =>
  have := X _ _ q
  rw [ho] at this
  cases this
  cases hd
  split at e
  ·next he =>
   cases e
   rw [← hf]
   unfold nsFind findBy
   rw [← Array.find?_toList, he]
   rfl
  ·split at e <;> cases e
 ·cases e
abbrev newExc (C t : Addr) : Obj := { cls := .ref C, data := .fields #[.ref t, .none, .none, .none, .bool false, .none] }
abbrev newTup (vs : List Value) : Obj := { cls := .type "tuple", data := .seq vs.toArray }
section
variable {prog : Program} {w : World} {A : Around} {E : Value → Shared → Prop} {h : Heap} {g : Array GenState} {d : Drawn} {t : Nat} {os : OsState}
variable {nm q : Str} {C N : Addr} {bs bm bmB : List Value} {hdct : Bool} {sn : List Str} {sub : List Value} {ab : Bool} {col : Option Bool} {dd : Option Addr} {k0 k1 k2 k3 k5 : Option Value} {B newId initId : String}
theorem jqd (F : ExcBaseFacts B newId initId bmB) (T : OwnTail h bmB bm) {mN : Str → Option Value} {rest : List Value} {fI : Addr} {oI : Obj} {Q : Fin → Shared → Prop}
  (hC : h.get? C = some (excClassObj nm q C N bs bm hdct sn sub ab col dd k0 k1 k2 k3 k5 newId)) (hn : h.Ns N mN) (hi : mN "__init__" = some (.ref fI))
  (hfI : h.get? fI = some oI) (hfc : oI.cls = .type "function")
  (hq : wpAny (model prog w) A (call (.ref fI) (.ref (h.objs.size + 1) :: rest)) (fun r s' => r = .none ∧ Q (.done (.ret (.ref (h.objs.size + 1)))) s') E ⟨(h.push (newTup rest)).push (newExc C h.objs.size), g, d, t, os⟩) (hrest : rest.length ≤ sizeLine) :
  wpAny (model prog w) A (Builtin.«type.__call__» ⟨.ref C :: rest, []⟩) Q E ⟨h, g, d, t, os⟩ := by
 repeat (first | with_reducible refine wpAny_loadPart_at hC ?_ | with_reducible refine wpAny_madeBy_exc hC ?_ | wp_step)
 refine codeAny_call_builtin_code (Code.quiet_builtin _ F.quiet) (wpAny_check_new_subU F F.hasB T hC ?_)
 refine codeAny_exc_new_subU F F.hasB F T hC ?_ hrest
 show wpAny _ _ _ _ _ _
 have kp : ∀ b o, h.get? b = some o → ((h.push (newTup rest)).push (newExc C h.objs.size)).get? b = some o := fun b o e => Heap.get?_push_of_some _ (Heap.get?_push_of_some _ e)
 have hC₁ := kp _ _ hC
 have hfI₁ := kp _ _ hfI
 have hn₁ : ((h.push (newTup rest)).push (newExc C h.objs.size)).Ns N mN := hn.keeps kp
 have hget : ((h.push (newTup rest)).push (newExc C h.objs.size)).get? (h.objs.size + 1) = some (newExc C h.objs.size) := by heap_get
 have hcC : (Value.ref C :: bm).contains (.ref C) = true := by simp
 have T₁ := T.keeps kp
 unfold isInstance
 repeat (first | with_reducible refine wpAny_loadPart_at hget ?_ | (with_reducible refine wpAny_isSubtype_exc hC₁ ?_; rw [hcC]) | wp_step)
 show wpAny _ _ (typeLookup (.ref C) _) _ _ _
 refine wpAny_typeLookup_tail hC₁ hn₁ T₁ F.mroIs F.init.lookup ?_
 rw [hi]
 refine wpAny_holding (wpAny_bind ?_)
 unfold bindSpecial
 refine wpAny_bind (wpAny_typeOf (T := "function") ⟨_, hfI₁, hfc⟩ ?_)
 rw [if_pos (by decide)]
 refine wpAny_pure (wpAny_bind (wpAny_mono hq (fun r s' hr => ?_) fun _ _ x => x))
 obtain ⟨rfl, hQ⟩ := hr
 wp_walk
 exact hQ
theorem pqh (F : ExcBaseFacts B newId initId bmB) (T : OwnTail h bmB bm) {mN : Str → Option Value} {rest : List Value} {fI : Addr} {oI : Obj} {Q : Value → Shared → Prop}
  (hC : h.get? C = some (excClassObj nm q C N bs bm hdct sn sub ab col dd k0 k1 k2 k3 k5 newId)) (hn : h.Ns N mN) (hi : mN "__init__" = some (.ref fI))
  (hfI : h.get? fI = some oI) (hfc : oI.cls = .type "function")
  (hq : wpAny (model prog w) (A.under (.builtin "type.__call__" ⟨.ref C :: rest, []⟩)) (call (.ref fI) (.ref (h.objs.size + 1) :: rest)) (fun r s' => r = .none ∧ Q (.ref (h.objs.size + 1)) s') E ⟨(h.push (newTup rest)).push (newExc C h.objs.size), g, d, t, os⟩) (hrest : rest.length ≤ sizeLine) :
  wpAny (model prog w) A (call (.ref C) rest) Q E ⟨h, g, d, t, os⟩ := by
 have f1 := tc_lookup
 have f2 := tc_bind (.ref C)
 have hT : (⟨h, g, d, t, os⟩ : Shared).TypeIs (.ref C) "type" := ⟨_, hC, rfl⟩
 refine wpAny_call (codeAny_of_tree ?_)
 show wpAny _ _ (callAny (.ref C) _) _ _ _
 repeat (any_goals (first | assumption | with_reducible refine wpAny_loadPart_at hC ?_ | wp_step))
 refine ⟨rfl, ?_⟩
 exact codeAny_call_builtin_at (Code.quiet_builtin _ (by decide +kernel)) entry_typeCall (wpAny_check_type_call_sub hC (jqd (hrest := hrest) F T hC hn hi hfI hfc hq))
theorem kqA {M : Model} {s : Shared} {env : Env} {x : Sem Value} {Q : Flow → Shared → Prop} (hbase : bm.contains (.type "BaseException") = true) (hh : A.handled = none)
  (h : wpAny M A x (fun v s₁ => ∃ e t dx sl, v = .ref e ∧ s₁.heap.get? C = some (excClassObj nm q C N bs bm hdct sn sub ab col dd k0 k1 k2 k3 k5 newId) ∧
   s₁.heap.get? e = some ⟨.ref C, dx, .fields #[.ref t, .none, .none, .none, .bool false, .none], sl⟩ ∧ E (.ref e) s₁) E s) :
  wpAny M A (raiseStmt env (some x) none) Q E s := by
 have hcB : (Value.ref C :: bm).contains (.type "BaseException") = true := by rw [List.contains_cons, hbase, Bool.or_true]
 unfold raiseStmt
 refine wpAny_bind (wpAny_mono h (fun v s₁ h₁ => ?_) fun _ _ x => x)
 obtain ⟨e, t, dx, sl, rfl, hC, he, hE⟩ := h₁
 obtain ⟨hp, g, d, tk, os⟩ := s₁
 repeat (first | with_reducible refine wpAny_loadPart_at he ?_ | with_reducible refine wpAny_loadPart_at hC ?_ | (with_reducible refine wpAny_isSubtype_exc hC ?_; rw [hcB]) | wp_step)
 exact wpAny_raiseNew_none hh hE
end
def exNew (e C : Addr) : HO := .ext fun h => ∃ t sl, h.get? e = some ⟨.ref C, none, .fields #[.ref t, .none, .none, .none, .bool false, .none], sl⟩
def exSet (e C d : Addr) : HO := .ext fun h => ∃ t sl, h.get? e = some ⟨.ref C, some d, .fields #[.ref t, .none, .none, .none, .bool false, .none], sl⟩
def exC (a C : Addr) (d : Option Addr) : HO := .ext fun h => ∃ o, h.get? a = some o ∧ o.cls = .ref C ∧ (∀ x, d = some x → o.dict = some x) ∧ notCls o = true
structure ExSt (K : Frag) (C : Addr) (f : Str) : Prop where
 sa : findIn K (.ref C) "__setattr__" = some (some (.builtin "object.__setattr__"))
 po : overErr K C = true
 na : findIn K (.ref C) f = some none
 hd : hasDictIn K C = true
def sFldE (K : Frag) (ta tv : TE) (f : Str) : TS := fun D σ H => tv σ H fun y H1 => ta σ H1 fun x H2 => ∃ a C, x = .ref a ∧ H2 a = some (exNew a C) ∧ ExSt K C f ∧ ∀ d, H2 d = none → D.nx σ (upd (upd H2 a (exSet a C d)) d (.xd [(f, y)]))
section
variable {X : Cx} {ta tv : TE} {o value : Expr} {f : Str} {pos pos' : Pos}
theorem rq5 (ha : PE X o ta) (hv : PE X value tv) (hs : swapsWith value (some (.Attribute o f pos')) pos.line X.env = pure false) : PS X (.Assign [.Attribute o f pos'] value pos) (sFldE X.K ta tv f) := by
 intro pins s σ H D I h
 refine plainObj_wpAny_Assign_Attribute (thn (hv pins s σ H _ I h) fun u s1 ⟨y, H1, I1, ry, q⟩ => thn (ha pins s1 σ H1 _ I1 q) fun ov s2 W' => ?_) hs
 obtain ⟨x, H2, I2, rx, a, C, ex, ea, c, q2⟩ := W'
 subst ex
 obtain rfl : ov = Value.ref a := rx
 obtain ⟨⟨t, sl, hx⟩, _, _⟩ := I2.hok a _ ea
 refine sqM I2.kIn hx rfl rfl rfl c.sa c.po (NoAttr.taker (show NoAttr X.K C f from c.na)) c.hd fun h' tk e1 e2 e3 => ?_
 have hd : H2 s2.heap.objs.size = none := I2.hok.fresh (Nat.le_refl _)
 have na : ∀ b u, H2 b = some u → u ≠ exNew a C → b ≠ a := fun b u q n z => by subst z; rw [ea] at q; exact n (Option.some.inj q).symm
 have nd : ∀ b u, s2.heap.get? b = some u → b ≠ s2.heap.objs.size := fun b u q => Nat.ne_of_lt (Heap.lt_size q)
 have nf : ∀ b, H2 b = none → b ≠ a := fun b q z => by subst z; rw [ea] at q; cases q
 have ndh : ∀ b u, H2 b = some u → b ≠ s2.heap.objs.size := fun b u q => aqq q hd
 refine ⟨σ, upd (upd H2 a (exSet a C s2.heap.objs.size)) s2.heap.objs.size (.xd [(f, y)]), I2.un (t' := tk) ⟨fun b ob q n _ _ => e3 b ob (nf b n) q, fun b ob q n _ _ => ⟨ob.slots, e3 b ob (nf b n) q⟩, fun b ob q n _ => ?_, fun b ob q _ => ?_, fun b xs q => ?_, fun b ob u q => ?_, fun b ps q => ?_⟩ (fun b u q => ?_), q2 _ hd⟩
 ·rw [aqt (nd b ob q), aqt (nf b n)]; exact n
 ·by_cases z : b = a
  ·subst z; exact ⟨_, e1⟩
  ·exact ⟨ob, e3 b ob z q⟩
 ·rw [aqt (ndh b _ q), aqt (na b _ q (by intro z; cases z))]; exact q
 ·rw [aqt (ndh b _ q), aqt (na b _ q (by intro z; cases z))]; exact q
 ·exact ⟨#[], by rw [aqt (ndh b _ q), aqt (na b _ q (by intro z; cases z)), Array.append_empty]; exact q⟩
 ·by_cases zd : b = s2.heap.objs.size
  ·subst zd
   rw [aqh] at q
   cases q
   refine ⟨_, e2, fun g => ?_⟩
   by_cases z : g = f
   ·subst z
    rw [if_pos rfl]
    simp only [List.lookup, beq_self_eq_true]
    exact ry
   ·rw [if_neg z]
    simp only [List.lookup, beq_eq_false_iff_ne.mpr z]
    exact True.intro
  ·rw [aqt zd] at q
   by_cases za : b = a
   ·subst za
    rw [aqh] at q
    cases q
    exact ⟨⟨t, sl, e1⟩, ⟨_, e1⟩, fun h1 h2 ⟨t, sl, z⟩ k => ⟨t, sl, k _ z⟩⟩
   ·rw [aqt za] at q
    refine (I2.hok b u q).stay (fun c v hc z => e3 c v ?_ z) (fun c z => ?_) fun c xs z => ?_
    ·rcases hc with rfl | hc
     ·exact za
     ·exact na c _ hc (by intro z; cases z)
    ·rw [aqt (ndh c _ z), aqt (na c _ z (by intro z; cases z))]; exact z
    ·rw [aqt (ndh c _ z), aqt (na c _ z (by intro z; cases z))]; exact z
theorem sqp {K : Frag} {D : Ends} {σ : St} {H : Hp} : (sFldE K ta tv f D σ H) = (tv σ H fun y H1 => ta σ H1 fun x H2 => ∃ a C, x = .ref a ∧ H2 a = some (exNew a C) ∧ ExSt K C f ∧ ∀ d, H2 d = none → D.nx σ (upd (upd H2 a (exSet a C d)) d (.xd [(f, y)]))) := rfl
end
def forget (H : Hp) (a : Addr) : Hp := fun b => if b = a then none else H b
theorem lqS {H : Hp} {a : Addr} : forget H a a = none := if_pos rfl
theorem cqd {H : Hp} {a b : Addr} (h : b ≠ a) : forget H a b = H b := if_neg h
structure FlownN (P : Program) (w : World) (base : Heap) (outer : List Env) (H : Hp) (s : Shared) (a t C : Addr) (d : Option Addr) (B : Heap) (H' : Hp) (s' : Shared) : Prop where
 f : Flown P w base outer H s a t C B H' s'
 dc : ∀ x, d = some x → ∃ oe, s'.heap.get? a = some oe ∧ oe.dict = some x
def CXN (P : Program) (w : World) (base : Heap) : CXT := fun outer H s E e s' => ∃ (a t C : Addr) (d : Option Addr) (B : Heap) (H' : Hp), e = .ref a ∧ E (.ref C) d H' ∧ FlownN P w base outer H s a t C d B H' s'
theorem Inv.xe {X : Cx} {pins : List (Addr × Obj)} {σ : St} {H : Hp} {s : Shared} (y : Value → Shared → Prop) (I : Inv X pins σ H s) : Inv { X with xe := y } pins σ H s :=
 ⟨⟨I.ok.mod, I.ok.kind, I.ok.glob, I.ok.blt, I.ok.above, I.ok.inj, I.ok.has, I.ok.cab, I.ok.hd, I.ok.frames, I.ok.stk, I.ok.exf, I.ok.bs, I.ok.bsz, I.ok.noex, I.ok.exfs, I.ok.funs, I.ok.frf⟩, I.os, I.bare, I.base, I.loc, I.cell, I.free, I.freeC, I.pin, I.hok, I.len⟩
section
variable {P : Program} {w : World} {K : Frag} {mg : Str → Option Value} {base : Heap} {N : List Str} {qual : Str} {scope : Scope} {f : Addr} {cd : Value} {A : Around} {outer : List Env} {s : Shared} {H : Hp} {E : XK}
theorem aqy : Passes (CXN P w base) (cxOf (CXN P w base) P w K mg base N qual scope f cd A outer s H E) E := by
 intro pins σ H1 s1 e s2 I hq
 obtain ⟨a, t, C, d, B, H2, rfl, hE, W⟩ := hq
 have I' : Inv (cxOf (CXE P w base) P w K mg base N qual scope f cd A outer s H fun c _ H' => E c d H') pins σ H1 s1 := I.xe _
 have z := pql (E := fun c _ H' => E c d H') pins σ H1 s1 (.ref a) s2 I' ⟨a, t, C, B, H2, rfl, hE, W.f⟩
 refine wpAny_mono (fqj (gqP _ _) z) (fun _ s3 W' => ?_) fun _ _ z => z.elim
 obtain ⟨⟨a', t', C', B', H', ea, hE', W'⟩, sd⟩ := W'
 cases ea
 refine ⟨a, t', C', d, B', H', rfl, hE', W', fun x hx => ?_⟩
 obtain ⟨oe, ho, hd⟩ := W.dc x hx
 obtain ⟨ob, hob, _⟩ := W'.fly.there
 exact ⟨ob, hob, (sd.get ho hob).trans hd⟩
theorem nqt {pins : List (Addr × Obj)} {σ : St} {H1 : Hp} {s1 : Shared} {h' : Heap} {e C : Addr} (I : Inv (cxOf (CXN P w base) P w K mg base N qual scope f cd A outer s H E) pins σ H1 s1) (hm : Heap.MadeExcOf s1.heap h' e (.ref C) []) (hE : E (.ref C) none H1) :
  (cxOf (CXN P w base) P w K mg base N qual scope f cd A outer s H E).xe (.ref e) { s1 with heap := h' } := by
 have I' : Inv (cxOf (CXE P w base) P w K mg base N qual scope f cd A outer s H fun c _ H' => E c none H') pins σ H1 s1 := I.xe _
 refine wpAny_mono (fqj (gqP _ _) (pqz (E := fun c _ H' => E c none H') pins σ H1 s1 h' e C I' hm hE)) (fun _ s3 W' => ?_) fun _ _ z => z.elim
 obtain ⟨⟨a', t', C', B', H', ea, hE', W'⟩, sd⟩ := W'
 exact ⟨a', t', C', none, B', H', ea, hE', W', fun x hx => by cases hx⟩
theorem raisesN : Raises (cxOf (CXN P w base) P w K mg base N qual scope f cd A outer s H E) E := fun _ _ _ _ _ _ _ I hm hE => nqt I hm hE
def Raises1 (X : Cx) (E : XK) : Prop := ∀ (pins : List (Addr × Obj)) (σ : St) (H : Hp) (s : Shared) (a C d : Addr), Inv X pins σ H s → H a = some (exSet a C d) → X.s₀.heap.objs.size ≤ a → E (.ref C) (some d) (forget H a) → X.xe (.ref a) s
theorem cq2 : Raises1 (cxOf (CXN P w base) P w K mg base N qual scope f cd A outer s H E) E := by
 intro pins σ H1 s1 e C d I ha hsz hE
 have hf : (envOfC qual scope s.heap.objs.size f cd).frame = some s.heap.objs.size := rfl
 have stk : s1.heap.FunFrames base (envOfC qual scope s.heap.objs.size f cd :: outer) := I.stack
 have stf : ∀ b ∈ frs (envOfC qual scope s.heap.objs.size f cd :: outer), H1 b = none := I.stkFree
 have ib : Un (frs outer) [] H H1 s.heap s1.heap := I.base
 obtain ⟨⟨t, sl, he⟩, _, _⟩ := I.hok e _ ha
 have hsz' : s.heap.objs.size ≤ e := hsz
 have nde : ∀ b o, s.heap.get? b = some o → b ≠ e := fun b o q => Nat.ne_of_lt (Nat.lt_of_lt_of_le (Heap.lt_size q) hsz')
 have ne : ∀ b o, s.heap.get? b = some o → b ∉ frs outer → b ∉ e :: frs (envOfC qual scope s.heap.objs.size f cd :: outer) := fun b o q n z => by
  rcases List.mem_cons.mp z with z | z
  ·exact nde b o q z
  ·rcases (dq4 hf).mp z with z | z
   ·exact absurd (Heap.lt_size q) (by rw [z]; exact Nat.lt_irrefl _)
   ·exact n z
 have eN : e ∉ frs (envOfC qual scope s.heap.objs.size f cd :: outer) := fun z => by rw [stf e z] at ha; cases ha
 show wpAny (model P w) (A.deeper (envOfC qual scope s.heap.objs.size f cd)) (leaving (envOfC qual scope s.heap.objs.size f cd) (.ref e)) _ _ _
 have kB : Heap.StaysIn (hideAll s1.heap (e :: frs (envOfC qual scope s.heap.objs.size f cd :: outer))) s1.heap := fun b o q => of_hideAll _ q
 refine wpAny_mono (fqj (gqP _ _) (wpAny_leaving_firstW (E := fun _ _ => False) (Q := fun _ s3 => ∃ h', s3 = { s1 with heap := h' } ∧ Heap.LeftW (hideAll s1.heap (e :: frs (envOfC qual scope s.heap.objs.size f cd :: outer))) (envOfC qual scope s.heap.objs.size f cd :: outer) e (.ref C) (.ref t) s1.heap h')
  (base := hideAll s1.heap (e :: frs (envOfC qual scope s.heap.objs.size f cd :: outer))) (oe := ⟨.ref C, some d, .fields #[.ref t, .none, .none, .none, .bool false, .none], sl⟩) (a0 := .ref t) I.ok.frames
  (funFrames_hide stk fun env he b hb => List.mem_cons_of_mem _ (List.mem_filterMap.mpr ⟨env, he, hb⟩)) hf he kB (hideAll_none _ (.head _)) rfl rfl rfl fun h' L => ⟨h', rfl, L⟩)) (fun _ s3 ⟨⟨h2, es3, L⟩, sd⟩ => ?_) fun _ _ z => z.elim
 subst es3
 obtain ⟨x1, ⟨_, _, x2⟩, x3, x4⟩ := L
 have keepB : ∀ b o, s.heap.get? b = some o → H b = none → b ∉ frs outer → (hideAll s1.heap (e :: frs (envOfC qual scope s.heap.objs.size f cd :: outer))).get? b = some o := fun b o q n nf =>
  hideAll_get _ (ib.keep b o q n nf (by simp)) (ne b o q nf)
 have thB : ∀ b o, s.heap.get? b = some o → b ∉ frs outer → ∃ o', (hideAll s1.heap (e :: frs (envOfC qual scope s.heap.objs.size f cd :: outer))).get? b = some o' := fun b o q nf => by
  obtain ⟨o', z⟩ := ib.there b o q (by simp)
  exact ⟨o', hideAll_get _ z (ne b o q nf)⟩
 have slotF : ∀ b, b ∈ frs outer → ∀ o, s1.heap.get? b = some o → ∃ sl, h2.get? b = some { o with slots := sl } := fun b hb o q => by
  obtain ⟨_, o2, q2, nd⟩ := stk.mem ((dq4 hf).mpr (.inr hb))
  rw [q] at q2
  cases q2
  exact x4 b o q nd
 have fly : Heap.FlyingW (hideAll s1.heap (e :: frs (envOfC qual scope s.heap.objs.size f cd :: outer))) outer e (.ref C) (.ref t) h2 := ⟨x1, hideAll_none _ (.head _), x2, x3⟩
 have nee : ∀ b u, H1 b = some u → u ≠ exSet e C d → b ≠ e := fun b u q n z => by subst z; rw [ha] at q; exact n (Option.some.inj q).symm
 refine ⟨e, t, C, some d, _, forget H1 e, rfl, hE, ⟨I.os, I.bare, fun b o q => ?_, fly, fun a u q => ?_, ⟨fun b o q n nf _ => x1 b o (keepB b o q n nf), fun b o q n hb _ => ?_, fun b o q n hx => ?_, fun b o q _ => ?_, fun b xs q => ?_, fun b o u q => ?_, fun b ps q => ?_⟩, keepB, thB⟩, fun x hx => ?_⟩
 ·refine hideAll_get _ (I.bk b o q) fun z => ?_
  rcases List.mem_cons.mp z with z | z
  ·exact absurd (Nat.lt_of_lt_of_le (Heap.lt_size q) (Nat.le_trans I.ok.bsz hsz')) (by rw [z]; exact Nat.lt_irrefl _)
  ·rw [(stk.mem z).1] at q; cases q
 ·by_cases z : a = e
  ·subst z; rw [lqS] at q; cases q
  ·rw [cqd z] at q
   refine (I.hok a u q).stay (fun b v hb y => hideAll_get _ y fun m => ?_) (fun b y => ?_) fun b xs y => ?_
   ·rcases List.mem_cons.mp m with m | m
    ·rcases hb with rfl | hb
     ·exact z m
     ·exact nee b _ hb (by intro y; cases y) m
    ·have := stf b m
     rcases hb with rfl | hb
     ·rw [q] at this; cases this
     ·rw [hb] at this; cases this
   ·rw [cqd (nee b _ y (by intro y; cases y))]; exact y
   ·rw [cqd (nee b _ y (by intro y; cases y))]; exact y
 ·obtain ⟨sl, z⟩ := ib.slot b o q n hb (by simp)
  obtain ⟨sl', z'⟩ := slotF b hb _ z
  exact ⟨sl', z'⟩
 ·rw [cqd (nde b o q)]
  exact ib.free b o q n hx
 ·by_cases hb : b ∈ frs outer
  ·obtain ⟨o', z⟩ := ib.there b o q (by simp)
   obtain ⟨sl', z'⟩ := slotF b hb _ z
   exact ⟨_, z'⟩
  ·obtain ⟨o', z⟩ := thB b o q hb
   exact ⟨o', x1 b o' z⟩
 ·have z := ib.tups b xs q
  rw [cqd (nee b _ z (by intro y; cases y))]; exact z
 ·have z := ib.frzs b o u q
  rw [cqd (nee b _ z (by intro y; cases y))]; exact z
 ·obtain ⟨m, z⟩ := ib.tbls b ps q
  exact ⟨m, by rw [cqd (nee b _ z (by intro y; cases y))]; exact z⟩
 ·cases hx
  obtain ⟨ob, hob, _⟩ := fly.there
  exact ⟨ob, hob, sd.get he hob⟩
end
structure Mk1 (K : Frag) (C f : Addr) : Prop where
 ex : excInJ K C vErr vNew (some (.ref f)) = true
 fn : isFn K (.ref f) = true
 kp : keepIn K (.ref C) = true
def tRaise1 (E : XK) (C : Addr) (sp : Sp) (t : TA) : TS := fun _ σ H => t σ H fun vs H1 => ∀ a, H1 a = none → sp (.ref a :: vs) (upd H1 a (exNew a C)) (fun v H2 => v = .non ∧ ∃ d, H2 a = some (exSet a C d) ∧ E (.ref C) (some d) (forget H2 a)) E0
theorem oqY {E : XK} {C : Addr} {sp : Sp} {t : TA} {D : Ends} {σ : St} {H : Hp} : (tRaise1 E C sp t D σ H) = (t σ H fun vs H1 => ∀ a, H1 a = none → sp (.ref a :: vs) (upd H1 a (exNew a C)) (fun v H2 => v = .non ∧ ∃ d, H2 a = some (exSet a C d) ∧ E (.ref C) (some d) (forget H2 a)) E0) := rfl
theorem dqO {X : Cx} {x : Str} {C f : Addr} {E : XK} {CX : CXT} {k : Nat} {fd : FuncData} {ps : List Str} {sp : Sp} {np cpos pos : Pos} {e : Expr} {t : TA}
  (hx : Raises1 X E) (hg : Gl X x) (hm : X.mg x = some (.ref C)) (M : Mk1 X.K C f) (F : FnOk X.prog X.w X.K X.mg X.base CX k f fd ps sp) (hr : Room (k + 1) X.A) (hb : Binds X.K fd ps []) (hps : ps.length = 2) (h0 : Passes CX X E0) (hcalm : X.calm = true) (ha : PA X [e] t)
  (hdb : (x == ("__debug__" : Str)) = false := by decide) (he : starEach [e] X.env = (false, eval e X.env) :: starEach [] X.env := by rfl) (hpl : (backTo cpos (starEach [] X.env)).any (·.1) = false := by rfl) :
  PS X (.Raise (some (.Call (.Name x np) [e] [] cpos)) none pos) (tRaise1 E C sp t) := by
 intro pins s σ H D I h
 obtain ⟨cd, tl, dd, a, hC, ⟨hno, hni⟩, T⟩ := excObjJ I.ok.mod.kin M.ex
 have hN := Heap.Ns.of_isNs (isNs_of_in I.ok.mod.kin hno)
 have hni := sqs I.ok.mod.kin hN hni
 obtain ⟨oI, hoI, hcI⟩ : ∃ oI, X.base.get? f = some oI ∧ oI.cls = .type "function" := by
  have z : typeIn X.K (.ref f) = some (.type "function") := beq_iff_eq.mp M.fn
  unfold typeIn at z
  obtain ⟨o, ho, hc⟩ := Option.map_eq_some_iff.mp z
  exact ⟨o, I.ok.mod.kin _ _ ho, hc⟩
 rw [arm_exec_Raise]
 have hbase := T.hasType PySem.F.excBase_ValueError.hasBase
 refine wpAny_bind (wpAny_standAt (kqA (C := C) (nm := cd.name) (q := cd.qualname) (N := cd.ns) (bs := cd.bases) (bm := tl) (hdct := cd.hasDict) (sn := cd.slotNames) (sub := cd.subclasses) (ab := cd.abstract) (col := cd.collection) (dd := dd) (k0 := a 0) (k1 := a 1) (k2 := a 2) (k3 := a 3) (k5 := a 5) (newId := vNew) hbase (I.ok.hd hcalm) ?_))
 refine wpAny_bind (wpAny_mono (wpAny_Call_Name_kw (eqC I hg hm ?_ hdb)) (fun v s₃ h₃ => wpAny_bind (wpAny_standAt (wpAny_pure h₃))) fun _ _ x => x)
 refine callWith_K (h₀ := X.base) I.ok.mod.kin M.kp (thn (ha cpos pins s σ H _ I h) fun us s1 ⟨vs, H1, I1, r, q⟩ => ⟨I1.kIn, ?_⟩) he hpl
 rw [List.nil_append]
 obtain ⟨hh, g, dw, tk, os⟩ := s1
 have hlu : us.length ≤ sizeLine := by
  have z := F.len _ _ _ _ (q (hh.objs.size + 1) (I1.hok.fresh (Nat.le_succ _)))
  rw [List.length_cons, hps] at z
  rw [← r.length, sizeLine_eq]
  lia
 have kb : ∀ b o, X.base.get? b = some o → hh.get? b = some o := fun b o e => I1.bk b o e
 refine pqh PySem.F.excBase_ValueError (T.keeps kb) (kb _ _ hC) (hN.keeps kb) hni (kb _ _ hoI) hcI ?_ hlu
 have I2 : Inv X pins σ (upd H1 (hh.objs.size + 1) (exNew (hh.objs.size + 1) C)) ⟨(hh.push (newTup us)).push (newExc C hh.objs.size), g, dw, tk, os⟩ := by
  refine I1.laid (t' := tk) (fun b u e => Heap.get?_push_of_some _ (Heap.get?_push_of_some _ e)) (Nat.le_succ _) ?_
  have hg2 : ((hh.push (newTup us)).push (newExc C hh.objs.size)).get? (hh.objs.size + 1) = some (newExc C hh.objs.size) := by heap_get
  exact ⟨⟨_, _, hg2⟩, ⟨_, hg2⟩, fun h1 h2 ⟨t, sl, z⟩ k => ⟨t, sl, k _ z⟩⟩
 have q2 := q (hh.objs.size + 1) (I1.hok.fresh (Nat.le_succ _))
 have r2 : Vals (V.ref (hh.objs.size + 1) :: vs) (Value.ref (hh.objs.size + 1) :: us) := .cons rfl r
 have hl : (Value.ref (hh.objs.size + 1) :: us).length = ps.length := by rw [← r2.length]; exact F.len _ _ _ _ q2
 have hbb := hb ⟨(hh.push (newTup us)).push (newExc C hh.objs.size), g, dw, tk, os⟩ (Value.ref (hh.objs.size + 1) :: us) I2.kIn (by rw [List.append_nil]; exact hl)
 rw [List.append_nil] at hbb
 refine wpAny_call (codeAny_mono (F.run _ X.stack _ _ ⟨Value.ref (hh.objs.size + 1) :: us, []⟩ (Value.ref (hh.objs.size + 1) :: us) _ _ E0 (hr.make C us []) (I2.env0.make C us []) hbb r2 q2) fun r s' hq' => ?_)
 cases r with
 | error ev => exact h0 pins σ _ _ ev s' I2 hq'
 | ok fl =>
  cases fl with
  | ret u =>
   obtain ⟨v, H', I3, rv, ev, d, hd, hE⟩ := I2.after hq'
   subst ev
   obtain ⟨⟨t, sl, hx3⟩, _, _⟩ := I3.hok _ _ hd
   exact ⟨rv, _, t, some d, sl, rfl, I3.bk _ _ hC, hx3, hx pins σ H' s' _ C d I3 hd (Nat.le_trans I1.sz (Nat.le_succ _)) hE⟩
  | next => exact False.elim hq'
  | brk => exact False.elim hq'
  | cont => exact False.elim hq'
theorem Fun.okn {P : Program} {w : World} {K : Frag} {mg : Str → Option Value} {base : Heap} {x qual : Str} {st : Stmt} {f : Addr} {fd : FuncData} {N ps : List Str} {k : Nat} {sp : Sp} (F : Fun K x qual st f fd) (S : FnScope N ps (defScope st)) (len : ∀ vs H Q E, sp vs H Q E → vs.length = ps.length)
  (hbody : ∀ (cdv : Value) (A : Around) (outer : List Env) (s : Shared) (H : Hp) (vs : List V) (Q : VK) (E : XK), Room k (A.deeper (envOfC qual (defScope st) s.heap.objs.size f cdv)) → sp vs H Q E →
   ∃ t, PSs (cxOf (CXN P w base) P w K mg base N qual (defScope st) f cdv A outer s H E) (defBody st) t ∧ t { nx := fun _ H' => Q .non H', rt := Q } (start N vs) H) : FnOk P w K mg base (CXN P w base) (k + 1) f fd ps sp := by
 obtain ⟨oc, od, kV, doc, pm, an, cdv, ct, osl, rfl, lk, hcd⟩ := F.ex
 exact tqt lk hcd S len fun A outer s H vs Q E hr hsp => hbody cdv A outer s H vs Q E hr hsp
theorem passes0N {P : Program} {w : World} {base : Heap} {X : Cx} : Passes (CXN P w base) X E0 := fun _ _ _ _ _ _ _ ⟨_, _, _, _, _, _, _, z, _⟩ => z.elim
def TryB (X : Cx) (body : List Stmt) (t : XK → TS) : Prop := ∀ (pins : List (Addr × Obj)) (s : Shared) (σ : St) (H : Hp) (D : Ends) (Eh : XK), Inv X pins σ H s → t Eh D σ H →
 wpAny (model X.prog X.w) X.A (execs body X.env) (SP X pins D) (fun e s' => ∃ H1 s1, Inv X pins σ H1 s1 ∧ CXN X.prog X.w X.base X.stack H1 s1 Eh e s') s
def tTryCall (sp : Sp) (t : TA) : XK → TS := fun Eh D σ H => t σ H fun vs H1 => sp vs H1 (fun _ H2 => D.nx σ H2) Eh
theorem qqS {X : Cx} {k : Nat} {f : Addr} {fd : FuncData} {ps : List Str} {sp : Sp} {fx : Str} {p cpos epos : Pos} {e : Expr} {es : List Expr} {t : TA}
  (F : FnOk X.prog X.w X.K X.mg X.base (CXN X.prog X.w X.base) k f fd ps sp) (hr : Room k X.A) (hg : Gl X fx) (hm : X.mg fx = some (.ref f)) (hk : keepIn X.K (.ref f) = true) (hb : Binds X.K fd ps []) (ha : PA X (e :: es) t)
  (hx0 : ∀ e s, X.xe e s → False)
  (hdb : (fx == ("__debug__" : Str)) = false := by decide)
  (he : starEach (e :: es) X.env = (false, eval e X.env) :: starEach es X.env := by rfl) (hpl : (backTo cpos (starEach es X.env)).any (·.1) = false := by rfl)
  (hs : swapsWith (.Call (.Name fx p) (e :: es) [] cpos) none epos.line X.env = pure false := by rfl) :
  TryB X [.Expr (.Call (.Name fx p) (e :: es) [] cpos) epos] (tTryCall sp t) := by
 intro pins s σ H D Eh I h
 refine wpAny_execs_cons (wpAny_Expr_any (wpAny_Call_Name_kw (eqC I hg hm ?_ hdb)) I.quiet hs)
 refine callWith_K (h₀ := X.base) I.ok.mod.kin hk (wpAny_mono (ha cpos pins s σ H _ I h) (fun us s1 ⟨vs, H1, I1, r, q⟩ => ⟨I1.kIn, ?_⟩) fun e s1 z => (hx0 e s1 z).elim) he hpl
 have hlen : (us ++ []).length = ps.length := by rw [List.append_nil, ← r.length]; exact F.len _ _ _ _ q
 have hbb := hb s1 us I1.kIn hlen
 rw [List.append_nil] at hbb
 refine wpAny_call (codeAny_mono (F.run X.A X.stack s1 H1 ⟨us, []⟩ us vs _ _ hr I1.env0 hbb r q) fun r s2 hq => ?_)
 cases r with
 | ok fl =>
  cases fl with
  | ret u =>
   obtain ⟨v, H2, I2, rv, q2⟩ := I1.after hq
   exact wpAny_execs_nil ⟨σ, H2, I2, q2⟩
  | next => exact False.elim hq
  | brk => exact False.elim hq
  | cont => exact False.elim hq
 | error ev => exact ⟨H1, s1, I1, hq⟩
theorem Inv.sharp {X : Cx} {pins : List (Addr × Obj)} {σ : St} {H : Hp} {s : Shared} {a : Addr} {φ ψ : Heap → Prop} (I : Inv X pins σ (upd H a (.ext φ)) s) (h : ψ s.heap) (st : ∀ h1 h2 : Heap, ψ h1 → (∀ o, h1.get? a = some o → h2.get? a = some o) → ψ h2) : Inv X pins σ (upd H a (.ext ψ)) s := by
 have e : upd H a (.ext φ) a = some (.ext φ) := aqh
 obtain ⟨_, ex, _⟩ := I.hok a _ e
 have := I.write (x := a) (e := a) (o := .ext ψ) (t' := s.toks) (h' := s.heap) (by rw [e]; exact True.intro) (.inl rfl) (fun b u _ q => q) ex ⟨h, ex, st⟩
 rwa [oqp] at this
def tTryN (K : Frag) (t : XK → TS) (W : Addr) (i : Nat) (tb : TS) : TS := fun D σ H => t (fun cls d H2 =>
 ∃ C, cls = .ref C ∧ subIn K (.ref C) (.ref W) = some true ∧ ∀ a, H2 a = none → tb { nx := fun σ' H' => D.nx (σ'.set i none) H', rt := D.rt } (σ.set i (some (.ref a))) (upd H2 a (exC a C d))) { nx := D.nx, rt := D.rt } σ H
theorem lq6 {X : Cx} {W : Addr} {x n : Str} {np hpos pos : Pos} {body : List Stmt} {b₀ : Stmt} {suite : List Stmt} {t : XK → TS} {tb : TS} {i : Nat}
  (hb : TryB X body t) (hstk : X.stack = X.env :: X.outer) (hf : X.env.frame = some X.env.locals) (hgW : Gl X x) (hmW : X.mg x = some (.ref W)) (cw : Catch X.K W)
  (nd : X.N.Nodup) (hi : X.N[i]? = some n) (hl : X.env.scope.names.lookup n = some .local) (hbd : ∀ a, PSs (X.handling (.ref a)) (b₀ :: suite) tb) (hdW : (x == ("__debug__" : Str)) = false := by decide) :
  PS X (.Try body [.ExceptHandler (some (.Name x np)) (some n) (b₀ :: suite) hpos] [] [] pos) (tTryN X.K t W i tb) := by
 intro pins s σ H D I h
 refine wpAny_Try_except (wpAny_mono (hb pins s σ H _ _ I h) (fun fl s2 q => ?_) fun ev s2 ⟨H1, s1, I1, hq⟩ => ?_)
 ·cases fl with
  | next => exact wpAny_execs_nil q
  | ret u => exact q
  | brk => obtain ⟨_, _, _, q⟩ := q; exact q.elim
  | cont => obtain ⟨_, _, _, q⟩ := q; exact q.elim
 ·obtain ⟨a, tt, C, d, B, H2, rfl, ⟨C', ce, hsub, hq⟩, Wn⟩ := hq
  cases ce
  have hn : H2 a = none := Wn.f.new (h5 := s.heap) (a0 := .none)
  have fl : Heap.FlyingW B (X.env :: X.outer) a (.ref C) (.ref tt) s2.heap := hstk ▸ Wn.f.fly
  have fr : X.A.frames = some (X.env :: X.outer) := hstk ▸ I1.ok.frames
  refine wpAny_mono (fqj (gqZ _ _) (wpAny_looks_onW (E := fun _ _ => False) (Q := fun _ s3 => ∃ h4, s3 = { s2 with heap := h4 } ∧ Heap.HeldW B (X.env :: X.outer) a (.ref C) (.ref tt) X.env.locals h4 ∧ s2.heap.UpToSlots h4) fr hf fl fun h4 held4 sm4 => ⟨h4, rfl, held4, sm4⟩)) (fun _ s3 W' => ?_) fun _ _ z => z.elim
  obtain ⟨⟨h4, e3, held4, sm4⟩, sd4⟩ := W'
  subst e3
  refine wpAny_mono (fqj (eqZ _ _) (wpAny_landsW (E := fun _ _ => False) (s := { s2 with heap := h4 }) (Q := fun _ s3 => ∃ h5, s3 = { s2 with heap := h5 } ∧ Heap.FlyingW B (X.env :: X.outer) a (.ref C) (.ref tt) h5 ∧ h4.UpToSlots h5) held4 fun h5 f5 sm5 => ⟨h5, rfl, f5, sm5⟩)) (fun _ s3 W' => ?_) fun _ _ z => z.elim
  obtain ⟨⟨h5, e3, f5, sm5⟩, sd5⟩ := W'
  subst e3
  have I5 := I1.caught Wn.f (hstk.symm ▸ f5) (sm4.trans sm5)
  refine wpAny_handleBy_cons (codeAny_handlers_test (eqC (X := X.handling (.ref a)) (I5.handling _) hgW hmW ?_ hdW)) (by intro q; cases q)
  obtain ⟨ob, hob, hoc⟩ := f5.there
  refine (mqf I5.kIn hob hoc cw hsub) _ _ _ _ (fun b o q => q) ?_
  refine codeAny_handlers_suite_as ?_
  refine wpAny_mono (fqj (eqZ _ _) (lands_againW (E := fun _ _ => False) (s := { s2 with heap := h5 }) (Q := fun _ s3 => ∃ h6, s3 = { s2 with heap := h6 } ∧ Heap.FlyingW B (X.env :: X.outer) a (.ref C) (.ref tt) h6 ∧ h5.UpToSlots h6) f5 fun h6 f6 sm6 => ⟨h6, rfl, f6, sm6⟩)) (fun _ s3 W' => ?_) fun _ _ z => z.elim
  obtain ⟨⟨h6, e3, f6, sm6⟩, sd6⟩ := W'
  subst e3
  have I6' := I1.caught Wn.f (hstk.symm ▸ f6) ((sm4.trans sm5).trans sm6)
  obtain ⟨oe, vs6, ho6, hc6, hd6, _⟩ := f6.first
  have I6 : Inv X pins σ (upd H2 a (exC a C d)) { s2 with heap := h6 } := by
   refine I6'.sharp ⟨oe, ho6, hc6, fun y hy => ?_, by unfold notCls; rw [hd6]⟩ fun h1 h2 ⟨o, z, c⟩ k => ⟨o, k o z, c⟩
   obtain ⟨o2, z2, zd⟩ := Wn.dc y hy
   exact (((sd4.trans sd5).trans sd6).get z2 ho6).trans zd
  refine kqv (X := X.handling (.ref a)) (i := i) (v := .ref a) (I6.handling _) nd hi (.inl hl) rfl (fun s7 I7 => ?_) (.inr hl)
  refine wpAny_mono (hbd a pins s7 _ _ _ I7 (hq a hn)) (fun fl s8 q8 => ?_) fun e s8 z => z.elim
  cases fl with
  | next =>
   obtain ⟨σ', H', I', q'⟩ := q8
   exact (Inv.handled I1.ok I').goes nd hi hl fun s9 I9 => ⟨_, _, I9, q'⟩
  | ret u =>
   obtain ⟨v, σ', H', I', rv, q'⟩ := q8
   exact (Inv.handled I1.ok I').goes nd hi hl fun s9 I9 => ⟨_, _, _, I9, rv, q'⟩
  | brk =>
   obtain ⟨_, _, _, q'⟩ := q8
   exact q'.elim
  | cont =>
   obtain ⟨_, _, _, q'⟩ := q8
   exact q'.elim
theorem sq3 {K : Frag} {t : XK → TS} {W : Addr} {i : Nat} {tb : TS} {D : Ends} {σ : St} {H : Hp} : tTryN K t W i tb D σ H ↔ t (fun cls d H2 =>
 ∃ C, cls = .ref C ∧ subIn K (.ref C) (.ref W) = some true ∧ ∀ a, H2 a = none → tb { nx := fun σ' H' => D.nx (σ'.set i none) H', rt := D.rt } (σ.set i (some (.ref a))) (upd H2 a (exC a C d))) { nx := D.nx, rt := D.rt } σ H := Iff.rfl
theorem nq1 {sp : Sp} {t : TA} {Eh : XK} {D : Ends} {σ : St} {H : Hp} : (tTryCall sp t Eh D σ H) = (t σ H fun vs H1 => sp vs H1 (fun _ H2 => D.nx σ H2) Eh) := rfl
def rIsX (K : Frag) : List V → Hp → VK → Prop := fun vs H Q => ∃ a c C d b, vs = [.ref a, c] ∧ H a = some (exC a C d) ∧ ExLook K C ∧ KitAns K H C c b ∧ Q (.bl b) H
theorem dqg {X : Cx} {K : Frag} (hk : X.K = K) : CallR X (.builtin "isinstance") (rIsX K) := by
 subst hk
 intro pins s σ H vs us Q I rv h
 obtain ⟨a, c, C, d, b, rfl, ha, L, ans, q⟩ := h
 cases rv with
 | cons r1 rs =>
  cases rs with
  | cons r2 rn =>
   cases rn
   cases r1
   have hobj : ∃ o, s.heap.get? a = some o ∧ o.cls = .ref C := let ⟨⟨o, z, c, _⟩, _⟩ := I.hok a _ ha; ⟨o, z, c⟩
   have Z := qqU (a := a) L PySem.F.attrBase_ValueError.ga
   cases ans with
   | cls e =>
    cases r2
    exact kia_one Z I.kIn hobj e (by intro z; cases z) fun tk => ⟨.bl b, H, I.tok tk, rfl, q⟩
   | ty e =>
    cases r2
    exact kia_one Z I.kIn hobj e (by intro z; cases z) fun tk => ⟨.bl b, H, I.tok tk, rfl, q⟩
   | tup hp e =>
    cases r2
    obtain ⟨_, its, rv, ⟨oc, od, da, sl⟩, hob, hcl, n, hda⟩ := I.hok _ _ hp
    dsimp only at hcl hda
    subst hcl hda
    rw [kqP rv] at hob
    exact kia_tup Z I.kIn hobj hob e (by intro z; cases z) fun tk => ⟨.bl b, H, I.tok tk, rfl, q⟩
theorem uqJ {K : Frag} {a : Addr} {c : V} {H : Hp} {Q : VK} : rIsX K [.ref a, c] H Q ↔ ∃ C d b, H a = some (exC a C d) ∧ ExLook K C ∧ KitAns K H C c b ∧ Q (.bl b) H :=
 ⟨fun ⟨_, _, C, d, b, e, h⟩ => by cases e; exact ⟨C, d, b, h⟩, fun ⟨C, d, b, h⟩ => ⟨a, c, C, d, b, rfl, h⟩⟩
end L2
namespace L2
open PySem PySem.Spec PySem.W PySem.Calls PyProof.Rows PySem.Builtin PySem.Builtin.ObjectAttr
section
variable {prog : Program} {w : World} {A : Around} {E : Value → Shared → Prop} {hh : Heap} {g : Array GenState} {dr : Drawn} {t : Nat} {os : OsState} {K : Frag} {a C : Addr} {o : Obj} {od : Option Obj} {name : Str} {v : Value}
theorem kqk {tk : Tok} {Q : Fin → Shared → Prop} (kin : K.In hh) (I : PySem.W.InstAt hh a o C od) (hf : findObj K C od name = some (.value v)) (hq : Q (.done (.ret v)) ⟨hh, g, dr, t, os⟩) :
  wpAny (model prog w) A (Builtin.«object.__getattribute__» ⟨[.ref a, .str name tk], []⟩) Q E ⟨hh, g, dr, t, os⟩ := by
 have L0 := I.type (M := model prog w)
 have L1 := looks_find (M := model prog w) kin I hf
 refine wpAny_bind (wpAny_pure (wpAny_bind (wpAny_pure (wpAny_bind (L0.at (wpAny_bind (L1.at ?_)))))))
 exact wpAny_pure hq
theorem nqZ {tk : Tok} {n1 ex : Bool} {Q : Value → Shared → Prop} (kin : K.In hh) (I : PySem.W.InstAt hh a o C od) (hf : findObj K C od name = some (.value v)) (hv : handedIn v = true) (L : ExLook K C) (gb : Slot "ValueError" "__getattribute__" "BaseException.__getattribute__") (hq : Q v ⟨hh, g, dr, t, os⟩) :
  wpAny (model prog w) A (getAttrBy (.ref a) (.str name tk) n1 ex) Q E ⟨hh, g, dr, t, os⟩ := by
 have lt := fqk (M := model prog w) I.at_ I.cls; have lg := looks_findIn (M := model prog w) kin L.ga; have ln := looks_findIn (M := model prog w) kin L.na
 have f3 := gb.bind (.ref a)
 have y2 : (Value.builtin "BaseException.__getattribute__" == Value.builtin "object.__getattribute__") = false := by decide +kernel
 have y1 : (onTheHeap (Value.ref C) && Value.builtin "BaseException.__getattribute__" == Value.builtin "object.__getattribute__") = false := by rw [y2]; rfl
 have y0 : (ex && onTheHeap (Value.builtin "BaseException.__getattribute__")) = false := by cases ex <;> rfl
 repeat (any_goals (first | assumption | with_reducible refine Looks.at lt ?_ | with_reducible refine Looks.at lg ?_ | with_reducible refine Looks.at ln ?_ | rw [y0] | wp_step))
 refine codeAny_call_builtin gb.plain PySem.F.entry_bexc_ga (gqV kin I.at_ I.cls L (kqk kin I hf ?_))
 have hz := handedOut_of hv
 repeat (any_goals (first | assumption | rw [hz] | wp_step))
end
structure ExFld (K : Frag) (C : Addr) (f : Str) : Prop where
 look : ExLook K C
 na : findIn K (.ref C) f = some none
 hd : hasDictIn K C = true
def tFldE (K : Frag) (te : TE) (f : Str) : TE := fun σ H Q => te σ H fun x H1 => ∃ a C d fs v, x = .ref a ∧ H1 a = some (exC a C (some d)) ∧ H1 d = some (.xd fs) ∧ ExFld K C f ∧ fs.lookup f = some v ∧ Q v H1
theorem sqY {K : Frag} {te : TE} {f : Str} {σ : St} {H : Hp} {Q : VK} : (tFldE K te f σ H Q) = (te σ H fun x H1 => ∃ a C d fs v, x = .ref a ∧ H1 a = some (exC a C (some d)) ∧ H1 d = some (.xd fs) ∧ ExFld K C f ∧ fs.lookup f = some v ∧ Q v H1) := rfl
theorem sq8 {X : Cx} {e : Expr} {f : Str} {pos : Pos} {te : TE} (he : PE X e te) (hb : attributeBase e f X.env (eval e X.env) = eval e X.env) : PE X (.Attribute e f pos) (tFldE X.K te f) := by
 intro pins s σ H Q I h
 refine oq1 hb (thn (he pins s σ H _ I h) fun u s1 W' => ?_)
 obtain ⟨x, H1, I1, rx, a, C, d, fs, v, ex, ea, ed, c, l, q⟩ := W'
 subst ex
 obtain rfl : u = Value.ref a := rx
 obtain ⟨⟨o, ho, hc, hdc, hnc⟩, _, _⟩ := I1.hok a _ ea
 obtain ⟨mA, hN, hR⟩ := I1.hok d _ ed
 obtain ⟨od, hod, hl⟩ := lqA hN
 have dd := hdc d rfl
 have J : PySem.W.InstAt s1.heap a o C (some od) := ⟨ho, hc, hnc, by rw [dd]; exact hod⟩
 obtain ⟨v', hv', rv⟩ := RelO.some_of (v := v) (o := mA f) (by rw [← l]; exact hR f)
 have K1 := I1.kIn
 have fo : findObj X.K C (some od) f = some (.value v') := findObj_own c.hd c.na rfl (by rw [hl, hv'])
 have I2 := I1.tok (s1.toks + 1)
 obtain ⟨hh, g, dr, tk, os⟩ := s1
 unfold getAttr
 refine wpAny_bind (wpAny_mkText ?_)
 refine nqZ K1 J fo (lqp rv) c.look PySem.F.attrBase_ValueError.ga ?_
 exact ⟨v, H1, I2, rv, q⟩
theorem mq8 {X : Cx} {K : PySem.W.Frag} {e : Expr} {f : Str} {pos : Pos} {te : TE} (hk : X.K = K) (he : PE X e te) (hb : attributeBase e f X.env (eval e X.env) = eval e X.env) : PE X (.Attribute e f pos) (tFldE K te f) := by subst hk; exact sq8 he hb
end L2
namespace L2
open PySem PySem.Spec PySem.W PySem.Calls PyProof.Rows
theorem FunD.okn {P : Program} {w : World} {K : Frag} {mg : Str → Option Value} {base : Heap} {x qual : Str} {st : Stmt} {f T : Addr} {fd : FuncData} {N ps : List Str} {k : Nat} {sp : Sp} (F : FunD K x qual st f fd T) (S : FnScope N ps (defScope st)) (len : ∀ vs H Q E, sp vs H Q E → vs.length = ps.length)
  (hbody : ∀ (cdv : Value) (A : Around) (outer : List Env) (s : Shared) (H : Hp) (vs : List V) (Q : VK) (E : XK), Room k (A.deeper (envOfC qual (defScope st) s.heap.objs.size f cdv)) → sp vs H Q E →
   ∃ t, PSs (cxOf (CXN P w base) P w K mg base N qual (defScope st) f cdv A outer s H E) (defBody st) t ∧ t { nx := fun _ H' => Q .non H', rt := Q } (start N vs) H) : FnOk P w K mg base (CXN P w base) (k + 1) f fd ps sp := by
 obtain ⟨oc, od, kV, doc, pm, an, cdv, ct, osl, rfl, lk, hcd⟩ := F.ex
 exact tqt lk hcd S len fun A outer s H vs Q E hr hsp => hbody cdv A outer s H vs Q E hr hsp
section
variable {P : Program} {w : World} {K : Frag} {mg : Str → Option Value} {base : Heap} {j k : Nat} {A : Around} {outer : List Env} {s : Shared} {H : Hp} {E : XK}
structure RoomU (k : Nat) (A : Around) : Prop where
 dp : A.depth + 3 * k + 5 < recursionLimit
 un : A.units + 16 * k + 200 < cLine
structure FnU (P : Program) (w : World) (K : Frag) (mg : Str → Option Value) (base : Heap) (k : Nat) (f : Addr) (fd : FuncData) (ps : List Str) (sp : Sp) : Prop where
 len : ∀ vs H Q E, sp vs H Q E → vs.length = ps.length
 go : ∀ (A : Around) (outer : List Env) (s : Shared) (H : Hp) (args : Args) (us : List Value) (vs : List V) (Q : VK) (E : XK), RoomU k A → Env0 P w K mg base A outer s H → BindsTo s fd args (ps.zip us) → Vals vs us → sp vs H Q E →
  codeAny (model P w) A (.call (.ref f) args) (CR CX0 outer P w H s Q E) s
end
section
variable {X : Cx}
def tTryIf (tc : TT) (ta tb : XK → TS) : XK → TS := fun Eh D σ H => tc σ H fun b H1 => if b = true then ta Eh D σ H1 else tb Eh D σ H1
theorem qqy {tc : TT} {ta tb : XK → TS} {Eh : XK} {D : Ends} {σ : St} {H : Hp} : (tTryIf tc ta tb Eh D σ H) = (tc σ H fun b H1 => if b = true then ta Eh D σ H1 else tb Eh D σ H1) := rfl
theorem uqz {c : Expr} {a b : List Stmt} {tc : TT} {ta tb : XK → TS} {pos : Pos} (hc : PT X c tc) (ha : TryB X a ta) (hb : TryB X b tb) (hx0 : ∀ e s, X.xe e s → False) : TryB X [.If c a b pos] (tTryIf tc ta tb) := by
 intro pins s σ H D Eh I h
 refine wpAny_execs_cons (wpAny_If (wpAny_mono (hc pins s σ H _ I h) (fun d s1 W' => ?_) fun e s1 z => (hx0 e s1 z).elim))
 obtain ⟨H1, I1, q1⟩ := W'
 cases d with
 | true => exact wpAny_mono (ha pins s1 σ H1 D Eh I1 q1) (fun fl s2 z => by cases fl <;> first | exact wpAny_execs_nil z | exact z) fun _ _ z => z
 | false => exact wpAny_mono (hb pins s1 σ H1 D Eh I1 q1) (fun fl s2 z => by cases fl <;> first | exact wpAny_execs_nil z | exact z) fun _ _ z => z
def tTryE (sp : Sp) (t : TA) : XK → TE := fun Eh σ H Q => t σ H fun vs H1 => sp vs H1 Q Eh
def tTryP (ta : TE) (te : XK → TE) : XK → TE := fun Eh σ H Q => ta σ H fun x H1 => te Eh σ H1 fun y H2 => ∀ p H', H2 p = none → Same H2 H' → H' p = some (.tup [x, y]) → Q (.ref p) H'
def tTryS (i : Nat) (te : XK → TE) : XK → TS := fun Eh D σ H => te Eh σ H fun v H1 => D.nx (σ.set i (some v)) H1
theorem tqw {sp : Sp} {t : TA} {Eh : XK} {σ : St} {H : Hp} {Q : VK} : (tTryE sp t Eh σ H Q) = (t σ H fun vs H1 => sp vs H1 Q Eh) := rfl
theorem sqr {ta : TE} {te : XK → TE} {Eh : XK} {σ : St} {H : Hp} {Q : VK} : (tTryP ta te Eh σ H Q) = (ta σ H fun x H1 => te Eh σ H1 fun y H2 => ∀ p H', H2 p = none → Same H2 H' → H' p = some (.tup [x, y]) → Q (.ref p) H') := rfl
theorem rqP {i : Nat} {te : XK → TE} {Eh : XK} {D : Ends} {σ : St} {H : Hp} : (tTryS i te Eh D σ H) = (te Eh σ H fun v H1 => D.nx (σ.set i (some v)) H1) := rfl
end
end L2
namespace L2
open PySem
end L2
namespace Wm
open PySem L2
abbrev Rs (α : Type) := Except Nat (α × Nat)
def sh {α : Type} (k : Nat) : Rs α → Rs α
 | .ok (a, n) => .ok (a, k + n)
 | .error n => .error (k + n)
def mp {α β : Type} (f : α → β) : Rs α → Rs β
 | .ok (a, n) => .ok (f a, n)
 | .error n => .error n
def pre {α : Type} (c : α) (k : Nat) : Rs (List α) → Rs (List α)
 | .ok (l, n) => .ok (c :: l, k + n)
 | .error n => .error (k + n)
section
variable {α β γ : Type}
theorem pqw {a b : Nat} {r : Rs α} : sh a (sh b r) = sh (a + b) r := by
 cases r with
 | error n => show Except.error _ = Except.error _; rw [Nat.add_assoc]
 | ok x => show Except.ok _ = Except.ok _; rw [Nat.add_assoc]
theorem vqm {a : Nat} {f : α → β} {r : Rs α} : mp f (sh a r) = sh a (mp f r) := by cases r <;> rfl
theorem vqC {g : β → γ} {f : α → β} {r : Rs α} : mp g (mp f r) = mp (fun x => g (f x)) r := by cases r <;> rfl
theorem sh_0 {r : Rs α} : sh 0 r = r := by
 cases r with
 | error n => show Except.error _ = Except.error _; rw [Nat.zero_add]
 | ok x => show Except.ok _ = Except.ok _; rw [Nat.zero_add]
theorem vqx {r : Rs α} : mp (fun x => x) r = r := by cases r <;> rfl
theorem rqa {c : α} {k : Nat} {r : Rs (List α)} : pre c k r = sh k (mp (fun l => c :: l) r) := by cases r <;> rfl
def Via (tot : Rs γ) (b : Nat) (f : α → γ) (r : Rs α) : Prop := tot = sh b (mp f r)
theorem Via.refl {r : Rs α} : Via r 0 (fun x => x) r := by unfold Via; rw [vqx, sh_0]
theorem Via.step {tot : Rs γ} {b a : Nat} {f : β → γ} {g : α → β} {r : Rs β} {r' : Rs α} (h : Via tot b f r) (e : r = sh a (mp g r')) : Via tot (b + a) (fun x => f (g x)) r' := by
 unfold Via at *
 rw [h, e, vqm, pqw, vqC]
theorem Via.ok {tot : Rs γ} {b n : Nat} {f : α → γ} {r : Rs α} {x : α} (h : Via tot b f r) (e : r = .ok (x, n)) : tot = .ok (f x, b + n) := by
 unfold Via at h
 rw [h, e]; rfl
theorem Via.err {tot : Rs γ} {b n : Nat} {f : α → γ} {r : Rs α} (h : Via tot b f r) (e : r = .error n) : tot = .error (b + n) := by
 unfold Via at h
 rw [h, e]; rfl
end
theorem take1 {r : List Nat} {c : Nat} : r.take [c].length = [c] ↔ r.head? = some c := by
 cases r with
 | nil => simp
 | cons d r => simp
def dec (mo : Option Nat) : Option Nat := mo.map fun m => m - 1
def Capd (mo : Option Nat) (k : Nat) : Prop := ∀ z, mo = some z → k ≤ z
def fsF : List Nat := [50, 51, 52, 53, 54, 55]
def prM : List Nat → Rs Nat
 | a :: b :: _ => if a ∈ fsF then (match sgO a b with | some c => .ok (c, 2) | none => .error 1) else .error 0
 | [a] => if a ∈ fsF then .error 1 else .error 0
 | [] => .error 0
theorem rqs {r : List Nat} {c n : Nat} (h : prM r = .ok (c, n)) : ∃ a b r', r = a :: b :: r' ∧ sgO a b = some c ∧ n = 2 ∧ a ∈ fsF := by
 match r, h with
 | [], h => cases h
 | [a], h =>
  have h : (if a ∈ fsF then (.error 1 : Rs Nat) else .error 0) = .ok (c, n) := h
  by_cases hf : a ∈ fsF
  ·rw [if_pos hf] at h; cases h
  ·rw [if_neg hf] at h; cases h
 | a :: b :: r', h =>
  have h : (if a ∈ fsF then (match sgO a b with | some c => (.ok (c, 2) : Rs Nat) | none => .error 1) else .error 0) = .ok (c, n) := h
  by_cases hf : a ∈ fsF
  ·rw [if_pos hf] at h
   cases hs : sgO a b with
   | none => rw [hs] at h; cases h
   | some d => rw [hs] at h; cases h; exact ⟨a, b, r', rfl, hs, rfl, hf⟩
  ·rw [if_neg hf] at h; cases h
def txtM (fr : List Nat) (r : List Nat) (mo : Option Nat) : Rs (List Nat) :=
 match r with
 | [] => .ok ([], 0)
 | c :: r' =>
  if mo = some 0 then .ok ([], 0)
  else if c = 126 then (match prM r' with | .error n => .error (n + 1) | .ok (s, n) => pre s (n + 1) (txtM fr (r'.drop n) (dec mo)))
  else if isPl c = true ∨ c ∈ fr then pre c 1 (txtM fr r' (dec mo))
  else .ok ([], 0)
termination_by r.length
decreasing_by
 ·simp only [List.length_drop, List.length_cons]; lia
 ·simp only [List.length_cons]; lia
theorem hqY {fr : List Nat} {mo : Option Nat} : txtM fr [] mo = .ok ([], 0) := by rw [txtM]
theorem hqB {fr r : List Nat} : txtM fr r (some 0) = .ok ([], 0) := by
 cases r with
 | nil => exact hqY
 | cons c r => rw [txtM, if_pos rfl]
theorem gql {fr r : List Nat} {mo : Option Nat} (h : mo ≠ some 0) : txtM fr (126 :: r) mo = (match prM r with | .error n => .error (n + 1) | .ok (s, n) => pre s (n + 1) (txtM fr (r.drop n) (dec mo))) := by
 rw [txtM, if_neg h, if_pos rfl]
theorem jqQ {fr r : List Nat} {mo : Option Nat} {c : Nat} (h : mo ≠ some 0) (h1 : c ≠ 126) (h2 : isPl c = true ∨ c ∈ fr) : txtM fr (c :: r) mo = pre c 1 (txtM fr r (dec mo)) := by
 rw [txtM, if_neg h, if_neg h1, if_pos h2]
theorem gqo {fr r : List Nat} {mo : Option Nat} (h : Stops fr r) : txtM fr r mo = .ok ([], 0) := by
 cases r with
 | nil => exact hqY
 | cons c r =>
  obtain ⟨h1, h2, h3⟩ := h c rfl
  by_cases h0 : mo = some 0
  ·rw [h0]; exact hqB
  ·rw [txtM, if_neg h0, if_neg h3, if_neg (fun z => z.elim (fun z => by rw [h1] at z; cases z) h2)]
theorem fqM {fr : List Nat} : ∀ (k : Nat) {r : List Nat} {mo : Option Nat} {s : List Nat} {n : Nat}, r.length ≤ k → txtM fr r mo = .ok (s, n) →
  ∃ w r', r = w ++ r' ∧ w.length = n ∧ WrT fr s w ∧ (Stops fr r' ∨ mo = some s.length) ∧ ∀ m, mo = some m → s.length ≤ m := by
 intro k
 induction k with
 | zero =>
  intro r mo s n hk h
  have hr : r = [] := List.length_eq_zero_iff.mp (by lia)
  subst hr
  rw [hqY] at h
  cases h
  exact ⟨[], [], rfl, rfl, .nil, .inl eqT, fun m _ => Nat.zero_le _⟩
 | succ k ih =>
  intro r mo s n hk h
  cases r with
  | nil =>
   rw [hqY] at h
   cases h
   exact ⟨[], [], rfl, rfl, .nil, .inl eqT, fun m _ => Nat.zero_le _⟩
  | cons c r =>
   simp only [List.length_cons] at hk
   by_cases h0 : mo = some 0
   ·subst h0
    rw [hqB] at h
    cases h
    exact ⟨[], _, rfl, rfl, .nil, .inr rfl, fun m _ => Nat.zero_le _⟩
   have hm : ∀ (s' : List Nat) (x : Nat), (∀ m, dec mo = some m → s'.length ≤ m) → ∀ m, mo = some m → (x :: s').length ≤ m := fun s' x hh m e => by
    subst e
    have := hh (m - 1) rfl
    have h1 : m ≠ 0 := fun z => h0 (by rw [z])
    simp only [List.length_cons]; lia
   have hst : ∀ (s' r' : List Nat) (x : Nat), (Stops fr r' ∨ dec mo = some s'.length) → (Stops fr r' ∨ mo = some (x :: s').length) := fun s' r' x hh => hh.imp id fun e => by
    cases mo with
    | none => cases e
    | some m =>
     have e : some (m - 1) = some s'.length := e
     have h1 : m ≠ 0 := fun z => h0 (by rw [z])
     have e := Option.some.inj e
     rw [List.length_cons, ← e]
     congr 1; lia
   by_cases hc : c = 126
   ·subst hc
    rw [gql h0] at h
    cases hp : prM r with
    | error e => rw [hp] at h; cases h
    | ok x =>
     obtain ⟨x, nx⟩ := x
     obtain ⟨a, b, r2, rfl, hs, rfl, _⟩ := rqs hp
     rw [hp] at h
     simp only [List.drop_succ_cons, List.drop_zero] at h
     cases ht : txtM fr r2 (dec mo) with
     | error e => rw [ht] at h; cases h
     | ok y =>
      obtain ⟨s', m⟩ := y
      rw [ht] at h
      cases h
      obtain ⟨w, r', e1, e2, e3, e4, e5⟩ := ih (by simp only [List.length_cons] at hk; lia) ht
      refine ⟨126 :: a :: b :: w, r', by rw [e1]; rfl, by simp only [List.length_cons]; lia, .pair hs e3, hst s' r' x e4, hm s' x e5⟩
   ·by_cases hp : isPl c = true ∨ c ∈ fr
    ·rw [jqQ h0 hc hp] at h
     cases ht : txtM fr r (dec mo) with
     | error e => rw [ht] at h; cases h
     | ok y =>
      obtain ⟨s', m⟩ := y
      rw [ht] at h
      cases h
      obtain ⟨w, r', e1, e2, e3, e4, e5⟩ := ih (by lia) ht
      exact ⟨c :: w, r', by rw [e1]; rfl, by simp only [List.length_cons]; lia, .self hp hc e3, hst s' r' c e4, hm s' c e5⟩
    ·rw [txtM, if_neg h0, if_neg hc, if_neg hp] at h
     cases h
     refine ⟨[], c :: r, rfl, rfl, .nil, .inl (bqf ⟨?_, fun z => hp (.inr z), hc⟩), fun m _ => Nat.zero_le _⟩
     cases hi : isPl c with
     | false => rfl
     | true => exact absurd (.inl hi) hp
theorem eql {fr r s : List Nat} {mo : Option Nat} {n : Nat} (h : txtM fr r mo = .ok (s, n)) : n ≤ r.length ∧ s.length ≤ n ∧ (s ≠ [] → 0 < n) := by
 obtain ⟨w, r', e1, e2, e3, _⟩ := fqM r.length (Nat.le_refl _) h
 have := sqi e3
 refine ⟨by rw [e1, List.length_append]; lia, by lia, fun z => ?_⟩
 have := List.length_pos_iff.mpr z
 lia
theorem hqX {fr s w r : List Nat} (h : WrT fr s w) : ∀ {mo : Option Nat}, (Stops fr r ∨ mo = some s.length) → (∀ m, mo = some m → s.length ≤ m) → txtM fr (w ++ r) mo = .ok (s, w.length) := by
 induction h with
 | nil =>
  intro mo h1 _
  rcases h1 with h1 | rfl
  ·exact gqo h1
  ·exact hqB
 | self a b _ ih =>
  rename_i c s w _
  intro mo h1 h2
  have h0 : mo ≠ some 0 := fun z => by have := h2 0 z; simp at this
  show txtM fr (c :: (w ++ r)) mo = _
  rw [jqQ h0 b a, ih (h1.imp id fun e => by rw [e]; rfl) (fun m e => by
   cases mo with
   | none => cases e
   | some k => cases e; have := h2 k rfl; simp only [List.length_cons] at this; show s.length ≤ k - 1; lia)]
  show Except.ok (c :: s, 1 + w.length) = _
  rw [List.length_cons, Nat.add_comm]
 | pair hs _ ih =>
  rename_i c a b s w _
  intro mo h1 h2
  have h0 : mo ≠ some 0 := fun z => by have := h2 0 z; simp at this
  have hf : a ∈ fsF := by
   have := (kqH hs).1
   rw [show (Str.ofString "234567").cps.toList = fsF by decide +kernel] at this
   exact this
  have hp : prM (a :: b :: (w ++ r)) = .ok (c, 2) := by
   show (if a ∈ fsF then _ else _) = _
   rw [if_pos hf, hs]
  show txtM fr (126 :: (a :: b :: (w ++ r))) mo = _
  rw [gql h0, hp]
  show pre c 3 (txtM fr (w ++ r) (dec mo)) = _
  rw [ih (h1.imp id fun e => by rw [e]; rfl) (fun m e => by
   cases mo with
   | none => cases e
   | some k => cases e; have := h2 k rfl; simp only [List.length_cons] at this; show s.length ≤ k - 1; lia)]
  show Except.ok (c :: s, 3 + w.length) = _
  simp only [List.length_cons]
  rw [Nat.add_comm]
def filM (fr r : List Nat) (mo : Option Nat) : Rs (List Nat) := match txtM fr r mo with
 | .error n => .error n
 | .ok (s, n) => if s = [] then .error n else .ok (s, n)
def houM (r : List Nat) : Rs (Option (List Nat)) := if r.take 2 = [47, 47] then sh 2 (mp some (filM [] (r.drop 2) (some 60))) else .ok (none, 0)
def dooG : List Nat → Nat → Nat × Nat
 | [], n => (n, 0)
 | c :: r, n => if 0 < n ∧ 48 ≤ c ∧ c ≤ 57 ∧ n * 10 + (c - 48) ≤ 65535 then ((dooG r (n * 10 + (c - 48))).1, (dooG r (n * 10 + (c - 48))).2 + 1) else (n, 0)
def dooM (r : List Nat) : Rs (Option Int) := if r.head? = some 58 then
  match r.drop 1 with
  | [] => .error 1
  | c :: r' => if 48 ≤ c ∧ c ≤ 57 then .ok (some ((dooG r' (c - 48)).1 : Int), 2 + (dooG r' (c - 48)).2) else .error 1
 else .ok (none, 0)
def stpF : Nat → List Nat → Bool → Rs (List (List Nat) × Bool)
 | 0, _, e => .ok (([], e), 0)
 | f + 1, r, e => match txtM frS r none with
  | .error n => .error n
  | .ok (s, n) => if s = [] then .ok (([], e), n)
   else if (r.drop n).head? = some 47 then sh (n + 1) (mp (fun x => (s :: x.1, x.2)) (stpF f (r.drop (n + 1)) true))
   else sh n (mp (fun x => (s :: x.1, x.2)) (stpF f (r.drop n) false))
def wayM (must : Bool) (r : List Nat) : Rs (Bool × List (List Nat) × Bool) :=
 if r.head? = some 47 then sh 1 (mp (fun x => (true, x)) (stpF (r.length + 1) (r.drop 1) true))
 else if must = true then .ok ((true, [], true), 0)
 else mp (fun x => (false, x)) (stpF (r.length + 1) r false)
def valM (r : List Nat) : Rs (Option (List Nat)) := if r.head? = some 61 then sh 1 (mp some (txtM frQ (r.drop 1) none)) else .ok (none, 0)
def marM (r : List Nat) : Rs (Option (List Nat)) := if r.head? = some 35 then sh 1 (mp some (txtM frM (r.drop 1) none)) else .ok (none, 0)
def bdR {α β : Type} (x : Rs α) (f : α → Nat → Rs β) : Rs β := match x with
 | .error n => .error n
 | .ok (a, n) => sh n (f a n)
def prsF : Nat → List Nat → Rs (List (List Nat × Option (List Nat)))
 | 0, _ => .ok ([], 0)
 | f + 1, r => if r.head? = some 38 then
   sh 1 (bdR (filM frQ (r.drop 1) none) fun s n => bdR (valM (r.drop (1 + n))) fun v m => mp (fun l => (s, v) :: l) (prsF f (r.drop (1 + n + m))))
  else .ok ([], 0)
def queM (r : List Nat) : Rs (Option (List (List Nat × Option (List Nat)))) := if r.head? = some 63 then
  sh 1 (bdR (txtM frQ (r.drop 1) none) fun s n => if s = [] then .ok (some [], 0) else
   bdR (valM (r.drop (1 + n))) fun v m => mp (fun l => some ((s, v) :: l)) (prsF (r.length + 1) (r.drop (1 + n + m))))
 else .ok (none, 0)
def bdA {α β : Type} (x : Rs α) (i : Nat) (f : α → Nat → Except Nat β) : Except Nat β := match x with
 | .error n => .error (i + n)
 | .ok (a, n) => f a (i + n)
theorem jqH {α β : Type} {a : α} {n i : Nat} {f : α → Nat → Except Nat β} : bdA (.ok (a, n)) i f = f a (i + n) := rfl
theorem gqv {α β : Type} {n i : Nat} {f : α → Nat → Except Nat β} : bdA (.error n : Rs α) i f = .error (i + n) := rfl
def dorM (h : Option (List Nat)) (r : List Nat) : Rs (Option Int) := if h = none then .ok (none, 0) else dooM r
def readM (t : List Nat) : Except Nat Ad :=
 bdA (houM (t.drop (schP t))) (schP t) fun h i => bdA (dorM h (t.drop i)) i fun d i => bdA (wayM (decide (schM t ≠ [] ∨ h ≠ none)) (t.drop i)) i fun w i =>
  bdA (queM (t.drop i)) i fun q i => bdA (marM (t.drop i)) i fun m i => if i = t.length then .ok ⟨schM t, h, d, w.1, w.2.1, w.2.2, q, m⟩ else .error i
section
variable {t : List Nat} {h : Option (List Nat)} {d : Option Int} {w : Bool × List (List Nat) × Bool} {q : Option (List (List Nat × Option (List Nat)))} {m : Option (List Nat)} {n n1 n2 n3 n4 n5 : Nat}
theorem uq5 (e1 : houM (t.drop (schP t)) = .error n) : readM t = .error (schP t + n) := by unfold readM; simp only [e1, jqH, gqv]
theorem vqd (e1 : houM (t.drop (schP t)) = .ok (h, n1)) (e2 : dorM h (t.drop (schP t + n1)) = .error n) : readM t = .error (schP t + n1 + n) := by
 unfold readM; simp only [e1, e2, jqH, gqv]
theorem uqg (e1 : houM (t.drop (schP t)) = .ok (h, n1)) (e2 : dorM h (t.drop (schP t + n1)) = .ok (d, n2)) (e3 : wayM (decide (schM t ≠ [] ∨ h ≠ none)) (t.drop (schP t + n1 + n2)) = .error n) : readM t = .error (schP t + n1 + n2 + n) := by
 unfold readM; simp only [e1, e2, e3, jqH, gqv]
theorem uqc (e1 : houM (t.drop (schP t)) = .ok (h, n1)) (e2 : dorM h (t.drop (schP t + n1)) = .ok (d, n2)) (e3 : wayM (decide (schM t ≠ [] ∨ h ≠ none)) (t.drop (schP t + n1 + n2)) = .ok (w, n3)) (e4 : queM (t.drop (schP t + n1 + n2 + n3)) = .error n) : readM t = .error (schP t + n1 + n2 + n3 + n) := by
 unfold readM; simp only [e1, e2, e3, e4, jqH, gqv]
theorem vqa (e1 : houM (t.drop (schP t)) = .ok (h, n1)) (e2 : dorM h (t.drop (schP t + n1)) = .ok (d, n2)) (e3 : wayM (decide (schM t ≠ [] ∨ h ≠ none)) (t.drop (schP t + n1 + n2)) = .ok (w, n3)) (e4 : queM (t.drop (schP t + n1 + n2 + n3)) = .ok (q, n4)) (e5 : marM (t.drop (schP t + n1 + n2 + n3 + n4)) = .error n) : readM t = .error (schP t + n1 + n2 + n3 + n4 + n) := by
 unfold readM; simp only [e1, e2, e3, e4, e5, jqH, gqv]
theorem rqE (e1 : houM (t.drop (schP t)) = .ok (h, n1)) (e2 : dorM h (t.drop (schP t + n1)) = .ok (d, n2)) (e3 : wayM (decide (schM t ≠ [] ∨ h ≠ none)) (t.drop (schP t + n1 + n2)) = .ok (w, n3)) (e4 : queM (t.drop (schP t + n1 + n2 + n3)) = .ok (q, n4)) (e5 : marM (t.drop (schP t + n1 + n2 + n3 + n4)) = .ok (m, n5)) :
  readM t = if schP t + n1 + n2 + n3 + n4 + n5 = t.length then .ok ⟨schM t, h, d, w.1, w.2.1, w.2.2, q, m⟩ else .error (schP t + n1 + n2 + n3 + n4 + n5) := by
 unfold readM; simp only [e1, e2, e3, e4, e5, jqH, gqv]
end
section
variable {r : List Nat} {n : Nat}
theorem jqI {fr : List Nat} {mo : Option Nat} {s : List Nat} (h : filM fr r mo = .ok (s, n)) : txtM fr r mo = .ok (s, n) ∧ s ≠ [] := by
 unfold filM at h
 cases e : txtM fr r mo with
 | error k => rw [e] at h; cases h
 | ok x =>
  obtain ⟨s', k⟩ := x
  rw [e] at h
  have h : (if s' = [] then (.error k : Rs (List Nat)) else .ok (s', k)) = .ok (s, n) := h
  by_cases hs : s' = []
  ·rw [if_pos hs] at h; cases h
  ·rw [if_neg hs] at h; cases h; exact ⟨rfl, hs⟩
theorem iqz {α : Type} {k : Nat} {x : Rs α} {a : α} (h : sh k x = .ok (a, n)) : ∃ m, x = .ok (a, m) ∧ n = k + m := by
 cases x with
 | error e => cases h
 | ok y => obtain ⟨y, m⟩ := y; cases h; exact ⟨m, rfl, rfl⟩
theorem hqU {α β : Type} {f : α → β} {x : Rs α} {b : β} (h : mp f x = .ok (b, n)) : ∃ a, x = .ok (a, n) ∧ b = f a := by
 cases x with
 | error e => cases h
 | ok y => obtain ⟨y, m⟩ := y; cases h; exact ⟨y, rfl, rfl⟩
theorem mqF {α β : Type} {x : Rs α} {f : α → Nat → Rs β} {b : β} (h : bdR x f = .ok (b, n)) : ∃ a k m, x = .ok (a, k) ∧ f a k = .ok (b, m) ∧ n = k + m := by
 cases x with
 | error e => cases h
 | ok y =>
  obtain ⟨y, k⟩ := y
  obtain ⟨m, e, en⟩ := iqz (show sh k (f y k) = _ from h)
  exact ⟨y, k, m, rfl, e, en⟩
theorem dq2 {c : Nat} (h : r.head? = some c) : 1 ≤ r.length := by
 cases r with
 | nil => cases h
 | cons d r => simp
theorem rqL {o : Option (List Nat)} (h : houM r = .ok (o, n)) : n ≤ r.length := by
 unfold houM at h
 by_cases h2 : r.take 2 = [47, 47]
 ·rw [if_pos h2] at h
  obtain ⟨m, e, rfl⟩ := iqz h
  obtain ⟨a, e', rfl⟩ := hqU e
  have h1 := (eql (jqI e').1).1
  have h3 := congrArg List.length h2
  rw [List.length_take] at h3
  simp only [List.length_cons, List.length_nil] at h3
  rw [List.length_drop] at h1
  lia
 ·rw [if_neg h2] at h; cases h; lia
theorem rqw {o : Option (List Nat)} (h : valM r = .ok (o, n)) : n ≤ r.length := by
 unfold valM at h
 by_cases h2 : r.head? = some 61
 ·rw [if_pos h2] at h
  obtain ⟨m, e, rfl⟩ := iqz h
  obtain ⟨a, e', rfl⟩ := hqU e
  have h1 := (eql e').1
  have := dq2 h2
  rw [List.length_drop] at h1
  lia
 ·rw [if_neg h2] at h; cases h; lia
theorem uqA {o : Option (List Nat)} (h : marM r = .ok (o, n)) : n ≤ r.length := by
 unfold marM at h
 by_cases h2 : r.head? = some 35
 ·rw [if_pos h2] at h
  obtain ⟨m, e, rfl⟩ := iqz h
  obtain ⟨a, e', rfl⟩ := hqU e
  have h1 := (eql e').1
  have := dq2 h2
  rw [List.length_drop] at h1
  lia
 ·rw [if_neg h2] at h; cases h; lia
theorem oqu : ∀ (r : List Nat) (k : Nat), k ≤ 65535 → (dooG r k).2 ≤ r.length ∧ (dooG r k).1 ≤ 65535
 | [], k, h => ⟨Nat.zero_le _, h⟩
 | c :: r, k, h => by
  unfold dooG
  by_cases hc : 0 < k ∧ 48 ≤ c ∧ c ≤ 57 ∧ k * 10 + (c - 48) ≤ 65535
  ·rw [if_pos hc]
   have := oqu r _ hc.2.2.2
   simp only [List.length_cons]
   exact ⟨by lia, this.2⟩
  ·rw [if_neg hc]; exact ⟨Nat.zero_le _, h⟩
theorem rqo {o : Option Int} (h : dooM r = .ok (o, n)) : n ≤ r.length ∧ ∀ i, o = some i → 0 ≤ i ∧ i ≤ 65535 := by
 unfold dooM at h
 by_cases h2 : r.head? = some 58
 ·rw [if_pos h2] at h
  have hl := dq2 h2
  cases hd : r.drop 1 with
  | nil => rw [hd] at h; cases h
  | cons c r' =>
   rw [hd] at h
   have h : (if 48 ≤ c ∧ c ≤ 57 then (.ok (some ((dooG r' (c - 48)).1 : Int), 2 + (dooG r' (c - 48)).2) : Rs (Option Int)) else .error 1) = .ok (o, n) := h
   by_cases hc : 48 ≤ c ∧ c ≤ 57
   ·rw [if_pos hc] at h
    cases h
    have := oqu r' (c - 48) (by lia)
    have h3 := congrArg List.length hd
    rw [List.length_drop, List.length_cons] at h3
    exact ⟨by lia, fun i e => by cases e; lia⟩
   ·rw [if_neg hc] at h; cases h
 ·rw [if_neg h2] at h; cases h; exact ⟨Nat.zero_le _, fun i e => by cases e⟩
theorem rqv {ho : Option (List Nat)} {o : Option Int} (h : dorM ho r = .ok (o, n)) : n ≤ r.length ∧ ∀ i, o = some i → (0 ≤ i ∧ i ≤ 65535) ∧ ho ≠ none := by
 unfold dorM at h
 by_cases h2 : ho = none
 ·rw [if_pos h2] at h; cases h; exact ⟨Nat.zero_le _, fun i e => by cases e⟩
 ·rw [if_neg h2] at h
  exact ⟨(rqo h).1, fun i e => ⟨(rqo h).2 i e, h2⟩⟩
theorem oqr : ∀ (f : Nat) {r : List Nat} {e : Bool} {ss : List (List Nat)} {e' : Bool} {n : Nat}, stpF f r e = .ok ((ss, e'), n) → n ≤ r.length ∧ (∀ s ∈ ss, ∃ w, s ≠ [] ∧ WrT frS s w ∧ w.length ≤ r.length) ∧ ss.length ≤ n ∧ (ss = [] → e' = e)
 | 0, r, e, ss, e', n, h => by cases h; exact ⟨Nat.zero_le _, (fun s hs => by cases hs), Nat.le_refl _, fun _ => rfl⟩
 | f + 1, r, e, ss, e', n, h => by
  unfold stpF at h
  cases ht : txtM frS r none with
  | error k => rw [ht] at h; cases h
  | ok x =>
   obtain ⟨s, k⟩ := x
   rw [ht] at h
   have h : (if s = [] then (.ok (([], e), k) : Rs (List (List Nat) × Bool)) else if (r.drop k).head? = some 47 then sh (k + 1) (mp (fun x => (s :: x.1, x.2)) (stpF f (r.drop (k + 1)) true)) else sh k (mp (fun x => (s :: x.1, x.2)) (stpF f (r.drop k) false))) = .ok ((ss, e'), n) := h
   obtain ⟨t1, t2, t3⟩ := eql ht
   by_cases hs : s = []
   ·rw [if_pos hs] at h; cases h; exact ⟨t1, (fun s hs => by cases hs), Nat.zero_le _, fun _ => rfl⟩
   rw [if_neg hs] at h
   have hk := t3 hs
   obtain ⟨w, r', e1, e2, e3, _⟩ := fqM r.length (Nat.le_refl _) ht
   have fin : ∀ (b : Nat) (en : Bool) (k' : Nat), k ≤ k' → k' ≤ r.length → sh k' (mp (fun x => (s :: x.1, x.2)) (stpF f (r.drop k') en)) = .ok ((ss, e'), n) → n ≤ r.length ∧ (∀ s ∈ ss, ∃ w, s ≠ [] ∧ WrT frS s w ∧ w.length ≤ r.length) ∧ ss.length ≤ n ∧ (ss = [] → e' = e) := fun b en k' hkk hkl h => by
    obtain ⟨m, h2, rfl⟩ := iqz h
    obtain ⟨a, h3, ea⟩ := hqU h2
    obtain ⟨as, ae⟩ := a
    cases ea
    obtain ⟨i1, i2, i3, i4⟩ := oqr f h3
    rw [List.length_drop] at i1 i2
    refine ⟨by lia, fun x hx => ?_, by simp only [List.length_cons]; lia, fun z => by cases z⟩
    rcases List.mem_cons.mp hx with rfl | hx
    ·exact ⟨w, hs, e3, by lia⟩
    ·obtain ⟨w, z1, z2, z3⟩ := i2 x hx
     exact ⟨w, z1, z2, by lia⟩
   by_cases h47 : (r.drop k).head? = some 47
   ·rw [if_pos h47] at h
    have := dq2 h47
    rw [List.length_drop] at this
    exact fin 0 true (k + 1) (by lia) (by lia) h
   ·rw [if_neg h47] at h
    exact fin 0 false k (Nat.le_refl _) t1 h
theorem rqN {must : Bool} {w : Bool × List (List Nat) × Bool} (h : wayM must r = .ok (w, n)) : n ≤ r.length ∧ (∀ s ∈ w.2.1, ∃ v, s ≠ [] ∧ WrT frS s v ∧ v.length ≤ r.length) ∧ w.2.1.length ≤ n ∧ (w.2.1 = [] → w.2.2 = w.1) ∧ (must = true → w.1 = true) := by
 unfold wayM at h
 by_cases h1 : r.head? = some 47
 ·rw [if_pos h1] at h
  obtain ⟨m, h2, rfl⟩ := iqz h
  obtain ⟨a, h3, rfl⟩ := hqU h2
  obtain ⟨as, ae⟩ := a
  obtain ⟨i1, i2, i3, i4⟩ := oqr _ h3
  have := dq2 h1
  rw [List.length_drop] at i1 i2
  refine ⟨by lia, fun s hs => ?_, by show as.length ≤ _; lia, i4, fun _ => rfl⟩
  obtain ⟨v, z1, z2, z3⟩ := i2 s hs
  exact ⟨v, z1, z2, by lia⟩
 ·rw [if_neg h1] at h
  by_cases h2 : must = true
  ·rw [if_pos h2] at h
   cases h
   exact ⟨Nat.zero_le _, (fun s hs => by cases hs), Nat.zero_le _, fun _ => rfl, fun _ => rfl⟩
  ·rw [if_neg h2] at h
   obtain ⟨a, h3, rfl⟩ := hqU h
   obtain ⟨as, ae⟩ := a
   obtain ⟨i1, i2, i3, i4⟩ := oqr _ h3
   exact ⟨i1, i2, i3, i4, fun z => absurd z h2⟩
end
def Tk {α : Type} (CN : Addr) (H : Hp) (C p : Addr) (t : List Nat) (i : Nat) (r : Rs α) (ok : α → Hp → Prop) (E : XK) : Prop :=
 (∀ a n, r = .ok (a, n) → ∀ H', SameBut p H H' → Cur H' C p t (i + n) → ok a H') ∧
 (∀ n, r = .error n → ∀ d H', SameBut p H H' → H' d = some (.xd [("at", .int ((i + n : Nat) : Int))]) → E (.ref CN) (some d) H')
section
variable {r : List Nat} {n : Nat}
theorem rqH {o : Option (List Nat)} (h : valM r = .ok (o, n)) : n ≤ r.length ∧ ∀ s, o = some s → ∃ w, WrT frQ s w ∧ w.length ≤ r.length := by
 refine ⟨rqw h, fun s es => ?_⟩
 unfold valM at h
 by_cases h2 : r.head? = some 61
 ·rw [if_pos h2] at h
  obtain ⟨m, e, rfl⟩ := iqz h
  obtain ⟨a, e', rfl⟩ := hqU e
  cases es
  obtain ⟨w, r', e1, e2, e3, _⟩ := fqM _ (Nat.le_refl _) e'
  refine ⟨w, e3, ?_⟩
  have := congrArg List.length e1
  rw [List.length_drop, List.length_append] at this
  lia
 ·rw [if_neg h2] at h; cases h; cases es
theorem uqL {o : Option (List Nat)} (h : marM r = .ok (o, n)) : n ≤ r.length ∧ ∀ s, o = some s → ∃ w, WrT frM s w ∧ w.length ≤ r.length := by
 refine ⟨uqA h, fun s es => ?_⟩
 unfold marM at h
 by_cases h2 : r.head? = some 35
 ·rw [if_pos h2] at h
  obtain ⟨m, e, rfl⟩ := iqz h
  obtain ⟨a, e', rfl⟩ := hqU e
  cases es
  obtain ⟨w, r', e1, e2, e3, _⟩ := fqM _ (Nat.le_refl _) e'
  refine ⟨w, e3, ?_⟩
  have := congrArg List.length e1
  rw [List.length_drop, List.length_append] at this
  lia
 ·rw [if_neg h2] at h; cases h; cases es
theorem tq9 {o : Option (List Nat)} (h : houM r = .ok (o, n)) : n ≤ r.length ∧ ∀ s, o = some s → s ≠ [] ∧ s.length ≤ 60 ∧ ∃ w, WrT [] s w := by
 refine ⟨rqL h, fun s es => ?_⟩
 unfold houM at h
 by_cases h2 : r.take 2 = [47, 47]
 ·rw [if_pos h2] at h
  obtain ⟨m, e, rfl⟩ := iqz h
  obtain ⟨a, e', rfl⟩ := hqU e
  cases es
  obtain ⟨e1, e2⟩ := jqI e'
  obtain ⟨w, r', z1, z2, z3, z4, z5⟩ := fqM _ (Nat.le_refl _) e1
  exact ⟨e2, z5 60 rfl, w, z3⟩
 ·rw [if_neg h2] at h; cases h; cases es
def PrOk (k : Nat) (p : List Nat × Option (List Nat)) : Prop := (p.1 ≠ [] ∧ ∃ w, WrT frQ p.1 w ∧ w.length ≤ k) ∧ ∀ s, p.2 = some s → ∃ w, WrT frQ s w ∧ w.length ≤ k
theorem PrOk.mono {k k' : Nat} {p : List Nat × Option (List Nat)} (h : PrOk k p) (z : k ≤ k') : PrOk k' p :=
 ⟨⟨h.1.1, let ⟨w, a, b⟩ := h.1.2; ⟨w, a, Nat.le_trans b z⟩⟩, fun s e => let ⟨w, a, b⟩ := h.2 s e; ⟨w, a, Nat.le_trans b z⟩⟩
theorem rqc : ∀ (f : Nat) {r : List Nat} {l : List (List Nat × Option (List Nat))} {n : Nat}, prsF f r = .ok (l, n) → n ≤ r.length ∧ (∀ p ∈ l, PrOk r.length p) ∧ l.length ≤ n
 | 0, r, l, n, h => by cases h; exact ⟨Nat.zero_le _, (fun s hs => by cases hs), Nat.le_refl _⟩
 | f + 1, r, l, n, h => by
  unfold prsF at h
  by_cases h2 : r.head? = some 38
  ·rw [if_pos h2] at h
   obtain ⟨m, h3, rfl⟩ := iqz h
   obtain ⟨s, k, m2, e1, h4, rfl⟩ := mqF h3
   obtain ⟨v, k2, m3, e2, h5, rfl⟩ := mqF h4
   obtain ⟨l', h6, rfl⟩ := hqU h5
   obtain ⟨i1, i2, i3⟩ := rqc f h6
   obtain ⟨t1, t2⟩ := jqI e1
   obtain ⟨w, r', z1, z2, z3, _⟩ := fqM _ (Nat.le_refl _) t1
   have hh := dq2 h2
   have tl := (eql t1).1
   have vl := rqH e2
   rw [List.length_drop] at i1 i2 tl vl
   have wl := congrArg List.length z1
   rw [List.length_drop, List.length_append] at wl
   refine ⟨by lia, fun p hp => ?_, by simp only [List.length_cons]; lia⟩
   rcases List.mem_cons.mp hp with rfl | hp
   ·exact ⟨⟨t2, w, z3, by lia⟩, fun s e => let ⟨w, a, b⟩ := vl.2 s e; ⟨w, a, by lia⟩⟩
   ·exact (i2 p hp).mono (by lia)
  ·rw [if_neg h2] at h; cases h; exact ⟨Nat.zero_le _, (fun s hs => by cases hs), Nat.zero_le _⟩
theorem rqn {o : Option (List (List Nat × Option (List Nat)))} (h : queM r = .ok (o, n)) : n ≤ r.length ∧ ∀ l, o = some l → (∀ p ∈ l, PrOk r.length p) ∧ l.length ≤ n := by
 unfold queM at h
 by_cases h2 : r.head? = some 63
 ·rw [if_pos h2] at h
  obtain ⟨m, h3, rfl⟩ := iqz h
  obtain ⟨s, k, m2, e1, h4, rfl⟩ := mqF h3
  have hh := dq2 h2
  have tl := (eql e1).1
  rw [List.length_drop] at tl
  have h4 : (if s = [] then (.ok (some [], 0) : Rs (Option (List (List Nat × Option (List Nat))))) else bdR (valM (r.drop (1 + k))) fun v m => mp (fun l => some ((s, v) :: l)) (prsF (r.length + 1) (r.drop (1 + k + m)))) = .ok (o, m2) := h4
  by_cases hs : s = []
  ·rw [if_pos hs] at h4
   cases h4
   exact ⟨by lia, fun l e => by cases e; exact ⟨(fun s hs => by cases hs), Nat.zero_le _⟩⟩
  ·rw [if_neg hs] at h4
   obtain ⟨v, k2, m3, e2, h5, rfl⟩ := mqF h4
   obtain ⟨l', h6, rfl⟩ := hqU h5
   obtain ⟨i1, i2, i3⟩ := rqc _ h6
   obtain ⟨w, r', z1, z2, z3, _⟩ := fqM _ (Nat.le_refl _) e1
   have vl := rqH e2
   rw [List.length_drop] at i1 i2 vl
   have wl := congrArg List.length z1
   rw [List.length_drop, List.length_append] at wl
   have hk := (eql e1).2.2 hs
   refine ⟨by lia, fun l e => ?_⟩
   cases e
   refine ⟨fun p hp => ?_, by simp only [List.length_cons]; lia⟩
   rcases List.mem_cons.mp hp with rfl | hp
   ·exact ⟨⟨hs, w, z3, by lia⟩, fun s e => let ⟨w, a, b⟩ := vl.2 s e; ⟨w, a, by lia⟩⟩
   ·exact (i2 p hp).mono (by lia)
 ·rw [if_neg h2] at h; cases h; exact ⟨Nat.zero_le _, fun l e => by cases e⟩
end
theorem iqy {α β : Type} {x : Rs α} {i : Nat} {f : α → Nat → Except Nat β} {b : β} (h : bdA x i f = .ok b) : ∃ a n, x = .ok (a, n) ∧ f a (i + n) = .ok b := by
 cases x with
 | error e => cases h
 | ok y => obtain ⟨a, n⟩ := y; exact ⟨a, n, rfl, h⟩
theorem qqY {t : List Nat} {x : Ad} (e : readM t = .ok x) : ∃ n1 n2 n3 n4 n5, houM (t.drop (schP t)) = .ok (x.house, n1) ∧ dorM x.house (t.drop (schP t + n1)) = .ok (x.door, n2) ∧ wayM (decide (schM t ≠ [] ∨ x.house ≠ none)) (t.drop (schP t + n1 + n2)) = .ok ((x.rooted, x.steps, x.ends), n3) ∧
  queM (t.drop (schP t + n1 + n2 + n3)) = .ok (x.quest, n4) ∧ marM (t.drop (schP t + n1 + n2 + n3 + n4)) = .ok (x.mark, n5) ∧ schP t + n1 + n2 + n3 + n4 + n5 = t.length ∧ x.scheme = schM t := by
 unfold readM at e
 obtain ⟨h, n1, e1, e⟩ := iqy e
 obtain ⟨d, n2, e2, e⟩ := iqy e
 obtain ⟨w, n3, e3, e⟩ := iqy e
 obtain ⟨q, n4, e4, e⟩ := iqy e
 obtain ⟨m, n5, e5, e⟩ := iqy e
 by_cases hl : schP t + n1 + n2 + n3 + n4 + n5 = t.length
 ·rw [if_pos hl] at e
  cases e
  exact ⟨n1, n2, n3, n4, n5, e1, e2, e3, e4, e5, hl, rfl⟩
 ·rw [if_neg hl] at e; cases e
theorem tqX : ∀ c ∈ frS, isSg c = true := by decide +kernel
theorem rqA : ∀ c ∈ frQ, isSg c = true := by decide +kernel
theorem uq3 : ∀ c ∈ frM, isSg c = true := by decide +kernel
theorem vqy {c : Nat} (h : isPl c = true) : isSg c = true := by
 simp only [isPl, isSg, Bool.or_eq_true, Bool.and_eq_true, decide_eq_true_eq, Bool.not_eq_true', decide_eq_false_iff_not] at *
 lia
theorem kqD {fr s w : List Nat} (hf : ∀ c ∈ fr, isSg c = true) (h : WrT fr s w) : ∀ c ∈ s, isSg c = true := by
 induction h with
 | nil => intro c hc; cases hc
 | self a _ _ ih =>
  intro c hc
  rcases List.mem_cons.mp hc with rfl | hc
  ·exact a.elim vqy (hf _)
  ·exact ih c hc
 | pair a _ ih =>
  intro c hc
  rcases List.mem_cons.mp hc with rfl | hc
  ·exact (kqH a).2.2.2
  ·exact ih c hc
theorem sqG (t : List Nat) : (schM t).length ≤ 8 ∧ (∀ c ∈ schM t, isAln c = true) ∧ ∀ c ∈ (schM t).take 1, isLet c = true := by
 by_cases h : ahead t ≠ [] ∧ schD (.str ⟨(ahead t).toArray⟩) = true ∧ t[(ahead t).length]? = some 58
 ·rw [(hqz h.1 h.2.1 h.2.2).1]
  have h2 := h.2.1
  simp only [schD, Bool.and_eq_true, List.all_eq_true, decide_eq_true_eq] at h2
  exact ⟨h2.1.1.2, h2.2, h2.1.2⟩
 ·rw [(gqF h).1]
  exact ⟨Nat.zero_le _, (fun c hc => by cases hc), fun c hc => by cases hc⟩
theorem pqk (t : List Nat) : schP t ≤ t.length := by
 by_cases h : ahead t ≠ [] ∧ schD (.str ⟨(ahead t).toArray⟩) = true ∧ t[(ahead t).length]? = some 58
 ·rw [(hqz h.1 h.2.1 h.2.2).2, List.length_append, List.length_singleton]
  have := (List.getElem?_eq_some_iff.mp h.2.2).1
  lia
 ·rw [(gqF h).2]; exact Nat.zero_le _
theorem mqb {t : List Nat} {x : Ad} (e : readM t = .ok x) : x.Wf := by
 obtain ⟨n1, n2, n3, n4, n5, e1, e2, e3, e4, e5, hl, es⟩ := qqY e
 have w3 := rqN e3
 have q4 := rqn e4
 have m5 := uqL e5
 refine ⟨by rw [es]; exact sqG t, fun l z => ?_, fun i z => (rqv e2).2 i z, fun s hs => ?_, fun z => ?_, w3.2.2.2.1, fun ps z p hp => ?_, fun l z => ?_⟩
 ·obtain ⟨h1, h2, w, h3⟩ := (tq9 e1).2 l z
  exact ⟨⟨List.length_pos_iff.mpr h1, h2⟩, kqD (fun c hc => by cases hc) h3⟩
 ·obtain ⟨w, h1, h2, _⟩ := w3.2.1 s hs
  exact ⟨List.length_pos_iff.mpr h1, kqD tqX h2⟩
 ·refine w3.2.2.2.2 (decide_eq_true ?_)
  rw [es] at z
  exact z
 ·obtain ⟨⟨h1, w, h2, _⟩, h3⟩ := (q4.2 ps z).1 p hp
  exact ⟨⟨List.length_pos_iff.mpr h1, kqD rqA h2⟩, fun v ev => let ⟨w, a, _⟩ := h3 v ev; kqD rqA a⟩
 ·obtain ⟨w, h1, _⟩ := m5.2 l z
  exact kqD uq3 h1
end Wm
namespace L2
open PySem PySem.Spec PySem.W PySem.Calls PyProof.Rows
def tTryMake (C : Addr) (sp : Sp) (t : TA) : XK → TS := fun Eh D σ H => t σ H fun vs H1 => ∀ x dx, H1 x = none → H1 dx = none → dx ≠ x → sp (.ref x :: vs) (upd (upd H1 dx (.own x)) x (.ins C dx [])) (fun v H2 => v = .non ∧ D.nx σ H2) Eh
theorem qqX {C : Addr} {sp : Sp} {t : TA} {Eh : XK} {D : Ends} {σ : St} {H : Hp} : (tTryMake C sp t Eh D σ H) = (t σ H fun vs H1 => ∀ x dx, H1 x = none → H1 dx = none → dx ≠ x → sp (.ref x :: vs) (upd (upd H1 dx (.own x)) x (.ins C dx [])) (fun v H2 => v = .non ∧ D.nx σ H2) Eh) := rfl
def tTryMeth (C : Addr) (m : Str) (sp : Sp) (ta : TE) (t : TA) : XK → TS := fun Eh D σ H => ta σ H fun x H1 => ∃ a dx fs, x = .ref a ∧ H1 a = some (.ins C dx fs) ∧ fs.lookup m = none ∧ t σ H1 fun vs H2 => sp (x :: vs) H2 (fun _ H3 => D.nx σ H3) Eh
theorem qq0 {C : Addr} {m : Str} {sp : Sp} {ta : TE} {t : TA} {Eh : XK} {D : Ends} {σ : St} {H : Hp} : (tTryMeth C m sp ta t Eh D σ H) = (ta σ H fun x H1 => ∃ a dx fs, x = .ref a ∧ H1 a = some (.ins C dx fs) ∧ fs.lookup m = none ∧ t σ H1 fun vs H2 => sp (x :: vs) H2 (fun _ H3 => D.nx σ H3) Eh) := rfl
section
variable {X : Cx} {k : Nat} {f C : Addr} {fd : FuncData} {ps : List Str} {sp : Sp} {x m : Str} {p pos apos epos : Pos} {e o : Expr} {es : List Expr} {ta : TE} {t : TA}
theorem mq4 (M : Mk X.K C f) (F : FnOk X.prog X.w X.K X.mg X.base (CXN X.prog X.w X.base) k f fd ps sp) (hr : Room (k + 1) X.A) (hg : Gl X x) (hm : X.mg x = some (.ref C)) (hb : Binds X.K fd ps []) (ha : PA X (e :: es) t) (hx0 : ∀ e s, X.xe e s → False)
  (hdb : (x == ("__debug__" : Str)) = false := by decide) (he : starEach (e :: es) X.env = (false, eval e X.env) :: starEach es X.env := by rfl) (hpl : (backTo pos (starEach es X.env)).any (·.1) = false := by rfl)
  (hs : swapsWith (.Call (.Name x p) (e :: es) [] pos) none epos.line X.env = pure false := by rfl) :
  TryB X [.Expr (.Call (.Name x p) (e :: es) [] pos) epos] (tTryMake C sp t) := by
 intro pins s σ H D Eh I h
 refine wpAny_execs_cons (wpAny_Expr_any (wpAny_Call_Name_kw (eqC I hg hm ?_ hdb)) I.quiet hs)
 refine callWith_K (h₀ := X.base) I.ok.mod.kin M.kp (wpAny_mono (ha pos pins s σ H _ I h) (fun us s1 ⟨vs, H1, I1, r, q⟩ => ⟨I1.kIn, ?_⟩) fun e s1 z => (hx0 e s1 z).elim) he hpl
 have hq := q (s1.heap.objs.size + 1) s1.heap.objs.size (I1.hok.fresh (Nat.le_succ _)) (I1.hok.fresh (Nat.le_refl _)) (Nat.ne_of_lt (Nat.lt_succ_self _))
 have I2 := Inv.made (C := C) I1
 have r2 : Vals (V.ref (s1.heap.objs.size + 1) :: vs) (Value.ref (s1.heap.objs.size + 1) :: us) := .cons rfl r
 have hl : (Value.ref (s1.heap.objs.size + 1) :: us ++ []).length = ps.length := by
  rw [List.append_nil, ← r2.length]; exact F.len _ _ _ _ hq
 have hbb := hb _ (Value.ref (s1.heap.objs.size + 1) :: us) I2.kIn hl
 rw [List.append_nil] at hbb
 refine wpAny_call (mq5 (f := f) I1.kIn M.makes M.init (beq_iff_eq.mp M.fn) (codeAny_mono (F.run _ X.stack _ _ ⟨Value.ref (s1.heap.objs.size + 1) :: us, []⟩ _ _ _ Eh (hr.make C us []) (I2.env0.make C us []) hbb r2 hq) fun r s2 hq' => ?_))
 cases r with
 | error ev => exact ⟨_, _, I2, hq'⟩
 | ok fl =>
  cases fl with
  | ret u =>
   obtain ⟨v, H2, I3, rv, ev, q3⟩ := I2.after hq'
   subst ev
   exact ⟨rv, wpAny_execs_nil ⟨σ, H2, I3, q3⟩⟩
  | next => exact False.elim hq'
  | brk => exact False.elim hq'
  | cont => exact False.elim hq'
theorem qqs {pl : Sem Bool} (hE : PE X o ta) (c : Cls X.K C) (hm : Meth X.K C m f) (F : FnOk X.prog X.w X.K X.mg X.base (CXN X.prog X.w X.base) k f fd ps sp) (hr : Room k X.A) (hb : Binds X.K fd ps []) (ha : PA X (e :: es) t) (hx0 : ∀ e s, X.xe e s → False)
  (hst : starEach (e :: es) X.env = (false, eval e X.env) :: starEach es X.env := by rfl) (hpl : (backTo pos (starEach es X.env)).any (·.1) = false := by rfl)
  (ht : eval (.Call (.Attribute o m apos) (e :: es) [] pos) X.env = (do
   let z ← eval o X.env
   standAt apos.atName
   let (g, y) ← holding [z] (getMethod z m pl)
   callWith pos g y (backTo pos (starEach (e :: es) X.env)) (backToKw pos (keywordEach [] X.env))) := by rfl)
  (hs : swapsWith (.Call (.Attribute o m apos) (e :: es) [] pos) none epos.line X.env = pure false := by rfl) :
  TryB X [.Expr (.Call (.Attribute o m apos) (e :: es) [] pos) epos] (tTryMeth C m sp ta t) := by
 intro pins s σ H D Eh I h
 refine wpAny_execs_cons (wpAny_Expr_any (PySem.W.methodCall_KW (pl := pl) (wpAny_mono (hE pins s σ H _ I h) (fun u s1 W' => ?_) fun e s1 z => (hx0 e s1 z).elim) ht) I.quiet hs)
 obtain ⟨x, H1, I1, rx, a, dx, fs, ex, ea, l, q⟩ := W'
 subst ex
 obtain rfl : u = Value.ref a := rx
 refine fqh I1 ea c hm l ?_
 refine PySem.W.callWith_K (first := [.ref a]) (h₀ := X.base) I.ok.mod.kin hm.kp (wpAny_mono (ha pos pins s1 σ H1 _ I1 q) (fun us s2 ⟨vs, H2, I2, r, q2⟩ => ⟨I2.kIn, ?_⟩) fun e s1 z => (hx0 e s1 z).elim) hst hpl
 have r2 : Vals (V.ref a :: vs) (Value.ref a :: us) := .cons rfl r
 have hl : (Value.ref a :: us ++ []).length = ps.length := by rw [List.append_nil, ← r2.length]; exact F.len _ _ _ _ q2
 have hbb := hb s2 (Value.ref a :: us) I2.kIn hl
 rw [List.append_nil] at hbb
 refine wpAny_call (codeAny_mono (F.run X.A X.stack s2 H2 ⟨Value.ref a :: us, []⟩ _ _ _ _ hr I2.env0 hbb r2 q2) fun r s3 hq => ?_)
 cases r with
 | ok fl =>
  cases fl with
  | ret u =>
   obtain ⟨v, H3, I3, rv, q3⟩ := I2.after hq
   exact wpAny_execs_nil ⟨σ, H3, I3, q3⟩
  | next => exact False.elim hq
  | brk => exact False.elim hq
  | cont => exact False.elim hq
 | error ev => exact ⟨H2, s2, I2, hq⟩
end
end L2
namespace Wm
open PySem L2
theorem tqG {o : Option (List Nat)} {w r : List Nat} (h : HouW o w) (h1 : o ≠ none → Stops [] r) (h2 : o = none → ¬ r.take 2 = [47, 47]) : houM (w ++ r) = .ok (o, w.length) := by
 cases o with
 | none =>
  have h : w = [] := h
  subst h
  unfold houM
  rw [List.nil_append, if_neg (h2 rfl)]; rfl
 | some s =>
  obtain ⟨v, rfl, hv, hne, hl⟩ := h
  unfold houM
  rw [if_pos (by simp)]
  have e : txtM [] (v ++ r) (some 60) = .ok (s, v.length) := hqX hv (.inl (h1 (by simp))) (fun m e => by cases e; exact hl)
  have e2 : filM [] (v ++ r) (some 60) = .ok (s, v.length) := by unfold filM; rw [e]; exact if_neg hne
  show sh 2 (mp some (filM [] (v ++ r) (some 60))) = _
  rw [e2]
  show Except.ok (some s, 2 + v.length) = _
  simp only [List.length_cons]
  rw [Nat.add_comm]
theorem pqD : ∀ (ds dn r : List Nat), (∀ c ∈ ds, 48 ≤ c ∧ c ≤ 57) → (∀ c, r.head? = some c → ¬ (48 ≤ c ∧ c ≤ 57)) → (ds ≠ [] → 0 < valD dn) → valD (dn ++ ds) ≤ 65535 → dooG (ds ++ r) (valD dn) = (valD (dn ++ ds), ds.length)
 | [], dn, r, _, h2, _, _ => by
  rw [List.nil_append, List.append_nil]
  cases r with
  | nil => rfl
  | cons c r => unfold dooG; rw [if_neg (fun z => h2 c rfl ⟨z.2.1, z.2.2.1⟩)]; rfl
 | c :: ds, dn, r, h1, h2, h3, h4 => by
  have hc := h1 c (List.mem_cons_self ..)
  have h0 := h3 (by simp)
  have hle := oqt ds (dn ++ [c])
  rw [List.append_assoc] at hle
  have hle : valD (dn ++ [c]) ≤ valD (dn ++ c :: ds) := hle
  rw [eqG] at hle
  have ih := pqD ds (dn ++ [c]) r (fun x hx => h1 x (List.mem_cons_of_mem _ hx)) h2 (fun _ => by rw [eqG]; lia) (by rw [List.append_assoc]; exact h4)
  rw [eqG, List.append_assoc] at ih
  show dooG (c :: (ds ++ r)) (valD dn) = _
  unfold dooG
  rw [if_pos ⟨h0, hc.1, hc.2, by lia⟩, ih]
  rfl
theorem uqC {o : Option Int} {w r : List Nat} (h : DooW o w) (h1 : ∀ c, r.head? = some c → ¬ (48 ≤ c ∧ c ≤ 57)) (h2 : o = none → r.head? ≠ some 58) : dooM (w ++ r) = .ok (o, w.length) := by
 cases o with
 | none =>
  have h : w = [] := h
  subst h
  unfold dooM
  rw [List.nil_append, if_neg (h2 rfl)]; rfl
 | some n =>
  obtain ⟨ds, rfl, hne, hf, rfl, hl, hz⟩ := h
  cases ds with
  | nil => exact absurd rfl hne
  | cons c ds =>
   have hc := hf c (List.mem_cons_self ..)
   unfold dooM
   rw [if_pos (by simp)]
   show (if 48 ≤ c ∧ c ≤ 57 then (.ok (some ((dooG (ds ++ r) (c - 48)).1 : Int), 2 + (dooG (ds ++ r) (c - 48)).2) : Rs (Option Int)) else .error 1) = _
   have e0 : valD [c] = c - 48 := by unfold valD; simp
   have e := pqD ds [c] r (fun x hx => hf x (List.mem_cons_of_mem _ hx)) h1 (fun hd => by
    rcases hz with z | z
    ·cases ds with
     | nil => exact absurd rfl hd
     | cons _ _ => cases z
    ·rw [e0]
     have : c ≠ 48 := fun q => z (by rw [q]; rfl)
     lia) hl
   rw [e0] at e
   rw [if_pos hc, e]
   show Except.ok (some ((valD (c :: ds) : Nat) : Int), 2 + ds.length) = _
   simp only [List.length_cons]
   rw [Nat.add_comm 2 ds.length]
theorem rqi {ss : List (List Nat)} {e : Bool} {v rest : List Nat} (h2 : Stops frS rest) (h3 : rest.head? ≠ some 47) (h : StpW ss e v) : ∀ (f : Nat) (en : Bool), v.length < f → (ss = [] → e = en) → stpF f (v ++ rest) en = .ok ((ss, e), v.length) := by
 have tl : ∀ (ss : List (List Nat)) (e : Bool) (v : List Nat), TlW ss e v → ∀ (s w : List Nat) (f : Nat) (en : Bool), WrT frS s w → s ≠ [] → (w ++ v).length < f → stpF f (w ++ v ++ rest) en = .ok ((s :: ss, e), (w ++ v).length) := by
  intro ss e v ht
  have done : ∀ (f : Nat) (en : Bool), 0 < f → stpF f rest en = .ok (([], en), 0) := fun f en hf => by
   obtain ⟨k, rfl⟩ : ∃ k, f = k + 1 := ⟨f - 1, by lia⟩
   unfold stpF
   rw [gqo h2]; rfl
  have first : ∀ (s w v : List Nat) (f : Nat) (en : Bool), WrT frS s w → s ≠ [] → TlW ss e v → stpF (f + 1) (w ++ v ++ rest) en = if (v ++ rest).head? = some 47 then sh (w.length + 1) (mp (fun x => (s :: x.1, x.2)) (stpF f ((v ++ rest).drop 1) true)) else sh w.length (mp (fun x => (s :: x.1, x.2)) (stpF f (v ++ rest) false)) := fun s w v f en hw hs ht => by
   conv => lhs; unfold stpF
   rw [List.append_assoc, hqX hw (.inl (mqR ht h2)) (fun m z => by cases z)]
   show (if s = [] then _ else _) = _
   rw [if_neg hs, List.drop_left, show (w ++ (v ++ rest)).drop (w.length + 1) = (v ++ rest).drop 1 by rw [← List.drop_drop, List.drop_left]]
  induction ht with
  | stop =>
   intro s w f en hw hs hf
   obtain ⟨k, rfl⟩ : ∃ k, f = k + 1 := ⟨f - 1, by lia⟩
   obtain ⟨c, r, rfl, _⟩ := nql hw hs
   rw [first s _ [] k en hw hs .stop, List.nil_append, if_neg h3, done k false (by simp at hf; lia), List.append_nil]
   rfl
  | ends =>
   intro s w f en hw hs hf
   obtain ⟨k, rfl⟩ : ∃ k, f = k + 1 := ⟨f - 1, by lia⟩
   rw [first s w [47] k en hw hs .ends]
   show (if (47 :: rest).head? = some 47 then _ else _) = _
   rw [if_pos List.head?_cons]
   show sh (w.length + 1) (mp _ (stpF k rest true)) = _
   rw [done k true (by simp at hf; lia), List.length_append]
   rfl
  | more hw2 hs2 ht2 ih =>
   rename_i s2 w2 ss2 e2 v2
   intro s w f en hw hs hf
   obtain ⟨k, rfl⟩ : ∃ k, f = k + 1 := ⟨f - 1, by lia⟩
   rw [first s w _ k en hw hs (.more hw2 hs2 ht2)]
   show (if (47 :: (w2 ++ v2 ++ rest)).head? = some 47 then _ else _) = _
   rw [if_pos List.head?_cons]
   show sh (w.length + 1) (mp _ (stpF k (w2 ++ v2 ++ rest) true)) = _
   have ih2 := ih (fun s w v f en a b c => by
    conv => lhs; unfold stpF
    rw [List.append_assoc, hqX a (.inl (mqR c h2)) (fun m z => by cases z)]
    show (if s = [] then _ else _) = _
    rw [if_neg b, List.drop_left, show (w ++ (v ++ rest)).drop (w.length + 1) = (v ++ rest).drop 1 by rw [← List.drop_drop, List.drop_left]]) s2 w2 k true hw2 hs2 (by simp only [List.length_append, List.length_cons] at hf ⊢; lia)
   rw [ih2]
   show Except.ok ((s :: s2 :: ss2, e2), w.length + 1 + (w2 ++ v2).length) = _
   simp only [List.length_append, List.length_cons]
   rw [show w.length + 1 + (w2.length + v2.length) = w.length + (w2.length + v2.length + 1) by lia]
 intro f en hf hen
 cases h with
 | none =>
  obtain ⟨k, rfl⟩ : ∃ k, f = k + 1 := ⟨f - 1, by lia⟩
  unfold stpF
  rw [List.nil_append, gqo h2, hen rfl]; rfl
 | some hw hs ht => exact tl _ _ _ ht _ _ f en hw hs hf
theorem tqK {ss : List (List Nat)} {e rt must : Bool} {v rest : List Nat} (h : StpW ss e v) (he : ss = [] → e = rt) (hm : must = true → rt = true) (h2 : Stops frS rest) (h3 : rest.head? ≠ some 47) :
  wayM must ((if rt then [47] else []) ++ (v ++ rest)) = .ok ((rt, ss, e), (if rt then [47] else []).length + v.length) := by
 unfold wayM
 cases rt with
 | true =>
  show (if (47 :: (v ++ rest)).head? = some 47 then _ else _) = _
  rw [if_pos List.head?_cons]
  show sh 1 (mp _ (stpF _ (v ++ rest) true)) = _
  rw [rqi h2 h3 h _ true (by simp; lia) he]
  rfl
 | false =>
  show (if (v ++ rest).head? = some 47 then _ else _) = _
  rw [if_neg (nqk h h3), if_neg (fun z => by cases hm z)]
  show mp _ (stpF _ (v ++ rest) false) = _
  rw [rqi h2 h3 h _ false (by simp; lia) he]
  show Except.ok ((false, ss, e), v.length) = Except.ok ((false, ss, e), 0 + v.length)
  rw [Nat.zero_add]
theorem rqx {o : Option (List Nat)} {w r : List Nat} (h : ValW o w) (h1 : Stops frQ r) (h2 : r.head? ≠ some 61) : valM (w ++ r) = .ok (o, w.length) := by
 cases o with
 | none =>
  have h : w = [] := h
  subst h
  unfold valM
  rw [List.nil_append, if_neg h2]; rfl
 | some s =>
  obtain ⟨v, rfl, hv⟩ := h
  unfold valM
  rw [if_pos (by simp)]
  show sh 1 (mp some (txtM frQ (v ++ r) none)) = _
  rw [hqX hv (.inl h1) (fun m z => by cases z)]
  show Except.ok (some s, 1 + v.length) = _
  rw [List.length_cons, Nat.add_comm]
theorem uqk {o : Option (List Nat)} {w : List Nat} (h : MarW o w) : marM w = .ok (o, w.length) := by
 cases o with
 | none =>
  have h : w = [] := h
  subst h
  rfl
 | some s =>
  obtain ⟨v, rfl, hv⟩ := h
  unfold marM
  rw [if_pos (by simp)]
  show sh 1 (mp some (txtM frM v none)) = _
  have := hqX (r := []) hv (.inl eqT) (mo := none) (fun m z => by cases z)
  rw [List.append_nil] at this
  rw [this]
  show Except.ok (some s, 1 + v.length) = _
  rw [List.length_cons, Nat.add_comm]
theorem tqH {rest : List Nat} (hr : rest = [] ∨ ∃ x, rest = 35 :: x) {ps : List (List Nat × Option (List Nat))} {w : List Nat} (h : PrsW ps w) : ∀ f, w.length < f → prsF f (w ++ rest) = .ok (ps, w.length) := by
 induction h with
 | nil =>
  intro f hf
  obtain ⟨k, rfl⟩ : ∃ k, f = k + 1 := ⟨f - 1, by lia⟩
  unfold prsF
  rw [List.nil_append, if_neg (by rcases hr with rfl | ⟨x, rfl⟩ <;> simp)]
  rfl
 | cons hw hn hv hp ih =>
  rename_i n w v o ps r
  intro f hf
  obtain ⟨k, rfl⟩ : ∃ k, f = k + 1 := ⟨f - 1, by lia⟩
  have hst := iqM hp hr
  unfold prsF
  rw [show (38 :: (w ++ (v ++ r)) ++ rest) = 38 :: (w ++ (v ++ (r ++ rest))) by simp, if_pos List.head?_cons]
  have e1 : filM frQ (w ++ (v ++ (r ++ rest))) none = .ok (n, w.length) := by
   unfold filM
   rw [hqX hw (.inl (kqS hv hst.1)) (fun m z => by cases z)]
   exact if_neg hn
  show sh 1 (bdR (filM frQ (w ++ (v ++ (r ++ rest))) none) _) = _
  rw [e1]
  show sh 1 (sh w.length (bdR (valM ((38 :: (w ++ (v ++ (r ++ rest)))).drop (1 + w.length))) _)) = _
  have d1 : (38 :: (w ++ (v ++ (r ++ rest)))).drop (1 + w.length) = v ++ (r ++ rest) := by rw [Nat.add_comm, List.drop_succ_cons, List.drop_left]
  rw [d1, rqx hv hst.1 hst.2]
  show sh 1 (sh w.length (sh v.length (mp _ (prsF k ((38 :: (w ++ (v ++ (r ++ rest)))).drop (1 + w.length + v.length)))))) = _
  rw [← List.drop_drop, d1, List.drop_left, ih k (by simp only [List.length_cons, List.length_append] at hf; lia)]
  show Except.ok ((n, o) :: ps, 1 + (w.length + (v.length + r.length))) = _
  simp only [List.length_cons, List.length_append]
  rw [Nat.add_comm 1]
theorem uqX {rest : List Nat} (hr : rest = [] ∨ ∃ x, rest = 35 :: x) {q : Option (List (List Nat × Option (List Nat)))} {w : List Nat} (h : QueW q w) : queM (w ++ rest) = .ok (q, w.length) := by
 have h63 : rest.head? ≠ some 63 := by rcases hr with rfl | ⟨x, rfl⟩ <;> simp
 match q, h with
 | none, h =>
  have h : w = [] := h
  subst h
  unfold queM
  rw [List.nil_append, if_neg h63]; rfl
 | some [], h =>
  have h : w = [63] := h
  subst h
  unfold queM
  rw [show [63] ++ rest = 63 :: rest from rfl, if_pos List.head?_cons]
  show sh 1 (bdR (txtM frQ rest none) _) = _
  rw [gqo (show Stops frQ rest from (iqM .nil hr).1)]
  rfl
 | some ((n, o) :: ps), h =>
  obtain ⟨a, v, r, rfl, ha, hn, hv, hps⟩ := h
  have hst := iqM hps hr
  unfold queM
  rw [show (63 :: (a ++ (v ++ r)) ++ rest) = 63 :: (a ++ (v ++ (r ++ rest))) by simp, if_pos List.head?_cons]
  show sh 1 (bdR (txtM frQ (a ++ (v ++ (r ++ rest))) none) _) = _
  rw [hqX ha (.inl (kqS hv hst.1)) (fun m z => by cases z)]
  show sh 1 (sh a.length (if n = [] then _ else bdR (valM ((63 :: (a ++ (v ++ (r ++ rest)))).drop (1 + a.length))) _)) = _
  have d1 : (63 :: (a ++ (v ++ (r ++ rest)))).drop (1 + a.length) = v ++ (r ++ rest) := by rw [Nat.add_comm, List.drop_succ_cons, List.drop_left]
  rw [if_neg hn, d1, rqx hv hst.1 hst.2]
  show sh 1 (sh a.length (sh v.length (mp _ (prsF _ ((63 :: (a ++ (v ++ (r ++ rest)))).drop (1 + a.length + v.length)))))) = _
  rw [← List.drop_drop, d1, List.drop_left, tqH hr hps _ (by simp only [List.length_cons, List.length_append]; lia)]
  show Except.ok (some ((n, o) :: ps), 1 + (a.length + (v.length + r.length))) = _
  simp only [List.length_cons, List.length_append]
  rw [Nat.add_comm 1]
def RdV (x : Ad) (t : List Nat) : Prop := ∃ h d g w q m, t = schT x.scheme ++ (h ++ (d ++ (g ++ (w ++ (q ++ m))))) ∧ schM t = x.scheme ∧ HouW x.house h ∧ DooW x.door d ∧ (g = (if x.rooted then [47] else []) ∨ (g = [] ∧ x.rooted = true ∧ x.steps = [] ∧ (x.scheme ≠ [] ∨ x.house ≠ none))) ∧ StpW x.steps x.ends w ∧ QueW x.quest q ∧ MarW x.mark m
theorem RdW.v {x : Ad} {t : List Nat} (h : RdW x t) : RdV x t := by
 obtain ⟨h, d, w, q, m, e, es, hH, hD, hS, hQ, hM⟩ := h
 exact ⟨h, d, _, w, q, m, e, es, hH, hD, .inl rfl, hS, hQ, hM⟩
theorem qqr {x : Ad} {t : List Nat} (hw : RdV x t) (wf : x.Wf) : readM t = .ok x := by
 obtain ⟨hT, dT, gT, wT, qT, mT, et, es, hH, hD, hG, hS, hQ, hM⟩ := hw
 have hmr : mT = [] ∨ ∃ y, mT = 35 :: y := by
  cases hm : x.mark with
  | none => rw [hm] at hM; exact .inl hM
  | some s => rw [hm] at hM; obtain ⟨v, e, _⟩ := hM; exact .inr ⟨v, e⟩
 have hrq : qT ++ mT = [] ∨ (∃ y, qT ++ mT = 35 :: y) ∨ ∃ y, qT ++ mT = 63 :: y := by
  cases hq : x.quest with
  | none =>
   rw [hq] at hQ
   have hQ : qT = [] := hQ
   rw [hQ]
   rcases hmr with e | ⟨y, e⟩
   ·exact .inl e
   ·exact .inr (.inl ⟨y, e⟩)
  | some ps =>
   rw [hq] at hQ
   cases ps with
   | nil =>
    have hQ : qT = [63] := hQ
    exact .inr (.inr ⟨mT, by rw [hQ]; rfl⟩)
   | cons a ps =>
    obtain ⟨n, o⟩ := a
    obtain ⟨a, v, r, e, _⟩ := hQ
    exact .inr (.inr ⟨_, by rw [e]; rfl⟩)
 have eP : schP t = (schT x.scheme).length := by unfold schP; rw [es]
 have dr : ∀ {a b : List Nat}, t = a ++ b → t.drop a.length = b := fun {a b} e => by rw [e, List.drop_left]
 have hrt : x.house ≠ none → x.rooted = true := fun z => wf.roo (.inr z)
 have hq47 : (qT ++ mT).head? ≠ some 47 := fun z => by rcases hrq with e | ⟨y, e⟩ | ⟨y, e⟩ <;> rw [e] at z <;> cases z
 have hqS : ∀ fr : List Nat, (35 : Nat) ∉ fr → (63 : Nat) ∉ fr → Stops fr (qT ++ mT) := fun fr h1 h2 => by
  rcases hrq with e | ⟨y, e⟩ | ⟨y, e⟩ <;> rw [e]
  ·exact eqT
  ·exact bqf ⟨by decide, h1, by decide⟩
  ·exact bqf ⟨by decide, h2, by decide⟩
 have h47 := nqk hS hq47
 have omtd : gT = [] ∧ x.rooted = true ∧ x.steps = [] ∧ (x.scheme ≠ [] ∨ x.house ≠ none) → wT = [] := fun z => by
  rw [z.2.2.1] at hS
  generalize x.ends = en at hS
  cases hS
  rfl
 have behind : x.house ≠ none → (∃ y, gT ++ (wT ++ (qT ++ mT)) = 47 :: y) ∨ gT ++ (wT ++ (qT ++ mT)) = qT ++ mT := fun z => by
  rcases hG with e | e
  ·rw [e, hrt z]; exact .inl ⟨_, rfl⟩
  ·rw [e.1, omtd e]; exact .inr rfl
 have e1 : houM (t.drop (schP t)) = .ok (x.house, hT.length) := by
  rw [eP, dr et]
  refine tqG hH (fun hn => ?_) (fun hn => ?_)
  ·cases hdo : x.door with
   | none =>
    rw [hdo] at hD
    have hD : dT = [] := hD
    rw [hD, List.nil_append]
    rcases behind hn with ⟨y, e⟩ | e
    ·rw [e]; exact bqf ⟨by decide, by simp, by decide⟩
    ·rw [e]; exact hqS [] (by simp) (by simp)
   | some n =>
    rw [hdo] at hD
    obtain ⟨ds, rfl, _⟩ := hD
    exact bqf ⟨by decide, by simp, by decide⟩
  ·cases hdo : x.door with
   | some n => exact absurd hn (wf.doo n hdo).2
   | none =>
    rw [hdo] at hD
    have hD : dT = [] := hD
    rw [hD, List.nil_append]
    have no : ∀ l : List Nat, l.head? ≠ some 47 → ¬ l.take 2 = [47, 47] ∧ ¬ (47 :: l).take 2 = [47, 47] := fun l hl => by
     cases l with
     | nil => simp
     | cons c l =>
      have hc : c ≠ 47 := fun z => hl (by rw [z]; rfl)
      simp [hc]
    rcases hG with e | e
    ·rw [e]
     cases x.rooted with
     | true => exact (no _ h47).2
     | false => exact (no _ h47).1
    ·rw [e.1]; exact (no _ h47).1
 have e2 : dorM x.house (t.drop (schP t + hT.length)) = .ok (x.door, dT.length) := by
  rw [eP, ← List.length_append, dr (b := dT ++ (gT ++ (wT ++ (qT ++ mT)))) (by rw [et]; simp)]
  unfold dorM
  by_cases hn : x.house = none
  ·rw [if_pos hn]
   cases hdo : x.door with
   | some n => exact absurd hn (wf.doo n hdo).2
   | none =>
    rw [hdo] at hD
    have hD : dT = [] := hD
    rw [hD]; rfl
  ·rw [if_neg hn]
   refine uqC hD (fun c hc => ?_) (fun _ => ?_)
   ·rcases behind hn with ⟨y, e⟩ | e
    ·rw [e] at hc; cases hc; decide
    ·rw [e] at hc
     rcases hrq with e | ⟨y, e⟩ | ⟨y, e⟩ <;> rw [e] at hc <;> cases hc <;> decide
   ·rcases behind hn with ⟨y, e⟩ | e
    ·rw [e]; simp
    ·rw [e]
     rcases hrq with e | ⟨y, e⟩ | ⟨y, e⟩ <;> rw [e] <;> simp
 have e3 : wayM (decide (schM t ≠ [] ∨ x.house ≠ none)) (t.drop (schP t + hT.length + dT.length)) = .ok ((x.rooted, x.steps, x.ends), gT.length + wT.length) := by
  rw [eP, ← List.length_append, ← List.length_append, dr (b := gT ++ (wT ++ (qT ++ mT))) (by rw [et]; simp), es]
  rcases hG with e | e
  ·rw [e]
   exact tqK hS wf.end_ (fun z => wf.roo (of_decide_eq_true z)) (hqS frS (by decide +kernel) (by decide +kernel)) hq47
  ·rw [e.1, omtd e, List.nil_append, List.nil_append]
   unfold wayM
   rw [if_neg hq47, if_pos (decide_eq_true e.2.2.2), wf.end_ e.2.2.1, e.2.1, e.2.2.1]
   rfl
 have e4 : queM (t.drop (schP t + hT.length + dT.length + (gT.length + wT.length))) = .ok (x.quest, qT.length) := by
  rw [eP, ← List.length_append, ← List.length_append, ← List.length_append, ← List.length_append, dr (b := qT ++ mT) (by rw [et]; simp)]
  exact uqX hmr hQ
 have e5 : marM (t.drop (schP t + hT.length + dT.length + (gT.length + wT.length) + qT.length)) = .ok (x.mark, mT.length) := by
  rw [eP, ← List.length_append, ← List.length_append, ← List.length_append, ← List.length_append, ← List.length_append, dr (b := mT) (by rw [et]; simp)]
  exact uqk hM
 rw [rqE e1 e2 e3 e4 e5, if_pos, es]
 rw [eP]
 have := congrArg List.length et
 simp only [List.length_append] at this
 lia
end Wm
namespace L2
open PySem PySem.Spec PyProof.Rows
section
variable {X : Cx}
def rStart1 : V → List V → Hp → VK → Prop := fun x vs H Q => ∃ z y : List Nat, x = .str ⟨z.toArray⟩ ∧ vs = [.str ⟨y.toArray⟩] ∧ Q (.bl (decide (z.take y.length = y))) H
def rEnd1 : V → List V → Hp → VK → Prop := fun x vs H Q => ∃ z y : List Nat, x = .str ⟨z.toArray⟩ ∧ vs = [.str ⟨y.toArray⟩] ∧ Q (.bl (decide (z.drop (z.length - y.length) = y))) H
theorem uqD {i j : Nat} {ta : TA} {D : Ends} {σ : St} {H : Hp} : (tPar i j ta D σ H) = (ta σ H fun vs H1 => ∃ v w, vs = [v, w] ∧ D.nx ((σ.set i (some v)).set j (some w)) H1) := rfl
theorem rqW {z y : List Nat} {H : Hp} {Q : VK} : rStart1 (.str ⟨z.toArray⟩) [.str ⟨y.toArray⟩] H Q ↔ Q (.bl (decide (z.take y.length = y))) H :=
 ⟨fun ⟨z', y', e1, e2, h⟩ => by
  injection e1 with e1; injection e1 with e1
  injection e2 with e2; injection e2 with e2; injection e2 with e2
  have h1 : z = z' := by simpa using congrArg Array.toList e1
  have h2 : y = y' := by simpa using congrArg Array.toList e2
  subst h1 h2; exact h, fun h => ⟨z, y, rfl, rfl, h⟩⟩
theorem tqj {z y : List Nat} {H : Hp} {Q : VK} : rEnd1 (.str ⟨z.toArray⟩) [.str ⟨y.toArray⟩] H Q ↔ Q (.bl (decide (z.drop (z.length - y.length) = y))) H :=
 ⟨fun ⟨z', y', e1, e2, h⟩ => by
  injection e1 with e1; injection e1 with e1
  injection e2 with e2; injection e2 with e2; injection e2 with e2
  have h1 : z = z' := by simpa using congrArg Array.toList e1
  have h2 : y = y' := by simpa using congrArg Array.toList e2
  subst h1 h2; exact h, fun h => ⟨z, y, rfl, rfl, h⟩⟩
end
end L2
namespace L2
open PySem
section
variable {p : Addr} {fv : St} {tt : TT} {te : TE} {Q : VK} {H1 : Hp} {K : PySem.W.Frag}
end
end L2
namespace Wm
open PySem L2
inductive Pc
 | step (s : List Nat)
 | part (h n t : List Nat)
 | num (n : List Nat)
 | word (n : List Nat)
 | gap (n : List Nat)
 | rest (n : List Nat)
abbrev tV (l : List Nat) : V := .str ⟨l.toArray⟩
def Pc.kw : Pc → Str
 | .step _ => Str.ofString "step"
 | .part .. => Str.ofString "part"
 | .num _ => Str.ofString "number"
 | .word _ => Str.ofString "word"
 | .gap _ => Str.ofString "gap"
 | .rest _ => Str.ofString "rest"
def Pc.tl : Pc → List V
 | .step s => [tV s]
 | .part h n t => [tV h, tV n, tV t]
 | .num n => [tV n]
 | .word n => [tV n]
 | .gap n => [tV n]
 | .rest n => [tV n]
def Pc.vals (c : Pc) : List V := .str c.kw :: c.tl
def Pc.name : Pc → List Nat
 | .step _ => []
 | .part _ n _ => n
 | .num n => n
 | .word n => n
 | .gap n => n
 | .rest n => n
def Pc.head : Pc → List Nat | .part h _ _ => h | _ => []
def Pc.tail : Pc → List Nat | .part _ _ t => t | _ => []
inductive Vl
 | txt (l : List Nat)
 | int (i : Int)
 | lst (ls : List (List Nat))
def VlV (H : Hp) : Vl → V → Prop
 | .txt l, v => v = tV l
 | .int i, v => v = .int i
 | .lst ls, v => ∃ p, v = .ref p ∧ H p = some (.lst (ls.map tV))
inductive PcAll (K : PySem.W.Frag) (H : Hp) : List Pc → List V → Prop
 | nil : PcAll K H [] []
 | cons {c : Pc} {p : Addr} {cs : List Pc} {xs : List V} : SqT K H p c.vals → PcAll K H cs xs → PcAll K H (c :: cs) (.ref p :: xs)
inductive BndV (H : Hp) (l : Addr) : List (List Nat × Vl) → List V → Prop
 | nil : BndV H l [] []
 | cons {n : List Nat} {x : Vl} {p : Addr} {v : V} {bs : List (List Nat × Vl)} {ys : List V} : H p = some (.tup [tV n, v]) → VlV H x v → (∀ q, v = .ref q → q ≠ l) → BndV H l bs ys → BndV H l ((n, x) :: bs) (.ref p :: ys)
theorem mqE {H : Hp} : ∀ (ls : List (List Nat)), IsAll H (ls.map st) (ls.map tV)
 | [] => .nil
 | l :: ls => .cons (.str _) (mqE ls)
inductive PcT (H : Hp) : List Pc → List V → Prop
 | nil : PcT H [] []
 | cons {c : Pc} {p : Addr} {cs : List Pc} {xs : List V} : H p = some (.tup c.vals) → PcT H cs xs → PcT H (c :: cs) (.ref p :: xs)
end Wm
namespace HT
open PySem PyProof.Rows
section
open PySem.SeqAt
open PySem.AutoSeq1 (wpAny_loadPart')
open PySem.MeetsSeq PySem.MeetsSeq2 PySem.MeetsSeq3
end
section
variable {prog : Program} {w : World} {A : Around} {E : Value → Shared → Prop} {s : Shared}
end
end HT
namespace L2
open PySem PySem.Spec PyProof.Rows PyProof.V
section
variable {X : Cx} {o i : Expr} {x : Str} {np pos : Pos} {td ty : TE}
def tTab (p : Addr) (D : List (PyData × PyData)) (td ty : TE) : TE := fun σ H Q => td σ H fun x H1 => ty σ H1 fun y H2 => x = .ref p ∧ ∃ (k : Str) (n : Int), y = .str k ∧ lookup (.str k) D = some (.int n) ∧ Q (.int n) H2
theorem uqB {p : Addr} {D : List (PyData × PyData)} {σ : St} {H : Hp} {Q : VK} : (tTab p D td ty σ H Q) = (td σ H fun x H1 => ty σ H1 fun y H2 => x = .ref p ∧ ∃ (k : Str) (n : Int), y = .str k ∧ lookup (.str k) D = some (.int n) ∧ Q (.int n) H2) := rfl
theorem uqi {p : Addr} {D : List (PyData × PyData)} (T : ∀ h : Heap, X.K.In h → StrTab X.prog X.w h p D) (ho : PE X (.Name x np) td) (hi : PE X i ty) (hs : ∀ ov iv, subscripted i false ov iv = operate [ov, iv] (getItem ov iv)) : PE X (.Subscript (.Name x np) i pos) (tTab p D td ty) := by
 intro pins s σ H Q I h
 refine Subscript_ (thn (ho pins s σ H _ I h) fun u s1 ⟨x, H1, I1, rx, q1⟩ => thn (hi pins s1 σ H1 _ I1 q1) fun iv s2 W' => ?_)
 obtain ⟨y, H2, I2, ry, ex, k, n, ey, hl, q2⟩ := W'
 subst ex ey
 obtain rfl : u = Value.ref p := rx
 obtain ⟨t, rfl⟩ := ry
 refine item_strTab (T _ I2.kIn) hl (fun v hv => ?_) (hs _ _)
 obtain ⟨t', rfl⟩ := hv.int_inv
 exact ⟨.int n, H2, I2.tok _, ⟨t', rfl⟩, q2⟩
end
end L2
namespace L2
open PySem PySem.Spec PyProof.Rows
section
variable {X : Cx}
theorem lql : ∀ (l : List Str) (n : Nat), Vals (l.map V.str) (strsFrom n l)
 | [], _ => .nil
 | z :: l, n => .cons ⟨n, rfl⟩ (lql l (n + 1))
def rSplit : V → List V → Hp → VK → Prop := fun x vs H Q => ∃ (z : Str) (c : Nat), x = .str z ∧ vs = [.str ⟨#[c]⟩] ∧ z.length ≤ 100000 ∧ ∀ p, H p = none → Q (.ref p) (upd H p (.lst ((Txt.split z ⟨#[c]⟩).map V.str)))
theorem pqQ : MtR X "str.split" rSplit := by
 intro pins s σ H x vs v us Q I rx rv h
 obtain ⟨z, c, rfl, rfl, hz, q⟩ := h
 obtain ⟨t, rfl⟩ := rx
 obtain ⟨u, rfl, t', rfl⟩ := vals1 rv
 have hf : H s.heap.objs.size = none := I.hok.fresh (Nat.le_refl _)
 have q := q _ hf
 have hw := split_weight z ⟨#[c]⟩ (Nat.le_refl 1)
 have hsl : z.length ≤ sizeLine := Nat.le_trans hz (by decide)
 unfold Txt.split at q hw
 cases h1 : (decide (z.length < (⟨#[c]⟩ : Str).length) || decide (Builtin.Str.strKind z < Builtin.Str.strKind ⟨#[c]⟩)) with
 | true =>
  rw [if_pos h1] at q
  refine call_meets F.slot_str_split (typeIs_str _ _ _) F.entry_str_split (F.args_str_split_2 _ _) (meets_str_split_cannot_occur z ⟨#[c]⟩ t t' h1) ?_
  refine ⟨.ref s.heap.objs.size, _, I.laid (t' := s.toks) (o := .lst [.str z]) (fun b u e => Heap.get?_push_of_some _ e) (Nat.le_refl _) ?_, rfl, q⟩
  exact ⟨by show 1 ≤ sizeLine; decide, [.str z t], 0, .cons ⟨_, rfl⟩ .nil, Heap.get?_push_size _ rfl⟩
 | false =>
  rw [if_neg (by rw [h1]; decide)] at q hw
  cases h2 : (Builtin.Str.occurrences z ⟨#[c]⟩ 0 z.length (z.length + 1)).isEmpty with
  | true =>
   rw [if_pos h2] at q
   refine call_meets F.slot_str_split (typeIs_str _ _ _) F.entry_str_split (F.args_str_split_2 _ _) (meets_str_split_not_found z ⟨#[c]⟩ t t' h1 rfl h2) ?_
   refine ⟨.ref s.heap.objs.size, _, I.laid (t' := s.toks) (o := .lst [.str z]) (fun b u e => Heap.get?_push_of_some _ e) (Nat.le_refl _) ?_, rfl, q⟩
   exact ⟨by show 1 ≤ sizeLine; decide, [.str z t], 0, .cons ⟨_, rfl⟩ .nil, Heap.get?_push_size _ rfl⟩
  | false =>
   rw [if_neg (by rw [h2]; decide)] at q hw
   have hn : (Builtin.Str.partsBetween z (Builtin.Str.occurrences z ⟨#[c]⟩ 0 z.length (z.length + 1)) (⟨#[c]⟩ : Str).length).length ≤ 100001 := by lia
   have hn2 : (Builtin.Str.partsBetween z (Builtin.Str.occurrences z ⟨#[c]⟩ 0 z.length (z.length + 1)) (⟨#[c]⟩ : Str).length).length ≤ sizeLine := Nat.le_trans hn (by decide)
   refine call_meets F.slot_str_split (typeIs_str _ _ _) F.entry_str_split (F.args_str_split_2 _ _) (meets_str_split_sep z ⟨#[c]⟩ t t' h1 rfl h2 hsl hn2) ?_
   refine ⟨.ref s.heap.objs.size, _, I.laid (o := .lst _) (fun b u e => Heap.get?_push_of_some _ e) (Nat.le_refl _) ?_, rfl, q⟩
   exact ⟨by rw [List.length_map]; exact hn2, _, 0, lql _ _, Heap.get?_push_size _ rfl⟩
end
theorem sqq {z : Str} {c : Nat} {H : Hp} {Q : VK} : rSplit (.str z) [.str ⟨#[c]⟩] H Q ↔ z.length ≤ 100000 ∧ ∀ p, H p = none → Q (.ref p) (upd H p (.lst ((Txt.split z ⟨#[c]⟩).map V.str))) := by
 constructor
 ·rintro ⟨z', c', e1, e2, h⟩
  cases e1
  cases e2
  exact h
 ·exact fun h => ⟨z, c, rfl, rfl, h⟩
section
variable {prog : Program} {w : World} {A : Around} {E : Value → Shared → Prop} {s : Shared}
end
def ItES (x : Str) : It := ItW x.cps.size (fun _ => True) fun i _ ys => ∃ c, x.cps[i]? = some c ∧ ys = [.int (i : Int), .str ⟨#[c]⟩]
section
variable {X : Cx} {elts : List Expr} {kk : Nat} {tpos : Pos}
def iEnumS (ta : TA) : TI := fun σ H R => ta σ H fun vs H1 => ∃ x : Str, vs = [.str x] ∧ (x.cps.all fun c => decide (c < 128)) = true ∧ R (ItES x) H1
variable {σ : St} {H : Hp} {D : Ends} {g : TG} {tb : TS} {aa : TA}
theorem pqX : (tFor (iEnumS aa) g tb D σ H) = (aa σ H fun vs H1 => ∃ x : Str, vs = [.str x] ∧ (x.cps.all fun c => decide (c < 128)) = true ∧ LoopI (ItES x) g tb D σ H1) := rfl
end
end L2
namespace Wm
open PySem L2
abbrev mkS (l : List Nat) : Str := ⟨l.toArray⟩
theorem sqZ (t : List Nat) (c i : Nat) : (decide (i + (mkS [c]).length ≤ (mkS t).length) && Builtin.Str.subAt (mkS t) (mkS [c]) i) = decide (t[i]? = some c) := by
 by_cases hi : i ≤ t.length
 ·rw [oqN t [c] i hi, decide_eq_decide]
  cases h : t.drop i with
  | nil =>
   have : t[i]? = none := List.getElem?_eq_none (by have := congrArg List.length h; rw [List.length_drop, List.length_nil] at this; lia)
   rw [this]
   simp
  | cons d r =>
   have : t[i]? = some d := by rw [← List.head?_drop, h]; rfl
   rw [this]
   simp
 ·rw [List.getElem?_eq_none (by lia), bqc, bqc, decide_eq_false (by rw [List.length_singleton]; lia)]
  rfl
theorem iqC (t : List Nat) (c : Nat) : Builtin.Str.occurrences (mkS t) (mkS [c]) 0 (mkS t).length 1 = ((List.range' 0 (t.length + 1)).find? fun i => decide (t[i]? = some c)).toList := by
 rw [StrLaws.occ_eq, occ1 _ _ _ _ (fun i _ => Nat.zero_le i)]
 simp only [sqZ]
 rw [bqc]
 rfl
theorem sqN {t : List Nat} {c : Nat} (h : c ∉ t) : Txt.partition (mkS t) (mkS [c]) = (mkS t, ⟨#[]⟩, ⟨#[]⟩) := by
 unfold Txt.partition
 rw [iqC, List.find?_eq_none.mpr fun i _ z => h (List.mem_of_getElem? (of_decide_eq_true z))]
 rfl
theorem tqo {a b : List Nat} {c : Nat} (h : c ∉ a) : Txt.partition (mkS (a ++ c :: b)) (mkS [c]) = (mkS a, mkS [c], mkS b) := by
 unfold Txt.partition
 have e : (List.range' 0 ((a ++ c :: b).length + 1)).find? (fun i => decide ((a ++ c :: b)[i]? = some c)) = some a.length := by
  rw [List.find?_range'_eq_some]
  refine ⟨decide_eq_true (by simp), ?_, fun j _ hj => ?_⟩
  ·rw [List.mem_range'_1]
   simp only [List.length_append, List.length_cons]
   lia
  ·rw [decide_eq_false fun z => ?_]
   ·rfl
   ·rw [List.getElem?_append_left hj] at z
    exact h (List.mem_of_getElem? z)
 rw [iqC, e]
 show (Builtin.Str.strSub (mkS (a ++ c :: b)) 0 a.length, mkS [c], Builtin.Str.strSub (mkS (a ++ c :: b)) (a.length + (mkS [c]).length) (mkS (a ++ c :: b)).length) = _
 rw [bqc, bqc]
 refine Prod.ext ?_ (Prod.ext rfl ?_)
 ·show (⟨(a ++ c :: b).toArray.extract 0 a.length⟩ : Str) = _
  simp
 ·show (⟨(a ++ c :: b).toArray.extract (a.length + 1) (a ++ c :: b).length⟩ : Str) = _
  simp
  exact List.take_of_length_le (by lia)
theorem iqN {K : PySem.W.Frag} {H : Hp} : ∀ {ss : List Str} {xs : List V}, IsKAll K H (ss.map PyData.str) xs → xs = ss.map V.str
 | [], _, .nil => rfl
 | s :: ss, _, .cons h r => by cases h; rw [iqN r]; rfl
theorem hqC {K : PySem.W.Frag} {H : Hp} {ss : List Str} {p : Addr} (h : IsK K H (.tuple (ss.map PyData.str)) (.ref p)) : SqT K H p (ss.map V.str) := by
 cases h with
 | tup hp r => rw [← iqN r]; exact hp
theorem fq2 (k : Str) : ∀ ss : List Str, inV (.str k) (ss.map V.str) = decide (k ∈ ss)
 | [] => rfl
 | s :: ss => by
  have ih := fq2 k ss
  have e : eqV (.str s) (.str k) = decide (k = s) := by
   show (s == k) = decide (k = s)
   rw [Bool.eq_iff_iff, beq_iff_eq, decide_eq_true_eq]
   exact ⟨Eq.symm, Eq.symm⟩
  unfold inV at ih ⊢
  rw [List.map_cons, List.any_cons, ih, e, Bool.eq_iff_iff, Bool.or_eq_true, decide_eq_true_eq, decide_eq_true_eq, decide_eq_true_eq, List.mem_cons]
end Wm
namespace L2
open PySem PySem.Spec PyProof.Rows
structure Fd (K : PySem.W.Frag) (mg : Str → Option Value) (x : Str) (s : Stmt) (ps : List Str) where
 a : Addr
 fd : FuncData
 F : Fun K x x s a fd
 m : mg x = some (.ref a)
 b : Binds K fd ps []
def vql {K : PySem.W.Frag} {h : Heap} {mg : Str → Option Value} {x : Str} {s : Stmt} {ps : List Str} {f : Addr} {oc : Value} {od an : Option Addr} {osl : Array (Option Value)} {kV doc pm cdv ct : Value} (X : K.In h) (Gl : h.Ns mainGlobals mg)
  (a : PySem.W.nsIn K mainGlobals x = some (some (.ref f))) (l : K.lookup f = some ⟨oc, od, .func (PySem.W.fnOf x x (defArgs s) (defBody s) (defScope s) .none kV doc pm an cdv ct), osl⟩) (c : PySem.W.codeIn K cdv x = true) (k : PySem.W.keepIn K (.ref f) = true)
  (hb : ∀ (kV doc pm : Value) (an : Option Addr) (cdv ct : Value) (us : List Value), us.length = ps.length → bindArgs (PySem.W.fnOf x x (defArgs s) (defBody s) (defScope s) .none kV doc pm an cdv ct) ⟨us, []⟩ = pure (ps.zip us)) : Fd K mg x s ps :=
 ⟨f, _, eqw l c k, PySem.W.mg_of X Gl a, (eqw l c k).binds hb⟩
abbrev Fd.Ok {K : PySem.W.Frag} {mg : Str → Option Value} {x : Str} {s : Stmt} {ps : List Str} (f : Fd K mg x s ps) (P : Program) (w : World) (base : Heap) (k : Nat) (sp : Sp) : Prop := FnOk P w K mg base CX0 k f.a f.fd ps sp
theorem aqv {X : Cx} {k k' : Nat} {sp : Sp} {x : Str} {st : Stmt} {ps : List Str} {e : Expr} {es : List Expr} {t : TA} {p pos : Pos} (f : Fd X.K X.mg x st ps) (F : FnOk X.prog X.w X.K X.mg X.base CX0 k f.a f.fd ps sp) (hr : Room k' X.A) (hg : Gl X x)
  (ha : PA X (e :: es) t) (hk : k ≤ k' := by decide) (hdb : (x == ("__debug__" : Str)) = false := by decide) (he : starEach (e :: es) X.env = (false, eval e X.env) :: starEach es X.env := by rfl) (hpl : (backTo pos (starEach es X.env)).any (·.1) = false := by rfl) :
  PE X (.Call (.Name x p) (e :: es) [] pos) (tCall sp [] E0 t) := bqr F (hr.mono hk) hg f.m f.F.kp f.b .nil pass0 ha hdb he hpl
end L2
namespace L2
open PySem PySem.Spec PyProof.Rows PyProof.V
section
variable {X : Cx}
def rNiT (p : Addr) (D : List (PyData × PyData)) : R2 := fun x y H Q => y = .ref p ∧ ∃ k : Str, x = .str k ∧ Q (.bl (!(lookup (.str k) D).isSome)) H
theorem uqK {p : Addr} {D : List (PyData × PyData)} (T : ∀ h : Heap, X.K.In h → StrTab X.prog X.w h p D) : OpR X (compareOp .NotIn) (rNiT p D) := by
 intro pins s σ H x y v u Q I rx ry h
 obtain ⟨rfl, k, rfl, q⟩ := h
 obtain ⟨t, rfl⟩ := rx
 obtain rfl : u = Value.ref p := ry
 exact notin_strTab (T _ I.kIn) ⟨.bl (!(lookup (.str k) D).isSome), H, I.tok _, rfl, q⟩
theorem valsF : ∀ (l : List Str) (n : Nat), Vals (l.map V.str) (strsFrom n l)
 | [], _ => .nil
 | z :: l, n => .cons ⟨n, rfl⟩ (valsF l (n + 1))
def rSplit2 : V → List V → Hp → VK → Prop := fun x vs H Q => ∃ (z : Str) (c k : Nat), x = .str z ∧ vs = [.str ⟨#[c]⟩, .int (k : Int)] ∧ z.length ≤ 100000 ∧ k < 100 ∧ ∀ p, H p = none → Q (.ref p) (upd H p (.lst ((Txt.splitMax z ⟨#[c]⟩ k).map V.str)))
theorem pqG : MtR X "str.split" rSplit2 := by
 intro pins s σ H x vs v us Q I rx rv h
 obtain ⟨z, c, k, rfl, rfl, hz, hk, q⟩ := h
 obtain ⟨t, rfl⟩ := rx
 obtain ⟨t', t3, rfl⟩ : ∃ t' t3, us = [.str ⟨#[c]⟩ t', .int (k : Int) t3] := by
  cases rv with
  | cons r1 rv => cases rv with
   | cons r2 rv =>
    cases rv
    obtain ⟨t', rfl⟩ := r1
    obtain ⟨t3, rfl⟩ := r2
    exact ⟨t', t3, rfl⟩
 have hf : H s.heap.objs.size = none := I.hok.fresh (Nat.le_refl _)
 have q := q _ hf
 have hsl : z.length ≤ sizeLine := Nat.le_trans hz (by decide)
 have hk2 : (decide ((k : Int) < -(2 ^ 63 : Int)) || decide ((k : Int) ≥ 2 ^ 63)) = false := by
  rw [decide_eq_false (by lia), decide_eq_false (by lia)]; rfl
 have hn : (Builtin.Str.partsBetween z (Builtin.Str.occurrences z ⟨#[c]⟩ 0 z.length (limitOf z k)) (⟨#[c]⟩ : Str).length).length ≤ sizeLine := by
  have e1 := StrLaws.occ_length_le_len z ⟨#[c]⟩ 0 z.length (limitOf z k)
  rw [length_partsBetween]
  exact Nat.le_trans (show _ ≤ 100010 by lia) (by decide)
 unfold Txt.splitMax at q
 cases h1 : (decide (z.length < (⟨#[c]⟩ : Str).length) || decide (Builtin.Str.strKind z < Builtin.Str.strKind ⟨#[c]⟩)) with
 | true =>
  rw [if_pos h1] at q
  refine call_meets F.slot_str_split (typeIs_str _ _ _) F.entry_str_split (F.args_str_split_3 _ _ _) (meets_str_split_max_cannot_occur z ⟨#[c]⟩ k t t' t3 hk2 h1) ?_
  refine ⟨.ref s.heap.objs.size, _, I.laid (t' := s.toks) (o := .lst [.str z]) (fun b u e => Heap.get?_push_of_some _ e) (Nat.le_refl _) ?_, rfl, q⟩
  exact ⟨by show 1 ≤ sizeLine; decide, [.str z t], 0, .cons ⟨_, rfl⟩ .nil, Heap.get?_push_size _ rfl⟩
 | false =>
  rw [if_neg (by rw [h1]; decide)] at q
  cases h2 : (Builtin.Str.occurrences z ⟨#[c]⟩ 0 z.length (limitOf z k)).isEmpty with
  | true =>
   rw [if_pos h2] at q
   refine call_meets F.slot_str_split (typeIs_str _ _ _) F.entry_str_split (F.args_str_split_3 _ _ _) (meets_str_split_max_not_found z ⟨#[c]⟩ k t t' t3 hk2 h1 rfl h2) ?_
   refine ⟨.ref s.heap.objs.size, _, I.laid (t' := s.toks) (o := .lst [.str z]) (fun b u e => Heap.get?_push_of_some _ e) (Nat.le_refl _) ?_, rfl, q⟩
   exact ⟨by show 1 ≤ sizeLine; decide, [.str z t], 0, .cons ⟨_, rfl⟩ .nil, Heap.get?_push_size _ rfl⟩
  | false =>
   rw [if_neg (by rw [h2]; decide)] at q
   refine call_meets F.slot_str_split (typeIs_str _ _ _) F.entry_str_split (F.args_str_split_3 _ _ _) (meets_str_split_sep_max z ⟨#[c]⟩ k t t' t3 hk2 h1 rfl h2 hsl hn) ?_
   refine ⟨.ref s.heap.objs.size, _, I.laid (o := .lst _) (fun b u e => Heap.get?_push_of_some _ e) (Nat.le_refl _) ?_, rfl, q⟩
   exact ⟨by rw [List.length_map]; exact hn, _, 0, valsF _ _, Heap.get?_push_size _ rfl⟩
end
theorem qqN {z : Str} {c k : Nat} {H : Hp} {Q : VK} : rSplit2 (.str z) [.str ⟨#[c]⟩, .int (k : Int)] H Q ↔ z.length ≤ 100000 ∧ k < 100 ∧ ∀ p, H p = none → Q (.ref p) (upd H p (.lst ((Txt.splitMax z ⟨#[c]⟩ k).map V.str))) := by
 constructor
 ·rintro ⟨z', c', k', e1, e2, h⟩
  cases e1
  injection e2 with e2 e3
  injection e3 with e3 _
  cases e2
  injection e3 with e3
  obtain rfl := Int.ofNat.inj e3
  exact h
 ·exact fun h => ⟨z, c, k, rfl, rfl, h⟩
end L2
namespace Wm
open PySem L2
theorem nqD {a b : List Nat} {c : Nat} (h : c ∉ a) (h2 : c < 256) : Txt.splitMax (mkS (a ++ c :: b)) (mkS [c]) 1 = [mkS a, mkS b] := by
 have e : (List.range' 0 ((a ++ c :: b).length + 1)).find? (fun i => decide ((a ++ c :: b)[i]? = some c)) = some a.length := by
  rw [List.find?_range'_eq_some]
  refine ⟨decide_eq_true (by simp), ?_, fun j _ hj => ?_⟩
  ·rw [List.mem_range'_1]
   simp only [List.length_append, List.length_cons]
   lia
  ·rw [decide_eq_false fun z => ?_]
   ·rfl
   ·rw [List.getElem?_append_left hj] at z
    exact h (List.mem_of_getElem? z)
 have eo : Builtin.Str.occurrences (mkS (a ++ c :: b)) (mkS [c]) 0 (mkS (a ++ c :: b)).length (limitOf (mkS (a ++ c :: b)) 1) = [a.length] := by
  rw [show limitOf (mkS (a ++ c :: b)) 1 = 1 from rfl, iqC, e]; rfl
 unfold Txt.splitMax
 rw [eo, if_neg, if_neg (by intro z; cases z)]
 ·show [Builtin.Str.strSub (mkS (a ++ c :: b)) 0 a.length, Builtin.Str.strSub (mkS (a ++ c :: b)) (a.length + (mkS [c]).length) (mkS (a ++ c :: b)).length] = _
  rw [bqc, bqc]
  refine congr (congrArg _ ?_) (congr (congrArg _ ?_) rfl)
  ·show (⟨(a ++ c :: b).toArray.extract 0 a.length⟩ : Str) = _
   simp
  ·show (⟨(a ++ c :: b).toArray.extract (a.length + 1) (a ++ c :: b).length⟩ : Str) = _
   simp
   exact List.take_of_length_le (by lia)
 ·rw [bqc, bqc, decide_eq_false (by simp), Bool.false_or]
  intro z
  have k1 : Builtin.Str.strKind (mkS [c]) = 1 := by
   unfold Builtin.Str.strKind
   rw [if_pos (by simp [h2])]
  rw [k1] at z
  have := of_decide_eq_true z
  unfold Builtin.Str.strKind at this
  split at this
  ·lia
  ·split at this <;> lia
section
variable {K : PySem.W.Frag} {H H' : Hp} {C p : Addr} {x y : Ad}
theorem tqZ {dx a : Addr} {fs : List (Str × V)} {xs : List V} (s : SameBut p H H') (hp : H p = some (.ins C dx fs)) (h : SqT K H a xs) : SqT K H' a xs := by
 rcases h with (h | ⟨o, h⟩) | h
 ·exact .inl (.inl (s _ _ (qqO h hp (by intro z; cases z)) h))
 ·exact .inl (.inr ⟨o, s _ _ (qqO h hp (by intro z; cases z)) h⟩)
 ·exact .inr h
mutual
theorem IsK.but {dx : Addr} {fs : List (Str × V)} (s : SameBut p H H') (hp : H p = some (.ins C dx fs)) : ∀ {d : PyData} {v : V}, IsK K H d v → IsK K H' d v
 | _, _, .non => .non
 | _, _, .bl b => .bl b
 | _, _, .int i => .int i
 | _, _, .str x => .str x
 | _, _, .tup h r => .tup (tqZ s hp h) (IsKAll.but s hp r)
theorem IsKAll.but {dx : Addr} {fs : List (Str × V)} (s : SameBut p H H') (hp : H p = some (.ins C dx fs)) : ∀ {ds : List PyData} {xs : List V}, IsKAll K H ds xs → IsKAll K H' ds xs
 | _, _, .nil => .nil
 | _, _, .cons h r => .cons (IsK.but s hp h) (IsKAll.but s hp r)
end
theorem kqi {dx : Addr} {o o' : HO} (nd : H dx = none) : SameBut p H (upd (upd H dx o') p o) := fun b _ n e => by
 rw [aqt n, aqt (aqq e nd)]; exact e
theorem Same.free (s : Same H H') (h : H' p = none) : H p = none := by
 cases e : H p with
 | none => rfl
 | some o => rw [s _ _ e] at h; cases h
def Dsk (K : PySem.W.Frag) (H : Hp) (C p : Addr) (x : Ad) : Prop := ∃ (dx : Addr) (v u : V), H p = some (.ins C dx [("address", v), ("table", u)]) ∧ IsK K H x.data v
theorem Dsk.same (h : Dsk K H C p x) (s : Same H H') : Dsk K H' C p x := let ⟨dx, v, u, e, hv⟩ := h; ⟨dx, v, u, s _ _ e, hv.mono s⟩
theorem Dsk.but {q : Addr} (h : Dsk K H C p x) (d : Dsk K H C q y) (n : p ≠ q) (s : SameBut q H H') : Dsk K H' C p x := let ⟨dx, v, u, e, hv⟩ := h; let ⟨_, _, _, e2, _⟩ := d; ⟨dx, v, u, s _ _ n e, Wm.IsK.but s e2 hv⟩
theorem Dsk.keep {d : PyData} {v : V} (h : Dsk K H C p x) (s : SameBut p H H') (e : IsK K H d v) : IsK K H' d v := let ⟨_, _, _, e2, _⟩ := h; Wm.IsK.but s e2 e
theorem sqg {v u : V} : List.lookup (Str.ofString "address") [(Str.ofString "address", v), (Str.ofString "table", u)] = some v := by
 rw [List.lookup_cons, beq_self_eq_true]
theorem pq9 {v u w : V} : putF (Str.ofString "address") w [(Str.ofString "address", v), (Str.ofString "table", u)] = [(Str.ofString "address", w), (Str.ofString "table", u)] := by
 simp only [putF, if_true]
theorem hqF {R : V → Prop} (h : Dsk K H C p x) (cl : Cls K C) (n : NoAttr K C "address") (r : ∀ v, IsK K H x.data v → R v) : ∃ a C dx fs v, p = a ∧ H a = some (.ins C dx fs) ∧ Cls K C ∧ NoAttr K C (Str.ofString "address") ∧ List.lookup (Str.ofString "address") fs = some v ∧ R v :=
 let ⟨dx, v, _, hp, hv⟩ := h
 ⟨p, C, dx, _, _, rfl, hp, cl, n, sqg, r v hv⟩
theorem sqL {dx : Addr} {v v' u : V} (hp : H p = some (.ins C dx [("address", v'), ("table", u)])) (hv : IsK K H y.data v) : Dsk K (upd H p (.ins C dx (putF (Str.ofString "address") v [("address", v'), ("table", u)]))) C p y :=
 ⟨dx, v, u, by rw [aqh]; exact congrArg (fun z => some (HO.ins C dx z)) pq9, Wm.IsK.but aqR hp hv⟩
theorem cqD {R : Prop} {m : Str} (h : Dsk K H C p x) (r : R) (h1 : (m == Str.ofString "address") = false := by decide +kernel) (h2 : (m == Str.ofString "table") = false := by decide +kernel) :
  ∃ a dx fs, p = a ∧ H a = some (.ins C dx fs) ∧ List.lookup m fs = none ∧ R :=
 let ⟨dx, _, _, hp, _⟩ := h
 ⟨p, dx, _, rfl, hp, by rw [List.lookup_cons, h1, List.lookup_cons, h2]; rfl, r⟩
end
abbrev QuT := Option (List (List Nat × Option (List Nat)))
def QSm (q : QuT) : Prop := ∀ ps, q = some ps → (ps.length ≤ 3 ∧ ∀ p ∈ ps, p.1.length ≤ 5 ∧ ∀ v, p.2 = some v → v.length ≤ 6) ∧ ∀ p ∈ ps, PairOk p
theorem rql {H : Hp} : ∀ ss : List (List Nat), IsTAll H (ss.map st) (ss.map tV)
 | [] => .nil
 | _ :: ss => .cons (.str _) (rql ss)
theorem mq6 {x : Ad} (h : x.scheme ≠ []) : (plainM x).scheme ≠ [] := fun z => h (by
 have : lowT x.scheme = [] := z
 unfold lowT at this
 exact List.map_eq_nil_iff.mp this)
def top (i : Nat) : Stmt := PySem.Challenge.pw_waymark_k84_a_desk_goes.main.body.getD i (.Pass ⟨0, 0, 0, 0⟩)
abbrev lqI : Stmt := top 16
abbrev kqX : Stmt := top 17
abbrev fqe : Stmt := top 19
abbrev eq0 : Stmt := top 20
abbrev jqC : Stmt := top 37
abbrev aqK : Stmt := inClass (top 44) 0
abbrev kqR : Stmt := top 54
abbrev nqg : Stmt := top 62
abbrev oqx : Stmt := top 65
abbrev aqY : Stmt := inClass (top 112) 0
abbrev bqh : Stmt := inClass (top 112) 1
abbrev bqQ : Stmt := inClass (top 112) 3
abbrev bqj : Stmt := inClass (top 112) 4
abbrev hqZ : Stmt := top 117
abbrev nq8 : Stmt := top 128
abbrev fqg : Stmt := top 137
abbrev jqB : Stmt := top 151
abbrev fqs : Stmt := top 158
abbrev gqX : Stmt := top 160
abbrev jqG : Stmt := top 161
abbrev jqt : Stmt := top 162
abbrev lqu : Stmt := top 15
abbrev kqO : Stmt := top 18
abbrev kqI : Stmt := top 21
abbrev gqY : Stmt := top 64
abbrev bqS : Stmt := inClass (top 112) 2
abbrev gq8 : Stmt := top 159
abbrev eq7 : Stmt := top 163
abbrev eqE : Stmt := top 164
abbrev iqf : Stmt := top 38
abbrev fqO : Stmt := top 52
abbrev iqH : Stmt := top 53
abbrev gqj : Stmt := top 56
abbrev gq6 : Stmt := top 57
abbrev rqf : Stmt := top 63
abbrev gq4 : Stmt := top 116
abbrev gq2 : Stmt := top 124
abbrev fqx : Stmt := top 165
abbrev eqn : Stmt := top 55
abbrev eqK : Stmt := top 66
abbrev nqf : Stmt := top 67
abbrev fqC : Stmt := top 114
abbrev dqx : Stmt := top 123
abbrev rqk : Stmt := top 51
abbrev hqJ : Stmt := top 118
abbrev fqV : Stmt := top 120
abbrev gqU : Stmt := top 121
abbrev bql : Stmt := top 122
abbrev pqB : Stmt := top 126
abbrev jqj : Stmt := top 136
abbrev gqa : Stmt := top 115
abbrev eqp : Stmt := top 119
abbrev hqc : Stmt := top 135
abbrev rqe : Stmt := top 113
abbrev jqs : Stmt := top 134
abbrev bqg : Stmt := inClass (top 150) 0
abbrev bqw : Stmt := inClass (top 150) 2
abbrev dqM : Stmt := inClass (top 150) 3
abbrev cqZ : Stmt := inClass (top 150) 1
abbrev fqw : Stmt := top 166
abbrev gq1 : Stmt := top 167
abbrev fqW : Stmt := top 168
abbrev tqS : Stmt := top 169
abbrev oqz : V := .str (Str.ofString " !\"#$&'()*+,-./0123456789:;<=>?@ABCDEFGHIJKLMNOPQRSTUVWXYZ[\\]^_`abcdefghijklmnopqrstuvwxyz{|}~")
abbrev pqK : V := .str (Str.ofString "abcdefghijklmnopqrstuvwxyzABCDEFGHIJKLMNOPQRSTUVWXYZ")
abbrev eqP : V := .str (Str.ofString "abcdefghijklmnopqrstuvwxyzABCDEFGHIJKLMNOPQRSTUVWXYZ0123456789")
abbrev hqI : V := .str (Str.ofString "0123456789")
abbrev lq8 : V := .str (Str.ofString "abcdefghijklmnopqrstuvwxyzABCDEFGHIJKLMNOPQRSTUVWXYZ0123456789-_.")
abbrev cq8 : V := .str (Str.ofString "!$'()*,;@&=+")
abbrev aq3 : V := .str (Str.ofString "!$'()*,;@+/?:")
abbrev eqJ : V := .str (Str.ofString "!$'()*,;@&=+/?:")
abbrev fqt : V := .int 32
abbrev kqf : V := .int 126
abbrev dqS : V := .int 37
abbrev cqp : V := .str (Str.ofString "0123456789abcdef")
abbrev eq8 : V := .str (Str.ofString "0123456789ABCDEF")
abbrev hqA : V := .int 0
abbrev jqV : V := .int 1
abbrev rqy : V := .int 2
abbrev mqo : V := .int 3
abbrev dqP : V := .int 4
abbrev rqr : V := .int 5
abbrev gqd : V := .int 0
abbrev hq9 : V := .int 1
abbrev mqD : V := .int 2
abbrev hqo : V := .int 8
abbrev iqd : V := .int 60
abbrev lqV : V := .int 65535
abbrev mqI : V := .str (Str.ofString ".")
abbrev k_UP : V := .str (Str.ofString "..")
abbrev eqX : V := .str (Str.ofString "234567")
def cqA : List (Str × PyData) := [(Str.ofString "at", .int 0), (Str.ofString "go", .int 0), (Str.ofString "link", .int 0), (Str.ofString "add", .int 1), (Str.ofString "lead", .int 0), (Str.ofString "both", .int 2)]
set_option genInjectivity false
set_option genSizeOf false
set_option genSizeOfSpec false
structure D (K : W.Frag) (mg : Str → Option Value) where
 eq5 : Fd K mg "made_of" lqI ["text", "signs"]
 iqm : Fd K mg "pair_of" kqX ["sign"]
 cqm : Fd K mg "figure_number" fqe ["figure"]
 dqe : Fd K mg "sign_numbered" eq0 ["number"]
 cq3 : Fd K mg "is_whole" jqC ["address"]
 iqE : Fd K mg "slashed" kqR ["rooted", "texts", "ends"]
 kqe : Fd K mg "is_dot" nqg ["step"]
 lq5 : Fd K mg "go_up" oqx ["left", "rooted"]
 dq7 : Fd K mg "door_with" hqZ ["door", "cursor"]
 jqq : Fd K mg "relative" nq8 ["base", "goal"]
 dqh : Fd K mg "question_from" fqg ["base", "address"]
 gqL : Fd K mg "read_row" jqB ["row"]
 bqU : Fd K mg "_law_cell_at" fqs ["_law_script", "_law_k"]
 eq2 : Fd K mg "_law_signs" gqX ["_law_cell"]
 gqE : Fd K mg "_law_run" jqG ["_law_cell", "_law_signs_here", "_law_many"]
 cqt : Fd K mg "_law_any" jqt ["_law_cell", "_law_many"]
 hq7 : Fd K mg "is_text" lqu ["thing"]
 iqk : Fd K mg "sign_of" kqO ["figures"]
 cqG : Fd K mg "written" kqI ["text"]
 fqa : Fd K mg "steps_left" gqY ["steps", "rooted"]
 dqw : Fd K mg "_law_cells" gq8 ["_law_script", "_law_start", "_law_many"]
 dql : Fd K mg "_law_one_step" eq7 ["_law_cell", "_law_signs_here"]
 cq7 : Fd K mg "_law_question" eqE ["_law_cell"]
 fqE : Fd K mg "is_scheme" iqf ["thing"]
 dq9 : Fd K mg "shown_house" fqO ["house", "door"]
 fqL : Fd K mg "shown_way" iqH ["way"]
 dq6 : Fd K mg "shown_asked" gqj ["name", "value"]
 eqS : Fd K mg "shown_mark" gq6 ["mark"]
 mq9 : Fd K mg "gone" rqf ["way"]
 cqa : Fd K mg "taken_door" gq4 ["cursor"]
 bq9 : Fd K mg "taken_pair" gq2 ["cursor"]
 cqy : Fd K mg "_law_address" fqx ["_law_cells_here", "_law_signs_here", "_law_whole"]
 cqM : Fd K mg "shown_question" eqn ["question"]
 cqq : Fd K mg "with_way_gone" eqK ["address"]
 kqr : Fd K mg "holder" nqf ["way"]
 dqC : Fd K mg "taken_scheme" fqC ["cursor"]
 dqu : Fd K mg "show" rqk ["address"]
 cqs : Fd K mg "taken_way" hqJ ["cursor", "must_be_rooted"]
 aqV : Fd K mg "taken_value" fqV ["cursor"]
 cqb : Fd K mg "taken_mark" gqU ["cursor"]
 fqN : Fd K mg "plain" pqB ["address"]
 gqQ : Fd K mg "way_from" jqj ["base_way", "way"]
 bqM : Fd K mg "taken_house" gqa ["cursor"]
 aq6 : Fd K mg "taken_question" eqp ["cursor"]
 fqc : Fd K mg "made_whole" hqc ["base", "address"]
 equ : Fd K mg "read" rqe ["text"]
 fqi : Fd K mg "resolved" jqs ["base", "address"]
 dqE : Fd K mg "_law_refused" fqw ["_law_text"]
 bqK : Fd K mg "_law_place" gq1 ["_law_desk", "_law_row"]
 eqg : Fd K mg "_law_places" fqW ["_law_desk", "_law_bent"]
 f_law : Fd K mg "law" tqS ["_law_script"]
structure G (w : World) (K : W.Frag) (mg : Str → Option Value) extends D K mg where
 bqe : Addr
 aq7 : FuncData
 cqS : Fun K "__init__" "NoAddress.__init__" aqK bqe aq7
 aqE : Binds K aq7 ["self", "at"] []
 bqO : Addr
 bqx : FuncData
 dqK : Fun K "__init__" "Cursor.__init__" aqY bqO bqx
 dqU : Binds K bqx ["self", "text"] []
 cqk : Addr
 bq0 : FuncData
 fqb : Fun K "at_end" "Cursor.at_end" bqh cqk bq0
 dqq : Binds K bq0 ["self"] []
 cqV : Addr
 cqC : FuncData
 fq9 : Fun K "take" "Cursor.take" bqQ cqV cqC
 bqN : Binds K cqC ["self"] []
 cqn : Addr
 bq3 : FuncData
 eqM : Fun K "passes" "Cursor.passes" bqj cqn bq3
 aqB : Binds K bq3 ["self", "text"] []
 cqW : Addr
 cqE : FuncData
 fqQ : Fun K "sees" "Cursor.sees" bqS cqW cqE
 cqe : Binds K cqE ["self", "signs"] []
 dqs : Addr
 cqi : FuncData
 gqW : Addr
 jqe : Tok
 bqk : FunD K "taken_text" "taken_text" dqx dqs cqi gqW
 bqP : Binds K cqi ["cursor", "free", "most"] [.none]
 bqI : mg "taken_text" = some (.ref dqs)
 gqT : Binds K cqi ["cursor", "free", "most"] []
 bqq : Addr
 aqS : FuncData
 dqn : Addr
 eqy : Tok
 bqm : FunD K "taken_filled_text" "taken_filled_text" bql bqq aqS dqn
 cqT : Binds K aqS ["cursor", "free", "most"] [.none]
 bq4 : mg "taken_filled_text" = some (.ref bqq)
 cq9 : Binds K aqS ["cursor", "free", "most"] []
 cqf : Addr
 bq2 : FuncData
 eqL : Fun K "__init__" "Desk.__init__" bqg cqf bq2
 bqz : Binds K bq2 ["self", "text"] []
 cqx : Addr
 cqj : FuncData
 fqu : Fun K "goal_of" "Desk.goal_of" bqw cqx cqj
 dqF : Binds K cqj ["self", "text"] []
 fq7 : Addr
 fql : FuncData
 lqB : Fun K "go" "Desk.go" dqM fq7 fql
 lqL : Binds K fql ["self", "text"] []
 fqm : Addr
 dq5 : FuncData
 jqD : Fun K "say" "Desk.say" cqZ fqm dq5
 cqw : Binds K dq5 ["self", "row"] []
 aqr : Addr
 aqi : Cls K aqr
 aqX : NoAttr K aqr "text"
 aqo : NoAttr K aqr "place"
 mq7 : mg "Cursor" = some (.ref aqr)
 mqV : Mk K aqr bqO
 cqN : Meth K aqr "at_end" cqk
 bqv : Meth K aqr "take" cqV
 aqw : Meth K aqr "passes" cqn
 bqV : Meth K aqr "sees" cqW
 bqC : Addr
 bqL : Cls K bqC
 aq9 : NoAttr K bqC "address"
 gq9 : NoAttr K bqC "table"
 kqG : mg "Desk" = some (.ref bqC)
 lqJ : Mk K bqC cqf
 dqp : Meth K bqC "goal_of" cqx
 jqy : Meth K bqC "go" fq7
 bq7 : Meth K bqC "say" fqm
 iqo : Tok
 lqP : mg "SIGNS" = some (.str (Str.ofString " !\"#$&'()*+,-./0123456789:;<=>?@ABCDEFGHIJKLMNOPQRSTUVWXYZ[\\]^_`abcdefghijklmnopqrstuvwxyz{|}~") iqo)
 eq6 : Tok
 kqK : mg "LETTERS" = some (.str (Str.ofString "abcdefghijklmnopqrstuvwxyzABCDEFGHIJKLMNOPQRSTUVWXYZ") eq6)
 aqP : Tok
 cqF : mg "LETTERS_AND_FIGURES" = some (.str (Str.ofString "abcdefghijklmnopqrstuvwxyzABCDEFGHIJKLMNOPQRSTUVWXYZ0123456789") aqP)
 eqY : Tok
 iqp : mg "FIGURES" = some (.str (Str.ofString "0123456789") eqY)
 hqM : Tok
 lqQ : mg "PLAIN" = some (.str (Str.ofString "abcdefghijklmnopqrstuvwxyzABCDEFGHIJKLMNOPQRSTUVWXYZ0123456789-_.") hqM)
 bqA : Tok
 dqk : mg "FREE_IN_STEPS" = some (.str (Str.ofString "!$'()*,;@&=+") bqA)
 aq1 : Tok
 bqo : mg "FREE_IN_QUESTIONS" = some (.str (Str.ofString "!$'()*,;@+/?:") aq1)
 bqF : Tok
 fqf : mg "FREE_IN_MARKS" = some (.str (Str.ofString "!$'()*,;@&=+/?:") bqF)
 bqW : Tok
 dqA : mg "FIRST_NUMBER" = some (.int 32 bqW)
 cqo : Tok
 gqi : mg "LAST_NUMBER" = some (.int 126 cqo)
 bqi : Tok
 cqv : mg "NUMBER_LEFT_OUT" = some (.int 37 bqi)
 bqy : Tok
 bqJ : mg "SMALL_FIGURES" = some (.str (Str.ofString "0123456789abcdef") bqy)
 bqE : Tok
 dqf : mg "GREAT_FIGURES" = some (.str (Str.ofString "0123456789ABCDEF") bqE)
 fqX : Tok
 fq4 : mg "SCHEME" = some (.int 0 fqX)
 iqb : Tok
 iqu : mg "HOUSE" = some (.int 1 iqb)
 lqe : Tok
 oqe : mg "DOOR" = some (.int 2 lqe)
 oqi : Tok
 lqv : mg "WAY" = some (.int 3 oqi)
 dqV : Tok
 cq4 : mg "QUESTION" = some (.int 4 dqV)
 lqM : Tok
 oqW : mg "MARK" = some (.int 5 lqM)
 gqn : Tok
 fqn : mg "ROOTED" = some (.int 0 gqn)
 iqa : Tok
 gqr : mg "STEPS" = some (.int 1 iqa)
 lqt : Tok
 kq0 : mg "ENDS" = some (.int 2 lqt)
 bqs : Tok
 eqj : mg "LONGEST_SCHEME" = some (.int 8 bqs)
 bqG : Tok
 eqF : mg "LONGEST_HOUSE" = some (.int 60 bqG)
 cq6 : Tok
 hqV : mg "LAST_DOOR" = some (.int 65535 cq6)
 lqm : Tok
 mqL : mg "STAY" = some (.str (Str.ofString ".") lqm)
 t_UP : Tok
 c_UP : mg "UP" = some (.str (Str.ofString "..") t_UP)
 fq0 : Addr
 jq4 : mg "NO_WAY" = some (.ref fq0)
 jq0 : ∀ H, IsK K H (.tuple [.bool false, .tuple [], .bool false]) (.ref fq0)
 bqH : Tok
 eqW : mg "FIRST_FIGURES" = some (.str (Str.ofString "234567") bqH)
 bqX : Addr
 dqB : mg "NAMES_BEHIND" = some (.ref bqX)
 dqD : ∀ (P : Program) (h : Heap), K.In h → PyProof.Rows.StrTab P w h bqX (cqA.map fun p => (PyData.str p.1, p.2))
 dqb : Addr
 fqI : mg "WITH_TEXT" = some (.ref dqb)
 dqm : ∀ H, IsK K H (.tuple [.str (Str.ofString "go"), .str (Str.ofString "link"), .str (Str.ofString "add")]) (.ref dqb)
 tq1 : mg "all" = none
 tqD : mg "ord" = none
 fqo : mg "len" = none
 pqV : mg "int" = none
 aqL : mg "isinstance" = none
 nq5 : mg "str" = none
 eqI : mg "range" = none
 gqs : mg "tuple" = none
 gq5 : mg "ValueError" = none
 bqd : Addr
 jq5 : mg "NoBase" = some (.ref bqd)
 aqg : Addr
 bqb : mg "NoAddress" = some (.ref aqg)
 iqg : Addr
 oqh : mg "NoRow" = some (.ref iqg)
 fqZ : Addr
 mqJ : mg "NoName" = some (.ref fqZ)
 eqD : Addr
 lqF : mg "NoValue" = some (.ref eqD)
 dqa : Addr
 iqI : mg "NoPattern" = some (.ref dqa)
 dqR : Addr
 jqo : mg "WayError" = some (.ref dqR)
 mqS : excInJ K bqd vErr vNew none = true
 jqm : Catch K dqR
 fqH : Catch K aqg
 dqy : ExLook K bqd
 mqj : ExLook K aqg
 bq6 : Mk1 K aqg bqe
 eq3 : ExSt K aqg "at"
 dqd : ExFld K aqg "at"
 dqN : W.subIn K (.ref bqd) (.ref dqR) = some true
 fqp : W.subIn K (.ref aqg) (.ref dqR) = some true
 bqB : W.subIn K (.ref aqg) (.ref aqg) = some true
 eq1 : W.kitOne K (.ref bqd) (.ref bqd) = some true
 fqU : W.kitOne K (.ref aqg) (.ref bqd) = some false
 dqo : W.kitOne K (.ref bqd) (.type "ValueError") = some true
 eqx : W.kitOne K (.ref aqg) (.type "ValueError") = some true
 dqv : W.kitOne K (.ref bqd) (.ref aqg) = some false
 eqN : W.kitOne K (.ref aqg) (.ref aqg) = some true
 dqt : W.kitOne K (.ref bqd) (.ref dqa) = some false
 eqz : W.kitOne K (.ref aqg) (.ref dqa) = some false
 eqh : W.kitOne K (.ref bqd) (.ref eqD) = some false
 fqJ : W.kitOne K (.ref aqg) (.ref eqD) = some false
 fqd : W.kitOne K (.ref bqd) (.ref fqZ) = some false
 fq8 : W.kitOne K (.ref aqg) (.ref fqZ) = some false
 fqr : W.kitOne K (.ref bqd) (.ref iqg) = some false
 gqz : W.kitOne K (.ref aqg) (.ref iqg) = some false
def nqT : Sp := fun vs H Q _ => ∃ x y : Str, vs = [.str x, .str y] ∧ x.length ≤ 100000 ∧ ∀ H', Same H H' → Q (.bl (x.cps.toList.all fun c => decide (c ∈ y.cps.toList))) H'
def jqE : Sp := fun vs H Q _ => ∃ c : Nat, vs = [one c] ∧ c < 256 ∧ Q (.str ⟨[126, hexd (c / 16), hexd (c % 16)].toArray⟩) H
def eqt : Sp := fun vs H Q _ => ∃ a : Nat, vs = [one a] ∧ a < 128 ∧ Q (figV a) H
def hqv : Sp := fun vs H Q _ => ∃ n : Nat, vs = [.int (n : Int)] ∧ Q (sgV n) H
def lqX (K : W.Frag) : Sp := fun vs H Q _ => ∃ (p : Addr) (l : List Nat) (r : List V), vs = [.ref p] ∧ SqT K H p (.str ⟨l.toArray⟩ :: r) ∧ Q (.bl (!decide (l = []))) H
def cqL (K : W.Frag) (C : Addr) : Sp := fun vs H Q _ => ∃ (a : Addr) (v : V), vs = [.ref a, v] ∧ H a = some (exNew a C) ∧ ∀ d, H d = none → Q .non (upd (upd H a (exSet a C d)) d (.xd [("at", v)]))
theorem cqY {K : W.Frag} {C : Addr} {H : Hp} {E : XK} {v : V} (hE : ∀ d H', Same H H' → H' d = some (.xd [("at", v)]) → E (.ref C) (some d) H') : ∀ a, H a = none → cqL K C [.ref a, v] (upd H a (exNew a C)) (fun u H2 => u = .non ∧ ∃ d, H2 a = some (exSet a C d) ∧ E (.ref C) (some d) (forget H2 a)) E0 := by
 intro a ha
 refine ⟨a, v, rfl, aqh, fun d hd => ?_⟩
 have hda : d ≠ a := fun z => by rw [z, aqh] at hd; cases hd
 rw [aqt hda] at hd
 refine ⟨rfl, d, by rw [aqt hda.symm, aqh], hE d _ (fun b o e => ?_) ?_⟩
 ·have ba : b ≠ a := aqq e ha
  rw [cqd ba, aqt (aqq e hd), aqt ba, aqt ba]
  exact e
 ·rw [cqd hda, aqh]
def nq2 (K : W.Frag) : Sp := fun vs H Q _ => ∃ (r e : Bool) (p : Addr) (ts : List (List Nat)), vs = [.bl r, .ref p, .bl e] ∧ SqL K H p (ts.map fun l => V.str ⟨l.toArray⟩) ∧ (joinT 47 ts).length ≤ 90000 ∧ Q (.str ⟨(slT r ts e).toArray⟩) H
def oq2 : Sp := fun vs H Q _ => ∃ s : Stp, vs = [sV s] ∧ Q (.bl (isDot s)) H
def qql (K : W.Frag) : Sp := fun vs H Q _ => ∃ (p : Addr) (L : List Stp) (r : Bool), vs = [.ref p, .bl r] ∧ H p = some (.lst (L.map sV)) ∧ L.length ≤ 2000 ∧ Q .non (upd H p (.lst ((goUp r L).map sV)))
def fqP (K : W.Frag) (C : Addr) : Sp := fun vs H Q _ => ∃ (p dx : Addr) (t : List Nat), vs = [.ref p, .str ⟨t.toArray⟩] ∧ H p = some (.ins C dx []) ∧ ∀ H', SameBut p H H' → Cur H' C p t 0 → Q .non H'
def hqj (K : W.Frag) (C : Addr) : Sp := fun vs H Q _ => ∃ (p : Addr) (t : List Nat) (i : Nat), vs = [.ref p] ∧ Cur H C p t i ∧ t.length ≤ 100000 ∧ Q (.bl (decide (i = t.length))) H
def jqh (K : W.Frag) (C : Addr) : Sp := fun vs H Q _ => ∃ (p : Addr) (t : List Nat) (i c : Nat), vs = [.ref p] ∧ Cur H C p t i ∧ t[i]? = some c ∧ t.length ≤ 100000 ∧ ∀ H', SameBut p H H' → Cur H' C p t (i + 1) → Q (.str ⟨#[c]⟩) H'
def cqR (K : W.Frag) (C : Addr) : Sp := fun vs H Q _ => ∃ (p : Addr) (t w : List Nat) (i : Nat), vs = [.ref p, .str ⟨w.toArray⟩] ∧ Cur H C p t i ∧ i ≤ t.length ∧ t.length ≤ 100000 ∧ ((t.drop i).take w.length = w → ∀ H', SameBut p H H' → Cur H' C p t (i + w.length) → Q (.bl true) H') ∧ (¬ (t.drop i).take w.length = w → Q (.bl false) H)
def lqg (K : W.Frag) (C : Addr) : Sp := fun vs H Q _ => ∃ (p : Addr) (t : List Nat) (i c n : Nat), vs = [.int (n : Int), .ref p] ∧ Cur H C p t i ∧ t.length ≤ 100000 ∧ t[i]? = some c ∧ 48 ≤ c ∧ c ≤ 57 ∧ n ≤ 100000 ∧ Q (.int ((n * 10 + (c - 48) : Nat) : Int)) H
def mqn : Sp := fun _ _ _ _ => False
def hqr (K : W.Frag) : Sp := fun vs H Q _ => ∃ (b x : Ad) (vb vx : V), vs = [vb, vx] ∧ IsK K H b.data vb ∧ IsK K H x.data vx ∧ x.Wf ∧ ∀ v : V, IsK K H (qD (questFrom b x)) v → Q v H
def wAt : List Nat := [97, 116]
def wGo : List Nat := [103, 111]
def wLink : List Nat := [108, 105, 110, 107]
def wtW : List Str := [Str.ofString "go", Str.ofString "link", Str.ofString "add"]
def mqy (K : W.Frag) : Sp := fun vs H Q _ => ∃ row : List Nat, vs = [tV row] ∧ ((row = wAt ∧ ∀ (l : Addr) (H' : Hp), Same H H' → H' l = some (.lst [tV wAt]) → Q (.ref l) H') ∨ ∃ w t : List Nat, (w = wGo ∨ w = wLink) ∧ row = w ++ 32 :: t ∧ t.length ≤ 90000 ∧ ∀ (l : Addr) (H' : Hp), Same H H' → H' l = some (.lst [tV w, tV t]) → Q (.ref l) H')
def hqL (K : W.Frag) : Sp := fun vs H Q _ => ∃ (a : Addr) (ns : List Int) (k : Nat), vs = [.ref a, .int (k : Int)] ∧ SqL K H a (ns.map V.int) ∧ Q (.int (ns.getD k 0)) H
def jqM (K : W.Frag) : Sp := fun vs H Q _ => ∃ c : Int, vs = [.int c] ∧ ∀ (l : List Nat) (H' : Hp), 0 < l.length → l.length ≤ 5 → (∀ c ∈ l, isSg c = true) → Same H H' → Q (tV l) H'
def lq1 : Sp := fun vs H Q _ => ∃ (c : Int) (g : List Nat) (m : Nat), vs = [.int c, tV g, .int (m : Int)] ∧ 0 < g.length ∧ g.length ≤ 100 ∧ m ≤ 100 ∧ ∀ l : List Nat, l.length = m → (∀ x ∈ l, x ∈ g) → Q (tV l) H
def mqd : Sp := fun vs H Q _ => ∃ (c : Int) (m : Nat), vs = [.int c, .int (m : Int)] ∧ m ≤ 20 ∧ ∀ l : List Nat, l.length = m → (∀ x ∈ l, isSg x = true) → Q (tV l) H
def nqL : Sp := fun vs H Q _ => ∃ (d : PyData) (v : V), vs = [v] ∧ Is H d v ∧ smallD d = true ∧ ∀ H', Same H H' → Q (.bl (tx d)) H'
def jqK : Sp := fun vs H Q _ => ∃ l : List Nat, vs = [.str ⟨l.toArray⟩] ∧ l.length ≤ 1000 ∧ (∀ c ∈ l, c < 128) ∧ Q (signOfL l) H
def dqI : Sp := fun vs H Q _ => ∃ l : List Nat, vs = [.str ⟨l.toArray⟩] ∧ l.length ≤ 2000 ∧ (∀ c ∈ l, isSg c = true) ∧ ∀ H', Same H H' → Q (.str ⟨(wr l).toArray⟩) H'
def kqz (K : W.Frag) : Sp := fun vs H Q _ => ∃ (ps : Addr) (ss : List Stp) (r : Bool), vs = [.ref ps, .bl r] ∧ SqT K H ps (ss.map sV) ∧ ss.length ≤ 2000 ∧ ∀ p H', Same H H' → H' p = some (.tup ((goneS r ss).map sV)) → Q (.ref p) H'
def jqb (K : W.Frag) (C : Addr) : Sp := fun vs H Q _ => ∃ (p : Addr) (t sg : List Nat) (i : Nat), vs = [.ref p, .str ⟨sg.toArray⟩] ∧ Cur H C p t i ∧ i ≤ t.length ∧ t.length ≤ 100000 ∧ Q (.bl (seesB t sg i)) H
def kqd (K : W.Frag) : Sp := fun vs H Q _ => ∃ (a : Addr) (ns : List Int) (s m : Nat), vs = [.ref a, .int (s : Int), .int (m : Int)] ∧ SqL K H a (ns.map V.int) ∧ m ≤ 100 ∧ ∀ (is : List Int) (p : Addr) (H' : Hp), is.length = m → Same H H' → H' p = some (.lst (is.map V.int)) → Q (.ref p) H'
def hqy : Sp := fun vs H Q _ => ∃ (c : Int) (g : List Nat), vs = [.int c, tV g] ∧ 0 < g.length ∧ g.length ≤ 100 ∧ (∀ x ∈ g, isSg x = true) ∧ ∀ l : List Nat, l ≠ [] → l.length ≤ 3 → (∀ x ∈ l, isSg x = true) → Q (tV l) H
def hql (K : W.Frag) : Sp := fun vs H Q _ => ∃ c : Int, vs = [.int c] ∧ ∀ (qs : Option (List (List Nat × Option (List Nat)))) (v : V) (H' : Hp), QSm qs → Same H H' → IsT H' (qD qs) v → Q v H'
def lqw : Sp := fun vs H Q _ => ∃ (d : PyData) (v : V), vs = [v] ∧ Is H d v ∧ smallD d = true ∧ ∀ H', Same H H' → Q (.bl (schD d)) H'
def iq3 : Sp := fun vs H Q _ => ∃ (o : Option (List Nat)) (d : Option Int), vs = [otV o, itV d] ∧ (∀ l, o = some l → l.length ≤ 60 ∧ ∀ c ∈ l, isSg c = true) ∧ (∀ i, d = some i → (0 ≤ i ∧ i ≤ 65535) ∧ o ≠ none) ∧ ∀ H', Same H H' → Q (.str ⟨(houT o ++ dooT d).toArray⟩) H'
def lqz (K : W.Frag) : Sp := fun vs H Q _ => ∃ (r e : Bool) (ss : List (List Nat)) (p q : Addr), vs = [.ref p] ∧ SqT K H p [.bl r, .ref q, .bl e] ∧ SqT K H q (ss.map fun l => V.str ⟨l.toArray⟩) ∧ (∀ s ∈ ss, s.length ≤ 2000 ∧ ∀ c ∈ s, isSg c = true) ∧ ss.length ≤ 2000 ∧ (wayT r ss e).length ≤ 90000 ∧ ∀ H', Same H H' → Q (.str ⟨(wayT r ss e).toArray⟩) H'
def jqc : Sp := fun vs H Q _ => ∃ (n : List Nat) (o : Option (List Nat)), vs = [.str ⟨n.toArray⟩, otV o] ∧ PairOk (n, o) ∧ n.length ≤ 2000 ∧ (∀ l, o = some l → l.length ≤ 2000) ∧ ∀ H', Same H H' → Q (.str ⟨(pairT (n, o)).toArray⟩) H'
def kqw : Sp := fun vs H Q _ => ∃ o : Option (List Nat), vs = [otV o] ∧ (∀ l, o = some l → l.length ≤ 2000 ∧ ∀ c ∈ l, isSg c = true) ∧ ∀ H', Same H H' → Q (.str ⟨(oT 35 o).toArray⟩) H'
def tqe (K : W.Frag) : Sp := fun vs H Q _ => ∃ (w : Way) (v : V), vs = [v] ∧ IsK K H (wayOf w) v ∧ w.2.1.length ≤ 2000 ∧ ∀ (u : V) (H' : Hp), Same H H' → IsK K H' (wayOf (goneV w)) u → Q u H'
def iq8 (K : W.Frag) (C CN : Addr) : Sp := fun vs H Q E => ∃ (p : Addr) (t : List Nat) (i : Nat), vs = [.ref p] ∧ Cur H C p t i ∧ i ≤ t.length ∧ t.length ≤ 100000 ∧ (∀ c ∈ t, c < 128) ∧ Tk CN H C p t i (dooM (t.drop i)) (fun o H' => Q (itV o) H') E
def iq6 (K : W.Frag) (C CN : Addr) : Sp := fun vs H Q E => ∃ (p : Addr) (t : List Nat) (i : Nat), vs = [.ref p] ∧ Cur H C p t i ∧ i ≤ t.length ∧ t.length ≤ 100000 ∧ (∀ c ∈ t, c < 128) ∧ Tk CN H C p t i (prM (t.drop i)) (fun c H' => Q (.str ⟨#[c]⟩) H') E
def iqt (K : W.Frag) : Sp := fun vs H Q _ => ∃ (pc : Addr) (is : List Int) (g : List Nat) (wh : Bool), vs = [.ref pc, tV g, .bl wh] ∧ H pc = some (.lst (is.map V.int)) ∧ is.length = 7 ∧ 0 < g.length ∧ g.length ≤ 100 ∧ (∀ x ∈ g, isSg x = true) ∧ ∀ (x : Ad) (u : V) (H' : Hp), x.Ok → x.Tiny → x.steps.length ≤ 3 → (wh = true → x.scheme ≠ []) → Same H H' → IsT H' x.data u → Q u H'
def gqG (K : W.Frag) : Sp := fun vs H Q _ => ∃ (q : Option (List (List Nat × Option (List Nat)))) (v : V), vs = [v] ∧ IsK K H (qD q) v ∧ (∀ ps, q = some ps → ps.length ≤ 2000 ∧ ∀ p ∈ ps, PairOk p ∧ p.1.length ≤ 2000 ∧ ∀ l, p.2 = some l → l.length ≤ 2000) ∧ (queT q).length ≤ 90000 ∧ ∀ H', Same H H' → Q (.str ⟨(queT q).toArray⟩) H'
def hqd (K : W.Frag) : Sp := fun vs H Q _ => ∃ (x : Ad) (v : V), vs = [v] ∧ IsK K H x.data v ∧ x.steps.length ≤ 2000 ∧ ∀ (u : V) (H' : Hp), Same H H' → IsK K H' x.gone.data u → Q u H'
def pqJ (K : W.Frag) : Sp := fun vs H Q _ => ∃ (w : Way) (v : V), vs = [v] ∧ IsK K H (wayOf w) v ∧ w.2.1.length ≤ 2000 ∧ ∀ (p : Addr) (H' : Hp), Same H H' → SqT K H' p ((holder w).map sV) → Q (.ref p) H'
def iqi (K : W.Frag) (C : Addr) : Sp := fun vs H Q _ => ∃ (p : Addr) (t : List Nat), vs = [.ref p] ∧ Cur H C p t 0 ∧ t.length ≤ 90000 ∧ ∀ H', SameBut p H H' → Cur H' C p t (schP t) → Q (.str ⟨(schM t).toArray⟩) H'
def iqS (K : W.Frag) (C CN : Addr) : Sp := fun vs H Q E => ∃ (p : Addr) (t fr : List Nat) (i : Nat) (mo : Option Nat), vs = [.ref p, .str ⟨fr.toArray⟩, moV mo] ∧ Cur H C p t i ∧ i ≤ t.length ∧ t.length ≤ 100000 ∧ (∀ c ∈ t, c < 128) ∧ fr.length ≤ 100 ∧ Tk CN H C p t i (txtM fr (t.drop i) mo) (fun s H' => Q (.str ⟨s.toArray⟩) H') E
def sqX (K : W.Frag) : Sp := fun vs H Q _ => ∃ (x : Ad) (v : V), vs = [v] ∧ IsK K H x.data v ∧ x.Wf ∧ x.Sz ∧ ∀ H', Same H H' → Q (.str ⟨x.shw.toArray⟩) H'
def gqe (K : W.Frag) (C CN : Addr) : Sp := fun vs H Q E => ∃ (p : Addr) (t : List Nat) (i : Nat) (must : Bool), vs = [.ref p, .bl must] ∧ Cur H C p t i ∧ i ≤ t.length ∧ t.length ≤ 100000 ∧ (∀ c ∈ t, c < 128) ∧ Tk CN H C p t i (wayM must (t.drop i)) (fun w H' => ∀ u, IsT H' (wayOf w) u → Q u H') E
def iqF (K : W.Frag) (C CN : Addr) : Sp := fun vs H Q E => ∃ (p : Addr) (t : List Nat) (i : Nat), vs = [.ref p] ∧ Cur H C p t i ∧ i ≤ t.length ∧ t.length ≤ 100000 ∧ (∀ c ∈ t, c < 128) ∧ Tk CN H C p t i (valM (t.drop i)) (fun o H' => Q (otV o) H') E
def iqW (K : W.Frag) (C CN : Addr) : Sp := fun vs H Q E => ∃ (p : Addr) (t : List Nat) (i : Nat), vs = [.ref p] ∧ Cur H C p t i ∧ i ≤ t.length ∧ t.length ≤ 100000 ∧ (∀ c ∈ t, c < 128) ∧ Tk CN H C p t i (marM (t.drop i)) (fun o H' => Q (otV o) H') E
def eqR (K : W.Frag) (C CN : Addr) : Sp := fun vs H Q E => ∃ (p : Addr) (t fr : List Nat) (i : Nat) (mo : Option Nat), vs = [.ref p, .str ⟨fr.toArray⟩, moV mo] ∧ Cur H C p t i ∧ i ≤ t.length ∧ t.length ≤ 100000 ∧ (∀ c ∈ t, c < 128) ∧ fr.length ≤ 100 ∧ Tk CN H C p t i (filM fr (t.drop i) mo) (fun s H' => Q (.str ⟨s.toArray⟩) H') E
def qqn (K : W.Frag) : Sp := fun vs H Q _ => ∃ (x : Ad) (v : V), vs = [v] ∧ IsK K H x.data v ∧ x.Wf ∧ x.steps.length ≤ 2000 ∧ ∀ (u : V) (H' : Hp), Same H H' → IsK K H' (plainM x).data u → Q u H'
def mqv (K : W.Frag) : Sp := fun vs H Q _ => ∃ (b w : Way) (vb vw : V), vs = [vb, vw] ∧ IsK K H (wayOf b) vb ∧ IsK K H (wayOf w) vw ∧ (∀ s ∈ w.2.1, ∀ c ∈ s, isSg c = true) ∧ b.2.1.length ≤ 1000 ∧ w.2.1.length ≤ 1000 ∧ ∀ (v : V) (H' : Hp), Same H H' → IsK K H' (wayOf (wayFrom b w)) v → Q v H'
def iqB (K : W.Frag) (C CN : Addr) : Sp := fun vs H Q E => ∃ (p : Addr) (t : List Nat) (i : Nat), vs = [.ref p] ∧ Cur H C p t i ∧ i ≤ t.length ∧ t.length ≤ 100000 ∧ (∀ c ∈ t, c < 128) ∧ Tk CN H C p t i (houM (t.drop i)) (fun o H' => Q (otV o) H') E
def gqg (K : W.Frag) (C CN : Addr) : Sp := fun vs H Q E => ∃ (p : Addr) (t : List Nat) (i : Nat), vs = [.ref p] ∧ Cur H C p t i ∧ i ≤ t.length ∧ t.length ≤ 100000 ∧ (∀ c ∈ t, c < 128) ∧ Tk CN H C p t i (queM (t.drop i)) (fun o H' => ∀ u, IsT H' (qD o) u → Q u H') E
def kqj (K : W.Frag) : Sp := fun vs H Q _ => ∃ (b x : Ad) (vb vx : V), vs = [vb, vx] ∧ IsK K H b.data vb ∧ IsK K H x.data vx ∧ x.Wf ∧ b.steps.length ≤ 1000 ∧ x.steps.length ≤ 1000 ∧ ∀ (v : V) (H' : Hp), Same H H' → IsK K H' (madeWhole b x).data v → Q v H'
def qqx (K : W.Frag) (CN : Addr) : Sp := fun vs H Q E => ∃ (v : V), vs = [v] ∧
 ((∃ ty, TyOf K H v ty ∧ W.kitOne K ty (.type "str") = some false ∧ ∀ d H', Same H H' → H' d = some (.xd [("at", .int 0)]) → E (.ref CN) (some d) H') ∨
  ∃ t : List Nat, v = .str ⟨t.toArray⟩ ∧ t.length ≤ 90000 ∧ (∀ c ∈ t, c < 128) ∧ (∀ x, readM t = .ok x → ∀ (u : V) (H' : Hp), Same H H' → IsT H' x.data u → Q u H') ∧
   ∀ k : Nat, readM t = .error k → ∀ d H', Same H H' → H' d = some (.xd [("at", .int (k : Int))]) → E (.ref CN) (some d) H')
def mqm (K : W.Frag) : Sp := fun vs H Q _ => ∃ (b x : Ad) (vb vx : V), vs = [vb, vx] ∧ IsK K H b.data vb ∧ IsK K H x.data vx ∧ b.scheme ≠ [] ∧ x.Wf ∧ b.steps.length ≤ 1000 ∧ x.steps.length ≤ 1000 ∧ ∀ (v : V) (H' : Hp), Same H H' → IsK K H' (resM b x).data v → Q v H'
def AtE (E : XK) (CN : Addr) (H : Hp) (k : Nat) : Prop := ∀ d H', Same H H' → H' d = some (.xd [("at", .int (k : Int))]) → E (.ref CN) (some d) H'
def gqO (K : W.Frag) (D CN CB : Addr) : Sp := fun vs H Q E => ∃ (p dx : Addr) (v : V), vs = [.ref p, v] ∧ H p = some (.ins D dx []) ∧
 ((∃ ty, TyOf K H v ty ∧ W.kitOne K ty (.type "str") = some false ∧ AtE E CN H 0) ∨ ∃ t : List Nat, v = tV t ∧ t.length ≤ 90000 ∧ (∀ c ∈ t, c < 128) ∧
  ((∃ k : Nat, readM t = .error k ∧ AtE E CN H k) ∨ (∃ x, readM t = .ok x ∧ x.scheme = [] ∧ ∀ H', Same H H' → E (.ref CB) none H') ∨
   ∃ x, readM t = .ok x ∧ x.scheme ≠ [] ∧ x.steps.length ≤ 2000 ∧ ∀ H', SameBut p H H' → Dsk K H' D p (plainM x) → Q .non H'))
def hqs (K : W.Frag) (D CN : Addr) : Sp := fun vs H Q E => ∃ (p : Addr) (b : Ad) (t : List Nat), vs = [.ref p, tV t] ∧ Dsk K H D p b ∧ GoodAd 200 b ∧ t.length ≤ 90000 ∧ (∀ c ∈ t, c < 128) ∧
 ((∃ k : Nat, readM t = .error k ∧ AtE E CN H k) ∨ ∃ x, readM t = .ok x ∧ x.steps.length ≤ 200 ∧ ∀ (u : V) (H' : Hp), Same H H' → IsK K H' (plainM (resM b x)).data u → Q u H')
def hqP (K : W.Frag) (D CN : Addr) : Sp := fun vs H Q E => ∃ (p : Addr) (b : Ad) (t : List Nat), vs = [.ref p, tV t] ∧ Dsk K H D p b ∧ GoodAd 100 b ∧ t.length ≤ 90000 ∧ (∀ c ∈ t, c < 128) ∧
 ((∃ k : Nat, readM t = .error k ∧ AtE E CN H k) ∨ ∃ x, readM t = .ok x ∧ x.Tiny ∧ x.steps.length ≤ 150 ∧ ∀ H' : Hp, SameBut p H H' → Dsk K H' D p (plainM (resM b x)) → Q (tV (plainM (resM b x)).shw) H')
def kq6 (K : W.Frag) (D CN : Addr) : Sp := fun vs H Q E => ∃ (p : Addr) (b : Ad) (row : List Nat), vs = [.ref p, tV row] ∧ Dsk K H D p b ∧ GoodAd 50 b ∧ ((row = wAt ∧ ∀ H', Same H H' → Q (tV b.shw) H') ∨ ∃ t : List Nat, t.length ≤ 90000 ∧ (∀ c ∈ t, c < 128) ∧
 ((∃ k : Nat, readM t = .error k ∧ (row = wGo ++ 32 :: t ∨ row = wLink ++ 32 :: t) ∧ AtE E CN H k) ∨ ∃ x, readM t = .ok x ∧ x.Tiny ∧ x.steps.length ≤ 101 ∧ row = wGo ++ 32 :: t ∧ ∀ H' : Hp, SameBut p H H' → Dsk K H' D p (plainM (resM b x)) → Q (tV (plainM (resM b x)).shw) H'))
def iqv (K : W.Frag) : Sp := fun vs H Q _ => ∃ (t : List Nat) (x : Ad), vs = [tV t] ∧ t.length ≤ 90000 ∧ (∀ c ∈ t, c < 128) ∧ readM t = .ok x ∧ x.scheme = [] ∧ ∀ H', Same H H' → Q (.bl true) H'
def fqS (K : W.Frag) (D : Addr) : Sp := fun vs H Q _ => ∃ (v1 v2 : V) (k : Nat), vs = [v1, v2] ∧ ((v1 = .non ∧ ((k = 0 ∧ ∃ ty, (∀ H', TyOf K H' v2 ty) ∧ W.kitOne K ty (.type "str") = some false) ∨ ∃ t, v2 = tV t ∧ t.length ≤ 90000 ∧ (∀ c ∈ t, c < 128) ∧ readM t = .error k)) ∨
  ∃ (p : Addr) (b : Ad) (t row : List Nat), v1 = .ref p ∧ v2 = tV row ∧ Dsk K H D p b ∧ GoodAd 50 b ∧ (row = wGo ++ 32 :: t ∨ row = wLink ++ 32 :: t) ∧ t.length ≤ 90000 ∧ (∀ c ∈ t, c < 128) ∧ readM t = .error k) ∧ ∀ H', Same H H' → Q (.int (k : Int)) H'
def iq0 (K : W.Frag) (D : Addr) : Sp := fun vs H Q _ => ∃ (p : Addr) (b : Ad) (t : List Nat), vs = [.ref p, tV t] ∧ Dsk K H D p b ∧ GoodAd 50 b ∧ t.length ≤ 85000 ∧ (∀ c ∈ t, c < 128) ∧ ∀ H', Same H H' → Q (.bl true) H'
def mqU (K : W.Frag) : Sp := fun vs H Q _ => ∃ (a : Addr) (ns : List Int), vs = [.ref a] ∧ SqL K H a (ns.map V.int) ∧ ns.length ≤ 63 ∧ ∀ H', Q (.bl true) H'
section
variable {H : Hp} {Q : VK} {E : XK} {K : W.Frag}
theorem uqn {c : Nat} : jqE [.str ⟨[c].toArray⟩] H Q E ↔ c < 256 ∧ Q (.str ⟨[126, hexd (c / 16), hexd (c % 16)].toArray⟩) H :=
 ⟨fun ⟨_, e, h⟩ => by injection e with e; injection e with e; cases fqA.mp e; exact h, fun h => ⟨c, rfl, h⟩⟩
theorem vqI {c : Nat} : eqt [.str ⟨[c].toArray⟩] H Q E ↔ c < 128 ∧ Q (figV c) H :=
 ⟨fun ⟨_, e, h⟩ => by injection e with e; injection e with e; cases fqA.mp e; exact h, fun h => ⟨c, rfl, h⟩⟩
theorem pqg {l : List Nat} : jqK [.str ⟨l.toArray⟩] H Q E ↔ l.length ≤ 1000 ∧ (∀ c ∈ l, c < 128) ∧ Q (signOfL l) H :=
 ⟨fun ⟨_, e, h⟩ => by injection e with e; injection e with e; cases fqA.mp e; exact h, fun h => ⟨l, rfl, h⟩⟩
theorem oqE {l : List Nat} : dqI [.str ⟨l.toArray⟩] H Q E ↔ l.length ≤ 2000 ∧ (∀ c ∈ l, isSg c = true) ∧ ∀ H', Same H H' → Q (.str ⟨(wr l).toArray⟩) H' :=
 ⟨fun ⟨_, e, h⟩ => by injection e with e; injection e with e; cases fqA.mp e; exact h, fun h => ⟨l, rfl, h⟩⟩
end
section
variable {P : Program} {w : World} {K : W.Frag} {mg : Str → Option Value} {base : Heap}
seal PE PA PT PS PSs PG PI PF PO PW
local macro_rules | `(tactic| walk_at "rd") => `(tactic| simp only [L2.start, List.map_cons, List.map_nil, List.length_cons, List.length_nil, Nat.reduceAdd, Nat.reduceSub, Nat.zero_add, List.replicate_succ, List.replicate_zero, L2.vqf, L2.rd_C, L2.pqy, L2.tqP, L2.qqp, L2.tq2, L2.tql, L2.uqe, L2.sqj, L2.tqI, L2.uqG, L2.squ, L2.vqu, L2.tqb, L2.rd_B, L2.uqH, L2.vqG, L2.tq0, L2.sqS, L2.uqU, L2.sqa, L2.vqs, L2.qqP, L2.uqS, L2.rq4, L2.uq9, L2.tq5, L2.sqk, L2.sqE, L2.sqU, L2.sq6, L2.sqf, L2.rq3, L2.rq1, L2.qqu, L2.tqp, L2.vqt, L2.vqz, L2.uqa, L2.vqq, L2.oqj, L2.sqT, L2.pq2, L2.rd_I, L2.vqr, L2.tqB, L2.kqa, L2.sqK, L2.rqR, L2.sq5, L2.tqf, L2.sq7, L2.tqg, L2.qq3, L2.sqP, L2.tqa, L2.qqv, L2.uq1, L2.tqL, L2.uqv, L2.vqg, L2.tq8, L2.rq0, L2.qqT, L2.tqd, L2.pqS, L2.qqI, L2.oqs, L2.qq4, L2.qqM, L2.oqP, L2.nqS, L2.gqq, L2.hqm, L2.hqt, L2.gqu, L2.gqh, L2.kqC, L2.lqh, L2.lqN, L2.jq9, L2.iq7, L2.kqZ, L2.lqY, L2.mqz, L2.kqM, L2.jqR, L2.kq3, L2.lq3, L2.mqp, L2.lqC, L2.kqt, L2.jqZ, L2.kqQ, L2.lqf, L2.jqS, L2.jqg, L2.iqX, L2.kqh, L2.jq2, L2.iq5, L2.iqO, L2.tqx, L2.rqU, L2.qqG, L2.rqT, L2.sqz, L2.cx_K, L2.uqo, L2.uq4, L2.uqV, L2.tqY, L2.uqs, L2.uqF, L2.uql, L2.vqv, L2.uqj, L2.pqj, L2.vqn, L2.vqo, L2.vqF, L2.qqC, L2.qq9, L2.sqe, L2.qqj, Option.getD_some, L2.vqh, L2.vqw, L2.rd_U, L2.vqj, L2.tqs, L2.qq2, L2.sqQ, L2.oqq, L2.rqZ, L2.uqt, L2.uq2, L2.sqI, L2.sqm, L2.sqc, L2.sq1, List.getElem?_cons_zero, List.getElem?_cons_succ, List.set_cons_zero, List.set_cons_succ, List.nil_append, List.cons_append, List.append_nil, Option.some.injEq, exists_eq_left, exists_eq_left', true_and, and_true, L2.V.bl.injEq, L2.V.int.injEq, L2.V.str.injEq, L2.V.ref.injEq, List.cons.injEq, reduceCtorEq, false_and, and_false, exists_false, false_or, or_false, decide_eq_true_eq, Bool.not_true, Bool.not_false, ↓reduceIte, if_true, if_false, not_true_eq_false, not_false_eq_true, decide_true, decide_false, Bool.false_eq_true, uqn, vqI, pqg, oqE, L2.qqL, L2.rq7, L2.qqV, L2.qqA, L2.uq6, tqV, L2.uqx, L2.pqW, L2.vqD, L2.rq6, L2.qq1, L2.pqZ, L2.qqf, L2.vqp, L2.oqw, L2.tqr, L2.uqP, L2.mq1, L2.uqR, L2.tqM, L2.sqB, L2.tq4, L2.rqG, L2.uqq, L2.sqD, L2.tqc, L2.sqd, L2.sqH, L2.sq4, L2.oq6, L2.oqJ, L2.qqW, L2.nqq, L2.pq1, L2.nqO, L2.nqu, L2.mq1, L2.oqY, L2.sq3, L2.nq1, L2.uqJ, L2.sqY, L2.sqp, L2.qqy, L2.tqw, L2.sqr, L2.rqP, L2.qqX, L2.qq0, L2.rqW, L2.tqj, L2.uqD, L2.uqB, L2.sqq, L2.pqX, L2.qqN, tqO, pq0, fq6, bqc, oqk, rqX, List.drop_succ_cons, List.drop_zero, L2.pqT, L2.tqR, L2.uqp, L2.uqW, Bool.not_eq_true', decide_eq_false_iff_not])
local macro_rules | `(tactic| walk_at "c") => `(tactic| exact ⟨rfl, rfl, rfl, by decide +kernel, rfl, by decide +kernel, by decide +kernel⟩)
theorem nqC : FnScope ["text", "signs"] ["text", "signs"] (defScope lqI) := by walk_at "c"
theorem jqA : FnScope ["sign", "number"] ["sign"] (defScope kqX) := by walk_at "c"
theorem hqk : FnScope ["figure"] ["figure"] (defScope fqe) := by walk_at "c"
theorem cqO : FnScope ["number", "place"] ["number"] (defScope eq0) := by walk_at "c"
theorem lqW : FnScope ["address"] ["address"] (defScope jqC) := by walk_at "c"
theorem eqO : FnScope ["self", "at"] ["self", "at"] (defScope aqK) := by walk_at "c"
theorem gqK : FnScope ["rooted", "texts", "ends", "ahead", "behind"] ["rooted", "texts", "ends"] (defScope kqR) := by walk_at "c"
theorem pqr : FnScope ["step"] ["step"] (defScope nqg) := by walk_at "c"
theorem pq7 : FnScope ["left", "rooted"] ["left", "rooted"] (defScope oqx) := by walk_at "c"
theorem gqk : FnScope ["self", "text"] ["self", "text"] (defScope aqY) := by walk_at "c"
theorem hqf : FnScope ["self"] ["self"] (defScope bqh) := by walk_at "c"
theorem fqy : FnScope ["self", "sign"] ["self"] (defScope bqQ) := by walk_at "c"
theorem hqh : FnScope ["self", "text"] ["self", "text"] (defScope bqj) := by walk_at "c"
theorem lqr : FnScope ["door", "cursor"] ["door", "cursor"] (defScope hqZ) := by walk_at "c"
theorem eqi : FnScope ["base", "address", "stays"] ["base", "address"] (defScope fqg) := by walk_at "c"
theorem eqa : FnScope ["row", "word", "count", "asked"] ["row"] (defScope jqB) := by walk_at "c"
theorem iqn : FnScope ["_law_script", "_law_k"] ["_law_script", "_law_k"] (defScope fqs) := by walk_at "c"
theorem cqc : FnScope ["_law_cell", "_law_some", "_law_found", "_law_k"] ["_law_cell"] (defScope gqX) := by walk_at "c"
theorem dq0 : FnScope ["_law_cell", "_law_signs_here", "_law_many", "_law_found", "_law_k"] ["_law_cell", "_law_signs_here", "_law_many"] (defScope jqG) := by walk_at "c"
theorem bq5 : FnScope ["_law_cell", "_law_many", "_law_some", "_law_number", "_law_found", "_law_k"] ["_law_cell", "_law_many"] (defScope jqt) := by walk_at "c"
theorem nqy : FnScope ["thing"] ["thing"] (defScope lqu) := by walk_at "c"
theorem gqw : FnScope ["figures", "high", "low"] ["figures"] (defScope kqO) := by walk_at "c"
theorem nqQ : FnScope ["text"] ["text"] (defScope kqI) := by walk_at "c"
theorem dqZ : FnScope ["steps", "rooted", "left", "step"] ["steps", "rooted"] (defScope gqY) := by walk_at "c"
theorem jqf : FnScope ["self", "signs"] ["self", "signs"] (defScope bqS) := by walk_at "c"
theorem jq7 : FnScope ["_law_script", "_law_start", "_law_many"] ["_law_script", "_law_start", "_law_many"] (defScope gq8) := by walk_at "c"
theorem hqe : FnScope ["_law_cell", "_law_signs_here"] ["_law_cell", "_law_signs_here"] (defScope eq7) := by walk_at "c"
theorem bq1 : FnScope ["_law_cell", "_law_found", "_law_k", "_law_more"] ["_law_cell"] (defScope eqE) := by walk_at "c"
theorem lqH : FnScope ["thing"] ["thing"] (defScope iqf) := by walk_at "c"
theorem fqB : FnScope ["house", "door", "behind"] ["house", "door"] (defScope fqO) := by walk_at "c"
theorem lqa : FnScope ["way"] ["way"] (defScope iqH) := by walk_at "c"
theorem iq9 : FnScope ["name", "value"] ["name", "value"] (defScope gqj) := by walk_at "c"
theorem kqx : FnScope ["mark"] ["mark"] (defScope gq6) := by walk_at "c"
theorem mqh : FnScope ["way", "steps", "left"] ["way"] (defScope rqf) := by walk_at "c"
theorem eqb : FnScope ["cursor", "door"] ["cursor"] (defScope gq4) := by walk_at "c"
theorem eqc : FnScope ["cursor", "figures", "sign"] ["cursor"] (defScope gq2) := by walk_at "c"
theorem aqx : FnScope ["_law_cells_here", "_law_signs_here", "_law_whole", "_law_head", "_law_scheme", "_law_house", "_law_door", "_law_rooted", "_law_steps", "_law_ends", "_law_mark"] ["_law_cells_here", "_law_signs_here", "_law_whole"] (defScope fqx) := by walk_at "c"
theorem gqA : FnScope ["question"] ["question"] (defScope eqn) := by walk_at "c"
theorem hqn : FnScope ["address"] ["address"] (defScope eqK) := by walk_at "c"
theorem lqj : FnScope ["way", "way_gone"] ["way"] (defScope nqf) := by walk_at "c"
theorem eqH : FnScope ["cursor", "scheme"] ["cursor"] (defScope fqC) := by walk_at "c"
theorem eqf : FnScope ["cursor", "free", "most", "signs", "allowed"] ["cursor", "free", "most"] (defScope dqx) := by walk_at "c"
theorem oql : FnScope ["address", "scheme"] ["address"] (defScope rqk) := by walk_at "c"
theorem bqD : FnScope ["cursor", "must_be_rooted", "rooted", "steps", "ends", "step"] ["cursor", "must_be_rooted"] (defScope hqJ) := by walk_at "c"
theorem jqi : FnScope ["cursor"] ["cursor"] (defScope fqV) := by walk_at "c"
theorem kqg : FnScope ["cursor"] ["cursor"] (defScope gqU) := by walk_at "c"
theorem cqU : FnScope ["cursor", "free", "most", "text"] ["cursor", "free", "most"] (defScope bql) := by walk_at "c"
theorem kqo : FnScope ["address", "house", "small_house"] ["address"] (defScope pqB) := by walk_at "c"
theorem mqe : FnScope ["base_way", "way"] ["base_way", "way"] (defScope jqj) := by walk_at "c"
theorem iq1 : FnScope ["cursor"] ["cursor"] (defScope gqa) := by walk_at "c"
theorem bqR : FnScope ["cursor", "name", "pairs"] ["cursor"] (defScope eqp) := by walk_at "c"
theorem fq1 : FnScope ["base", "address", "way"] ["base", "address"] (defScope hqc) := by walk_at "c"
theorem eq4 : FnScope ["text", "cursor", "scheme", "house", "door", "way", "question", "mark"] ["text"] (defScope rqe) := by walk_at "c"
theorem mqB : FnScope ["base", "address"] ["base", "address"] (defScope jqs) := by walk_at "c"
theorem eqs : FnScope ["self", "text", "address"] ["self", "text"] (defScope bqg) := by walk_at "c"
theorem hqK : FnScope ["self", "text"] ["self", "text"] (defScope bqw) := by walk_at "c"
theorem nqM : FnScope ["self", "text"] ["self", "text"] (defScope dqM) := by walk_at "c"
theorem iqq : FnScope ["self", "row", "asked"] ["self", "row"] (defScope cqZ) := by walk_at "c"
theorem cqr : FnScope ["_law_text", "_law_error", "e"] ["_law_text"] (defScope fqw) := by walk_at "c"
theorem cqX : FnScope ["_law_desk", "_law_row", "_law_found", "e"] ["_law_desk", "_law_row"] (defScope gq1) := by walk_at "c"
theorem cqz : FnScope ["_law_desk", "_law_bent", "_law_due", "e"] ["_law_desk", "_law_bent"] (defScope fqW) := by walk_at "c"
theorem dqT : FnScope ["_law_script", "_law_signs_here", "_law_base", "_law_desk", "_law_beside", "_law_here", "_law_k", "_law_goal", "_law_cell", "_law_text", "_law_at", "_law_found"] ["_law_script"] (defScope tqS) := by walk_at "c"
theorem gqH (g : G w K mg) : g.eq5.Ok P w base 1 nqT := by
 refine g.eq5.F.ok nqC (fun vs H Q E h => ?_) (fun cdv A outer s H vs Q E hr h => ?_)
 ·obtain ⟨x, y, rfl, _⟩ := h; rfl
 ·obtain ⟨x, y, rfl, hx, k⟩ := h
  refine ⟨_, (aqd (aqk (aqz (oqK (K := K) rfl rfl) rfl g.tq1 PyProof.Rows.boot_all (aqa (iqc (fx := ["signs"]) (fr := [1]) rfl rfl (by decide +kernel) rfl (by decide +kernel) rfl (by decide +kernel) rfl (.cons rfl rfl rfl rfl .nil) rfl (rqB (pv 0)) (fun _ _ _ => jqv) (fun _ _ _ => (bqp kqW (pv 0) (pv 1) (by with_unfolding_all rfl)))) aqb)))), ?_⟩
  walk_at "rd"
  intro p hp
  refine mqM (z := x) (aqp hx) hp (fun c => .bl (decide (c ∈ y.cps.toList))) (fun c hc H' R hR => ?_) (fun H' sm hp' => ?_)
  ·walk_at "rd"
   exact hR H' (Same.refl _)
  ·refine oqq.mpr ⟨x.cps.toList.map fun c => decide (c ∈ y.cps.toList), SqL.of (by rw [hp', List.map_map]; rfl), ?_⟩
   rw [List.all_map]
   exact k H' sm
theorem nqr (g : G w K mg) : g.iqm.Ok P w base 1 jqE := by
 refine g.iqm.F.ok jqA (fun vs H Q E h => ?_) (fun cdv A outer s H vs Q E hr h => ?_)
 ·obtain ⟨c, rfl, _⟩ := h; rfl
 ·obtain ⟨c, rfl, hc, k⟩ := h
  refine ⟨_, (aqc (aql (i := 1) jqA.nd rfl (Or.inl rfl) (aqz pqF rfl g.tqD pqY (aqa (pv 0) aqb)))
   (aqd (aqk (aqn (aqJ (K := K) rfl) (aqn (aqJ (K := K) rfl) aqs (aqD (aqj (K := K) rfl) (aqf (v := cqp) rfl g.bqJ ⟨_, rfl⟩) (aqn aqW (pv 1) aqe) (fun _ _ => rfl))) (aqD (aqj (K := K) rfl) (aqf (v := cqp) rfl g.bqJ ⟨_, rfl⟩) (aqn aq0 (pv 1) aqe) (fun _ _ => rfl)))))), ?_⟩
  walk_at "rd"
  exact ⟨⟨by decide, by decide⟩, hexd (c / 16), kqT, vqi (by lia) (by lia), by decide, by decide, hexd (c % 16), kqT, vqi (by lia) (by lia), by decide, k⟩
theorem eqq (g : G w K mg) : g.cqm.Ok P w base 1 eqt := by
 refine g.cqm.F.ok hqk (fun vs H Q E h => ?_) (fun cdv A outer s H vs Q E hr h => ?_)
 ·obtain ⟨c, rfl, _⟩ := h; rfl
 ·obtain ⟨a, rfl, ha, k⟩ := h
  refine ⟨_, (aqc (aqO (aqm kqW (pv 0) (aqf (v := cqp) rfl g.bqJ ⟨_, rfl⟩) (by with_unfolding_all rfl))
    (aqd (aqk (cqI (K := K) rfl PySem.F.plainAttrs_str PySem.F.slot_str_index PySem.F.type_str_index mqP (aqf (v := cqp) rfl g.bqJ ⟨_, rfl⟩) (aqa (pv 0) aqb)))) aqu)
   (aqc (aqO (aqm kqW (pv 0) (aqf (v := eq8) rfl g.dqf ⟨_, rfl⟩) (by with_unfolding_all rfl))
    (aqd (aqk (cqI (K := K) rfl PySem.F.plainAttrs_str PySem.F.slot_str_index PySem.F.type_str_index mqP (aqf (v := eq8) rfl g.dqf ⟨_, rfl⟩) (aqa (pv 0) aqb)))) aqu)
   (aqd (aqk aqM)))), ?_⟩
  walk_at "rd"
  refine ite2 (fun h => ?_) (fun h => ?_)
  ·obtain ⟨e1, e2⟩ := qq5 a ha h
   obtain ⟨n, hn⟩ := Option.isSome_iff_exists.mp e2
   rw [hn] at e1
   rw [eqQ hn] at k
   exact ⟨n, [], e1, k⟩
  ·refine ite2 (fun h2 => ?_) (fun h2 => ?_)
   ·obtain ⟨e1, e2⟩ := qqm a ha h h2
    obtain ⟨n, hn⟩ := Option.isSome_iff_exists.mp e2
    rw [hn] at e1
    rw [eqQ hn] at k
    exact ⟨n, [], e1, k⟩
   ·rw [iqG (vqE a ha h h2)] at k
    exact k
theorem hqg (g : G w K mg) : g.dqe.Ok P w base 1 hqv := by
 refine g.dqe.F.ok cqO (fun vs H Q E h => ?_) (fun cdv A outer s H vs Q E hr h => ?_)
 ·obtain ⟨c, rfl, _⟩ := h; rfl
 ·obtain ⟨n, rfl, k⟩ := h
  refine ⟨_, (aqc (aqO (PW.pt (eq9 (aqm qqd (pv 0) (aqf (v := fqt) rfl g.dqA ⟨_, rfl⟩) (nomark _)) (eq9 (aqm mqt (pv 0) (aqf (v := kqf) rfl g.gqi ⟨_, rfl⟩) (nomark _)) (dqW (aqm cqH (pv 0) (aqf (v := dqS) rfl g.cqv ⟨_, rfl⟩) (nomark _))))))
    (aqd (aqk aqM)) aqu)
   (aqc (aql (i := 1) cqO.nd rfl (Or.inl rfl) (aqn rqF (pv 0) (aqf (v := fqt) rfl g.dqA ⟨_, rfl⟩)))
   (aqc (aqO (aqm mqt (pv 0) (aqf (v := dqS) rfl g.cqv ⟨_, rfl⟩) (nomark _))
    (aqd (aql (i := 1) cqO.nd rfl (Or.inl rfl) (aqn rqF (pv 1) aqe))) aqu)
   (aqd (aqk (aqD (aqj (K := K) rfl) (aqf (v := oqz) rfl g.lqP ⟨_, rfl⟩) (pv 1) (fun _ _ => rfl))))))), ?_⟩
  walk_at "rd"
  refine ite2 (fun h => ?_) (fun h => ?_)
  ·rw [oqX (fun q => by have := dqH q; lia)] at k
   exact k
  ·refine ite2 (fun h1 => ?_) (fun h1 => ?_)
   ·rw [oqX (fun q => by have := dqH q; lia)] at k
    exact k
   ·refine ite2 (fun h2 => ?_) (fun h2 => ?_)
    ·rw [oqX (fun q => by have := dqH q; lia)] at k
     exact k
    ·have hs : isSg n = true := sqv (by lia) (by lia) (by lia)
     rw [tqz hs] at k
     have hat := qqR n (by lia) hs
     refine ite2 (fun h3 => ?_) (fun h3 => ?_)
     ·rw [if_pos (show 37 < n by lia)] at hat
      refine ⟨n, lqn, ?_, k⟩
      rw [show (n : Int) - 32 - 1 = ((n - 32 - 1 : Nat) : Int) by lia]
      exact aqH hat
     ·rw [if_neg (show ¬ 37 < n by lia)] at hat
      refine ⟨n, lqn, ?_, k⟩
      rw [show (n : Int) - 32 = ((n - 32 - 0 : Nat) : Int) by lia]
      exact aqH hat
theorem eqe (g : G w K mg) : g.cq3.Ok P w base 1 (lqX K) := by
 refine g.cq3.F.ok lqW (fun vs H Q E h => ?_) (fun cdv A outer s H vs Q E hr h => ?_)
 ·obtain ⟨p, l, r, rfl, _⟩ := h; rfl
 ·obtain ⟨p, l, r, rfl, hp, k⟩ := h
  refine ⟨_, (aqd (aqk (bqp fqF (aqD (aqj (K := K) rfl) (pv 0) (aqf (v := hqA) rfl g.fq4 ⟨_, rfl⟩) (fun _ _ => rfl)) aqs (nomark _)))), ?_⟩
  walk_at "rd"
  refine ⟨_, _, .inr hp, iqY, ?_⟩
  walk_at "rd"
  rw [show decide ((⟨l.toArray⟩ : Str) = ⟨([] : List Nat).toArray⟩) = decide (l = []) from decide_eq_decide.mpr fqA]
  exact k
theorem aqG (g : G w K mg) : FnOk P w K mg base CX0 1 g.bqe g.aq7 ["self", "at"] (cqL K g.aqg) := by
 refine g.cqS.ok eqO (fun vs H Q E h => ?_) (fun cdv A outer s H vs Q E hr h => ?_)
 ·obtain ⟨a, v, rfl, _⟩ := h; rfl
 ·obtain ⟨a, v, rfl, ha, k⟩ := h
  refine ⟨_, (aqd (rq5 (pv 0) (pv 1) rfl)), ?_⟩
  walk_at "rd"
  exact ⟨a, _, rfl, ha, g.eq3, fun d hd => k d hd⟩
theorem nqF (g : G w K mg) : g.iqE.Ok P w base 1 (nq2 K) := by
 refine g.iqE.F.ok gqK (fun vs H Q E h => ?_) (fun cdv A outer s H vs Q E hr h => ?_)
 ·obtain ⟨r, e, p, ts, rfl, _⟩ := h; rfl
 ·obtain ⟨r, e, p, ts, rfl, hp, hl, k⟩ := h
  refine ⟨_, (aqF (aql (i := 3) gqK.nd rfl (Or.inl rfl) (aq4 (aqI (pv 0)) aqs aqs))
   (aqF (aql (i := 4) gqK.nd rfl (Or.inl rfl) (aq4 (PW.pt (gqS (aqI (pv 2)) (fqD (aqm mqt (aqz (aq2 (K := K) rfl) rfl g.fqo PySem.boot_len (aqa (pv 1) aqb)) aqe (nomark _))))) aqs aqs))
   (aqd (aqk (aqn (aqJ (K := K) rfl) (aqn (aqJ (K := K) rfl) (pv 3) (cqI (K := K) rfl PySem.F.plainAttrs_str PySem.F.slot_str_join PySem.F.type_str_join (hqD (K := K) rfl) aqs (aqa (pv 1) aqb))) (pv 4)))))), ?_⟩
  have c1 : Str.ofString "/" = ⟨[47].toArray⟩ := by decide +kernel
  rw [c1]
  walk_at "rd"
  refine ⟨fun σ H' => H' = H ∧ σ = [some (.bl r), some (.ref p), some (.bl e), some (.str ⟨(if r then [47] else [] : List Nat).toArray⟩), none], ?_, ?_⟩
  ·cases r with
   | true => exact ite2 (fun _ => ⟨rfl, rfl⟩) (fun z => absurd rfl z)
   | false => exact ite2 (fun z => by cases z) (fun _ => ⟨rfl, rfl⟩)
  rintro σ H' ⟨rfl, rfl⟩
  walk_at "rd"
  refine ⟨fun σ H'' => H'' = H' ∧ σ = [some (.bl r), some (.ref p), some (.bl e), some (.str ⟨(if r then [47] else [] : List Nat).toArray⟩), some (.str ⟨(if e && !ts.isEmpty then [47] else [] : List Nat).toArray⟩)], ?_, ?_⟩
  ·cases e with
   | false => exact ite2 (fun z => by cases z) (fun _ => ⟨rfl, rfl⟩)
   | true =>
    refine ite2 (fun _ => ⟨_, .inl hp, ?_⟩) (fun z => absurd rfl z)
    rw [List.length_map]
    cases ts with
    | nil => exact ite2 (fun z => absurd z (by decide)) (fun _ => ⟨rfl, rfl⟩)
    | cons t ts => exact ite2 (fun _ => ⟨rfl, rfl⟩) (fun z => absurd (by simp) z)
  rintro σ H'' ⟨rfl, rfl⟩
  walk_at "rd"
  have hj := nqj (sep := 47) ts
  have h1 : (if r = true then [47] else ([] : List Nat)).length ≤ 1 := by split <;> simp
  have h2 : (if (e && !ts.isEmpty) = true then [47] else ([] : List Nat)).length ≤ 1 := by split <;> simp
  refine ⟨ts.map fun l => ⟨l.toArray⟩, by rw [List.map_map]; exact hp, ?_, ?_⟩
  ·rw [pqe, List.length_map]
   have : (ts.map List.length).sum + ts.length ≤ (joinT 47 ts).length + 1 := hj
   lia
  rw [show (⟨#[47]⟩ : Str) = ⟨[47].toArray⟩ from rfl, nqb]
  walk_at "rd"
  refine ⟨aqp (by lia), aqp (by rw [List.length_append]; lia), ?_⟩
  rw [List.append_assoc]
  exact k
theorem kup : k_UP = sV sUp := congrArg V.str (show Str.ofString ".." = ⟨sUp.toArray⟩ by decide +kernel)
theorem kst : mqI = sV sStay := congrArg V.str (show Str.ofString "." = ⟨sStay.toArray⟩ by decide +kernel)
theorem oqS (g : G w K mg) : g.kqe.Ok P w base 1 oq2 := by
 refine g.kqe.F.ok pqr (fun vs H Q E h => ?_) (fun cdv A outer s H vs Q E hr h => ?_)
 ·obtain ⟨s, rfl, _⟩ := h; rfl
 ·obtain ⟨s, rfl, k⟩ := h
  refine ⟨_, (aqd (aqk (pqI (bqp cqH (pv 0) (aqf (v := mqI) rfl g.mqL ⟨_, rfl⟩) (nomark _)) (fqq (bqp cqH (pv 0) (aqf (v := k_UP) rfl g.c_UP ⟨_, rfl⟩) (nomark _)))))), ?_⟩
  have d1 : Str.ofString ".." = ⟨sUp.toArray⟩ := by decide +kernel
  have d2 : Str.ofString "." = ⟨sStay.toArray⟩ := by decide +kernel
  walk_at "rd"
  rw [d1, d2]
  simp only [fqA]
  by_cases h2 : s = sStay
  ·rw [if_pos h2]
   rw [show isDot s = true by simp [isDot, h2]] at k
   exact k
  ·rw [if_neg h2]
   rw [show isDot s = decide (s = sUp) by simp [isDot, h2]] at k
   exact k
theorem qqq (g : G w K mg) : g.lq5.Ok P w base 1 (qql K) := by
 refine g.lq5.F.ok pq7 (fun vs H Q E h => ?_) (fun cdv A outer s H vs Q E hr h => ?_)
 ·obtain ⟨p, L, r, rfl, _⟩ := h; rfl
 ·obtain ⟨p, L, r, rfl, hp, hl, k⟩ := h
  refine ⟨_, (aqd (aqO (PW.pt (gqS (aqm mqt (aqz (aq2 (K := K) rfl) rfl g.fqo PySem.boot_len (aqa (pv 0) aqb)) aqe (nomark _)) (fqD (aqm fqF (aqD (aqj (K := K) rfl) (pv 0) (oq3 lqx aqe) (fun _ _ => rfl)) (aqf (v := k_UP) rfl g.c_UP ⟨_, rfl⟩) (nomark _)))))
    (aqd (dqG (lq0 (K := K) rfl PySem.F.plainAttrs_list PySem.F.slot_list_pop PySem.F.type_list_pop uq8 (pv 0)))) (aqd (aqO (bqY (aqI (pv 1)))
    (aqd (dqG (cqI (K := K) rfl PySem.F.plainAttrs_list PySem.F.slot_list_append PySem.F.type_list_append cqK (pv 0) (aqa (aqf (v := k_UP) rfl g.c_UP ⟨_, rfl⟩) aqb)))) aqu)))), ?_⟩
  walk_at "rd"
  simp only [kup]
  have hS : SqL K H p (L.map sV) ∨ SqT K H p (L.map sV) := .inl (.of hp)
  have put : (if r then L else L ++ [sUp]) = goUp r L → (if r = false then (∃ xs, SqL K H p xs) ∧ ∃ xs, H p = some (.lst xs) ∧ xs.length < sizeLine ∧ Q .non (upd H p (.lst (xs ++ [sV sUp]))) else Q .non H) := fun e => by
   cases r with
   | true =>
    rw [if_neg (by decide)]
    rw [← e, if_pos rfl, uqZ hp] at k
    exact k
   | false =>
    rw [if_pos rfl]
    refine ⟨⟨_, .of hp⟩, _, hp, aqp (by rw [List.length_map]; lia), ?_⟩
    rw [← e, if_neg (by decide), List.map_append] at k
    exact k
  refine ⟨_, hS, ?_⟩
  rw [List.length_map]
  cases hg : L.getLast? with
  | none =>
   have hL := List.getLast?_eq_none_iff.mp hg
   subst hL
   refine ite2 (fun z => absurd z (by decide)) (fun _ => put ?_)
   simp [goUp]
  | some s =>
   have hn : L ≠ [] := fun z => by rw [z] at hg; cases hg
   have hl0 := List.length_pos_iff.mpr hn
   refine ite2 (fun _ => ?_) (fun z => absurd (by lia) z)
   refine ⟨_, _, hS, mqC _ hg, ?_⟩
   walk_at "rd"
   by_cases hs : s = sUp
   ·subst hs
    refine ite2 (fun z => absurd (rfl : (⟨sUp.toArray⟩ : Str) = ⟨sUp.toArray⟩) z) (fun _ => put ?_)
    simp only [goUp, hg, if_true]
   ·refine ite2 (fun _ => ?_) (fun z => absurd (fun e => hs (fqA.mp e)) z)
    refine ⟨⟨_, .of hp⟩, _, sV s, hp, ?_, ?_⟩
    ·rw [List.length_map, List.getElem?_map, ← List.getLast?_eq_getElem?, hg]; rfl
    ·rw [show goUp r L = L.dropLast by simp only [goUp, hg, if_neg hs], List.map_dropLast] at k
     exact k
theorem gqc (g : G w K mg) : FnOk P w K mg base CX0 1 g.bqO g.bqx ["self", "text"] (fqP K g.aqr) := by
 refine g.dqK.ok gqk (fun vs H Q E h => ?_) (fun cdv A outer s H vs Q E hr h => ?_)
 ·obtain ⟨p, dx, t, rfl, _⟩ := h; rfl
 ·obtain ⟨p, dx, t, rfl, hp, k⟩ := h
  refine ⟨_, (aqc (iqP (pv 0) (pv 1) rfl)
   (aqd (iqP (pv 0) aqe rfl))), ?_⟩
  walk_at "rd"
  refine ⟨p, _, dx, _, rfl, hp, g.aqi, g.aqX, by show 0 < 1000; decide, ?_⟩
  refine ⟨p, _, dx, _, rfl, aqh, g.aqi, g.aqo, by show 1 < 1000; decide, ?_⟩
  have h : Str.ofString "text" ≠ Str.ofString "place" := by decide +kernel
  rw [oqp]
  refine k _ aqR ⟨dx, ?_⟩
  rw [aqh]
  simp only [putF, if_neg h]
  rfl
theorem eqo (g : G w K mg) : FnOk P w K mg base CX0 1 g.cqk g.bq0 ["self"] (hqj K g.aqr) := by
 refine g.fqb.ok hqf (fun vs H Q E h => ?_) (fun cdv A outer s H vs Q E hr h => ?_)
 ·obtain ⟨p, t, i, rfl, _⟩ := h; rfl
 ·obtain ⟨p, t, i, rfl, ⟨dx, hp⟩, hl, k⟩ := h
  refine ⟨_, (aqd (aqk (bqp cqH (bqt (pv 0) rfl) (aqz (aq2 (K := K) rfl) rfl g.fqo PySem.boot_len (aqa (bqt (pv 0) rfl) aqb)) (nomark _)))), ?_⟩
  have hcur : Cur H g.aqr p t i := ⟨dx, hp⟩
  walk_at "rd"
  refine aqQ hcur g.aqi g.aqo (dq1 hcur g.aqi g.aqX ?_)
  walk_at "rd"
  refine ⟨aqp hl, ?_⟩
  rw [show decide ((i : Int) = (t.length : Int)) = decide (i = t.length) from decide_eq_decide.mpr (by lia)]
  exact k
theorem bqZ (g : G w K mg) : FnOk P w K mg base CX0 1 g.cqV g.cqC ["self"] (jqh K g.aqr) := by
 refine g.fq9.ok fqy (fun vs H Q E h => ?_) (fun cdv A outer s H vs Q E hr h => ?_)
 ·obtain ⟨p, t, i, c, rfl, _⟩ := h; rfl
 ·obtain ⟨p, t, i, c, rfl, ⟨dx, hp⟩, hc, hl, k⟩ := h
  refine ⟨_, (aqc (aql (i := 1) fqy.nd rfl (Or.inl rfl) (aqD (aqj (K := K) rfl) (bqt (pv 0) rfl) (bqt (pv 0) rfl) (fun _ _ => rfl)))
   (aqc (iqP (pv 0) (aqn (aqJ (K := K) rfl) (bqt (pv 0) rfl) aqe) rfl)
   (aqd (aqk (pv 1))))), ?_⟩
  have hcur : Cur H g.aqr p t i := ⟨dx, hp⟩
  walk_at "rd"
  refine dq1 hcur g.aqi g.aqX (aqQ hcur g.aqi g.aqo ?_)
  walk_at "rd"
  refine ⟨c, aqp hl, aqH hc, ?_⟩
  refine aqQ hcur g.aqi g.aqo ?_
  walk_at "rd"
  exact lqy hcur g.aqi g.aqo (i + 1) (by lia) fun H' sb h => k H' sb h
theorem pqP {K : W.Frag} {C p : Addr} {H : Hp} {Q : VK} {E : XK} {t w r : List Nat} {i : Nat} (h : Cur H C p t i) (hi : i ≤ t.length) (hl : t.length ≤ 100000) (hd : t.drop i = w ++ r) (k : ∀ H', SameBut p H H' → Cur H' C p t (i + w.length) → i + w.length ≤ t.length → t.drop (i + w.length) = r → Q (.bl true) H') : cqR K C [.ref p, .str ⟨w.toArray⟩] H Q E :=
 ⟨p, t, w, i, rfl, h, hi, hl, fun _ H' s c => k H' s c (by have := congrArg List.length hd; rw [List.length_drop, List.length_append] at this; lia) (by rw [← List.drop_drop, hd, List.drop_left]), fun z => absurd (by rw [hd, List.take_left]) z⟩
theorem tqk {K : W.Frag} {C p : Addr} {H : Hp} {Q : VK} {E : XK} {t w : List Nat} {i : Nat} (h : Cur H C p t i) (hi : i ≤ t.length) (hl : t.length ≤ 100000) (hn : ¬ (t.drop i).take w.length = w) (k : Q (.bl false) H) : cqR K C [.ref p, .str ⟨w.toArray⟩] H Q E :=
 ⟨p, t, w, i, rfl, h, hi, hl, fun z => absurd z hn, fun _ => k⟩
theorem aqC (g : G w K mg) : FnOk P w K mg base CX0 1 g.cqn g.bq3 ["self", "text"] (cqR K g.aqr) := by
 refine g.eqM.ok hqh (fun vs H Q E h => ?_) (fun cdv A outer s H vs Q E hr h => ?_)
 ·obtain ⟨p, t, w, i, rfl, _⟩ := h; rfl
 ·obtain ⟨p, t, w, i, rfl, ⟨dx, hp⟩, hi, hl, k1, k2⟩ := h
  refine ⟨_, (aqc (aqO (bqY (aqI (cqI (K := K) rfl PySem.F.plainAttrs_str PySem.F.slot_str_startswith PySem.F.type_str_startswith nqv (bqt (pv 0) rfl) (aqa (pv 1) (aqa (bqt (pv 0) rfl) aqb)))))
    (aqd (aqk dqQ)) aqu)
   (aqc (iqP (pv 0) (aqn (aqJ (K := K) rfl) (bqt (pv 0) rfl) (aqz (aq2 (K := K) rfl) rfl g.fqo PySem.boot_len (aqa (pv 1) aqb))) rfl)
   (aqd (aqk dqQ)))), ?_⟩
  have hcur : Cur H g.aqr p t i := ⟨dx, hp⟩
  walk_at "rd"
  refine dq1 hcur g.aqi g.aqX ⟨rfl, aqQ hcur g.aqi g.aqo ?_⟩
  walk_at "rd"
  have e := oqN t w i hi
  rw [bqc, bqc] at e
  rw [e]
  by_cases h : (t.drop i).take w.length = w
  ·rw [decide_eq_true h, if_neg (by decide)]
   refine aqQ hcur g.aqi g.aqo ?_
   walk_at "rd"
   exact ⟨aqp (by have := congrArg List.length h; rw [List.length_take, List.length_drop] at this; lia), lqy hcur g.aqi g.aqo (i + w.length) (by lia) fun H' sb h' => k1 h H' sb h'⟩
  ·rw [decide_eq_false h, if_pos rfl]
   exact k2 h
theorem gq0 (g : G w K mg) : g.dq7.Ok P w base 1 (lqg K g.aqr) := by
 refine g.dq7.F.ok lqr (fun vs H Q E h => ?_) (fun cdv A outer s H vs Q E hr h => ?_)
 ·obtain ⟨p, t, i, c, n, rfl, _⟩ := h; rfl
 ·obtain ⟨p, t, i, c, n, rfl, hcur, hl, hc, h48, h57, hn, k⟩ := h
  refine ⟨_, (aqd (aqk (aqn (aqJ (K := K) rfl) (aqn dq8 (pv 0) aqe) (cqg lqk rfl g.pqV oqC (aqa (aqD (aqj (K := K) rfl) (bqt (pv 1) rfl) (bqt (pv 1) rfl) (fun _ _ => rfl)) aqb))))), ?_⟩
  walk_at "rd"
  refine ⟨.inl ⟨by lia, by lia⟩, dq1 hcur g.aqi g.aqX (aqQ hcur g.aqi g.aqo ?_)⟩
  walk_at "rd"
  refine ⟨c, aqp hl, aqH hc, _, by show 1 ≤ 640; decide, oq5 c (by lia) h48, ?_⟩
  rw [show (n : Int) * 10 + ((c - 48 : Nat) : Int) = ((n * 10 + (c - 48) : Nat) : Int) by lia]
  exact k
theorem lqZ (g : G w K mg) : g.jqq.Ok P w base 1 mqn := ⟨fun _ _ _ _ h => h.elim, fun _ _ _ _ _ _ _ _ _ _ _ _ _ h => h.elim⟩
theorem hqi (g : G w K mg) : g.dqh.Ok P w base 1 (hqr K) := by
 refine g.dqh.F.ok eqi (fun vs H Q E h => ?_) (fun cdv A outer s H vs Q E hr h => ?_)
 ·obtain ⟨b, x, vb, vx, rfl, _⟩ := h; rfl
 ·obtain ⟨b, x, vb, vx, rfl, hB, hX, wf, k⟩ := h
  refine ⟨_, (aqc (aql (i := 2) eqi.nd rfl (Or.inl rfl) (iqh (bqp (rqb (K := K) rfl hr.units) (aqD (aqj (K := K) rfl) (pv 1) (aqf (v := mqo) rfl g.lqv ⟨_, rfl⟩) (fun _ _ => rfl)) (aqf (v := .ref g.fq0) rfl g.jq4 rfl) (nomark _)) (fqq (bqp cqu (aqD (aqj (K := K) rfl) (pv 1) (aqf (v := dqP) rfl g.cq4 ⟨_, rfl⟩) (fun _ _ => rfl)) aqM (nomark _)))))
   (aqd (aqk (aq4 (aqI (pv 2)) (aqD (aqj (K := K) rfl) (pv 0) (aqf (v := dqP) rfl g.cq4 ⟨_, rfl⟩) (fun _ _ => rfl)) (aqD (aqj (K := K) rfl) (pv 1) (aqf (v := dqP) rfl g.cq4 ⟨_, rfl⟩) (fun _ _ => rfl)))))), ?_⟩
  obtain ⟨pb, wb, qb, rfl, hpb, hwb, hqb⟩ := fqR hB
  obtain ⟨px, wx, qx, rfl, hpx, hwx, hqx⟩ := fqR hX
  walk_at "rd"
  refine ⟨_, _, .inr hpx, rfl, ?_⟩
  refine ⟨wayOf x.w, wayOf noWay, hwx, g.jq0 H, jqx (fun s hs => (wf.stp s hs).2), by decide, _, rfl, ?_⟩
  rw [mqN]
  by_cases e : x.w = noWay
  ·rw [if_pos (decide_eq_true e)]
   refine ⟨_, _, .inr hpx, rfl, ?_⟩
   cases hq : x.quest with
   | none =>
    rw [hq] at hqx
    cases hqx
    refine ite2 (fun _ => ⟨_, _, .inr hpb, rfl, k _ ?_⟩) (fun z => absurd rfl z)
    rw [questFrom, if_pos ⟨e, hq⟩]; exact hqb
   | some ps =>
    rw [hq] at hqx
    obtain ⟨p', xs, rfl, _⟩ := gqt hqx
    refine ite2 (fun z => by cases z) (fun _ => ⟨_, _, .inr hpx, rfl, k _ ?_⟩)
    rw [questFrom, if_neg (by simp [hq]), hq]; exact hqx
  ·rw [if_neg (by simpa using e)]
   refine ⟨_, _, .inr hpx, rfl, k _ ?_⟩
   rw [questFrom, if_neg (fun z => e z.1)]; exact hqx
theorem mqA (g : G w K mg) : g.gqL.Ok P w base 1 (mqy K) := by
 refine g.gqL.F.ok eqa (fun vs H Q E h => ?_) (fun cdv A outer s H vs Q E hr h => ?_)
 ·obtain ⟨row, rfl, _⟩ := h; rfl
 ·obtain ⟨row, rfl, k⟩ := h
  refine ⟨_, (aqc (aqO (bqY (aqI (aqz iqQ rfl g.aqL aqA (aqa (pv 0) (aqa (hqQ (v := .ty "str") rfl g.nq5 lqE rfl) aqb)))))
    (aqd eqd) aqu)
   (aqc (aql (i := 1) eqa.nd rfl (Or.inl rfl) (aqD (aqj (K := K) rfl) (cqI (K := K) rfl PySem.F.plainAttrs_str PySem.F.slot_str_partition PySem.F.type_str_partition gqR (pv 0) (aqa aqs aqb)) aqe (fun _ _ => rfl)))
   (aqc (aqO (aqm (uqK (g.dqD P)) (pv 1) (aqf (v := .ref g.bqX) rfl g.dqB rfl) (by with_unfolding_all rfl))
    (aqd eqd) aqu)
   (aqc (aql (i := 2) eqa.nd rfl (Or.inl rfl) (aqn (aq8 (K := K)) aqe (uqi (g.dqD P) (aqf (v := .ref g.bqX) rfl g.dqB rfl) (pv 1) (fun _ _ => rfl))))
   (aqc (aql (i := 3) eqa.nd rfl (Or.inl rfl) (aq4 (aqm (gqy (K := K) rfl) (pv 1) (aqf (v := .ref g.dqb) rfl g.fqI rfl) (by with_unfolding_all rfl)) (cqI (K := K) rfl PySem.F.plainAttrs_str PySem.F.slot_str_split PySem.F.type_str_split pqG (pv 0) (aqa aqs (aqa (pv 2) aqb))) (cqI (K := K) rfl PySem.F.plainAttrs_str PySem.F.slot_str_split PySem.F.type_str_split pqQ (pv 0) (aqa aqs aqb))))
   (aqc (aqO (PW.pt (eq9 (aqm fqF (aqz (aq2 (K := K) rfl) rfl g.fqo PySem.boot_len (aqa (pv 3) aqb)) (aq4 (aqm (gqy (K := K) rfl) (pv 1) (aqf (v := .ref g.dqb) rfl g.fqI rfl) (by with_unfolding_all rfl)) (aqn (aq8 (K := K)) (pv 2) aqe) (pv 2)) (nomark _)) (dqW (aqm (gqy (K := K) rfl) aqs (cqh (hqO (K := K) rfl) (pv 3) dqz (cqQ (pv 2))) (by with_unfolding_all rfl)))))
    (aqd eqd) aqu)
   (aqd (aqk (pv 3))))))))), ?_⟩
  have e32 : Str.ofString " " = ⟨#[32]⟩ := by decide +kernel
  rw [e32]
  walk_at "rd"
  rcases k with ⟨rfl, k⟩ | ⟨w, t, hw, rfl, hl, k⟩
  ·refine ⟨rfl, by decide, fun p hp => ⟨_, _, .inr (.of aqh), iqY, ?_⟩⟩
   rw [show (Txt.partition ⟨wAt.toArray⟩ ⟨#[32]⟩).1 = mkS wAt from congrArg Prod.fst (sqN (t := wAt) (by decide))]
   refine ⟨rfl, _, rfl, false, by with_unfolding_all kernel_rfl, ?_⟩
   rw [if_neg (by decide)]
   refine ⟨_, 0, rfl, by with_unfolding_all kernel_rfl, ?_⟩
   refine ⟨_, wtW.map V.str, rfl, .inr (hqC (ss := wtW) (g.dqm _)), rfl, rfl, false, by rw [fq2]; decide +kernel, ?_⟩
   rw [if_neg (by decide), show (Txt.split ⟨wAt.toArray⟩ ⟨#[32]⟩).map V.str = [tV wAt] by decide +kernel]
   refine ⟨by decide, fun q hq => ⟨_, .inl (.of aqh), _, wtW.map V.str, rfl, .inr (hqC (ss := wtW) (g.dqm _)), rfl, rfl, false, by rw [fq2]; decide +kernel, ?_⟩⟩
   rw [if_neg (by decide), if_neg (by decide)]
   refine ⟨_, .of aqh, fun r hr => ⟨_, _, rfl, .inl (.of aqh), rfl, rfl, false, by decide +kernel, ?_⟩⟩
   rw [if_neg (by decide)]
   exact k q _ (((aqU hp).trans (aqU hq)).trans (aqU hr)) (aqU hr _ _ aqh)
  ·have c1 : 32 ∉ w ∧ w.length ≤ 4 ∧ PySem.Spec.lookup (.str (mkS w)) (cqA.map fun p => (PyData.str p.1, p.2)) = some (.int 0) ∧ inV (tV w) (wtW.map V.str) = true ∧ inV (.str ⟨#[]⟩) [tV w] = false := by
    rcases hw with rfl | rfl
    ·exact ⟨by decide, by decide, by with_unfolding_all kernel_rfl, by rw [fq2]; decide +kernel, by decide +kernel⟩
    ·exact ⟨by decide, by decide, by with_unfolding_all kernel_rfl, by rw [fq2]; decide +kernel, by decide +kernel⟩
   obtain ⟨c1, c2, c3, c4, c5⟩ := c1
   refine ⟨rfl, aqp (by simp; lia), fun p hp => ⟨_, _, .inr (.of aqh), iqY, ?_⟩⟩
   rw [show (Txt.partition ⟨(w ++ 32 :: t).toArray⟩ ⟨#[32]⟩).1 = mkS w from congrArg Prod.fst (tqo (a := w) (b := t) (c := 32) c1)]
   refine ⟨rfl, _, rfl, false, by rw [c3]; rfl, ?_⟩
   rw [if_neg (by decide)]
   refine ⟨_, 0, rfl, c3, ?_⟩
   refine ⟨_, wtW.map V.str, rfl, .inr (hqC (ss := wtW) (g.dqm _)), rfl, rfl, true, congrArg V.bl c4, ?_⟩
   rw [if_pos rfl]
   refine ⟨_, 32, 1, rfl, rfl, by rw [bqc]; simp; lia, by decide, fun q hq => ?_⟩
   rw [show ((Txt.splitMax ⟨(w ++ 32 :: t).toArray⟩ ⟨#[32]⟩ ((1 : Nat) : Int)).map V.str) = [tV w, tV t] from congrArg (List.map V.str) (nqD (a := w) (b := t) (c := 32) c1 (by decide))]
   walk_at "rd"
   refine ⟨_, .inl (.of aqh), _, wtW.map V.str, rfl, .inr (hqC (ss := wtW) (g.dqm _)), rfl, rfl, true, congrArg V.bl c4, ?_⟩
   rw [if_pos rfl, if_neg (fun z => z rfl)]
   refine ⟨_, .of aqh, fun r hr => ⟨_, _, rfl, .inl (.of aqh), rfl, rfl, false, congrArg V.bl c5, ?_⟩⟩
   rw [if_neg (by decide)]
   exact k q _ (((aqU hp).trans (aqU hq)).trans (aqU hr)) (aqU hr _ _ aqh)
theorem dqc (g : G w K mg) : g.bqU.Ok P w base 1 (hqL K) := by
 refine g.bqU.F.ok iqn (fun vs H Q E h => ?_) (fun cdv A outer s H vs Q E hr h => ?_)
 ·obtain ⟨a, ns, k, rfl, _⟩ := h; rfl
 ·obtain ⟨a, ns, i, rfl, hS, k⟩ := h
  refine ⟨_, (aqc (aqO (aqm qqd (pv 1) (aqz (aq2 (K := K) rfl) rfl g.fqo PySem.boot_len (aqa (pv 0) aqb)) (nomark _))
    (aqd (aqk (aqD (aqj (K := K) rfl) (pv 0) (pv 1) (fun _ _ => rfl)))) aqu)
   (aqd (aqk aqe))), ?_⟩
  walk_at "rd"
  refine ⟨ns.map V.int, .inl hS, ite2 (fun h => ?_) (fun h => ?_)⟩
  ·rw [List.length_map] at h
   exact ⟨ns.map V.int, _, .inl hS, tqq (by lia), k⟩
  ·rw [List.length_map] at h
   rw [List.getD_eq_getElem?_getD, List.getElem?_eq_none (by lia)] at k
   exact k
theorem kqb (g : G w K mg) : g.eq2.Ok P w base 1 (jqM K) := by
 refine g.eq2.F.ok cqc (fun vs H Q E h => ?_) (fun cdv A outer s H vs Q E hr h => ?_)
 ·obtain ⟨c, rfl, _⟩ := h; rfl
 ·obtain ⟨c, rfl, k⟩ := h
  refine ⟨_, (aqc (aql (i := 1) cqc.nd rfl (Or.inl rfl) aqs)
   (aqc (aql (i := 2) cqc.nd rfl (Or.inl rfl) aqs)
   (aqc (jqr PassesOwn.never rfl (dqj rfl g.eqI (aqa aqe aqb)) (dqY (i := 3) cqc.nd rfl (Or.inl rfl))
   (aqd (aql (i := 2) cqc.nd rfl (Or.inl rfl) (aqn (aq8 (K := K)) (pv 2) (aqD (aqj (K := K) rfl) (pv 1) (aqn aq0 (aqn aqW (pv 0) (aqn (aq8 (K := K)) (aqn dq8 (pv 3) aqe) aqe)) (aqz (aq2 (K := K) rfl) rfl g.fqo PySem.boot_len (aqa (pv 1) aqb))) (fun _ _ => rfl))))))
   (aqd (aqk (aqD (aqj (K := K) rfl) (cq5 (aqa (pv 2) (aqa (aqn (aq8 (K := K)) (pv 2) aqs) (aqa aqs (aqa (aqn (aq8 (K := K)) aqs (pv 2)) aqb))))) (aqn aq0 (aqn aqW (pv 0) aqe) aqe) (fun _ _ => rfl))))))), ?_⟩
  walk_at "rd"
  refine ⟨by decide, by decide, ?_⟩
  have eS : Str.ofString " !\"#$&'()*+,-./0123456789:;<=>?@ABCDEFGHIJKLMNOPQRSTUVWXYZ[\\]^_`abcdefghijklmnopqrstuvwxyz{|}~" = ⟨SG.toArray⟩ := by decide +kernel
  have eD : Str.ofString "." = ⟨[46].toArray⟩ := by decide +kernel
  have eB : Str.ofString "b7" = ⟨[98, 55].toArray⟩ := by decide +kernel
  have eA : Str.ofString "a1." = ⟨[97, 49, 46].toArray⟩ := by decide +kernel
  have hsl : SG.length = 94 := by decide +kernel
  rw [eS, eD, eB, eA]
  refine dqJ (fun i σ H' => H' = H ∧ ∃ (l : List Nat) (v3 : Option V), σ = [some (.int c), some (.str ⟨SG.toArray⟩), some (tV l), v3] ∧ l.length = i ∧ ∀ x ∈ l, isSg x = true) ⟨rfl, [], none, rfl, rfl, fun x hx => by cases hx⟩ ?_ ?_
  ·rintro i σ H1 hi ⟨rfl, l, v3, rfl, hl, hs⟩
   have hi3 : i < 3 := hi
   obtain ⟨d, hd, hda⟩ := jqW SG (c / ((0 + (i : Int)) * 97 + 1)) (SG.length : Int) (by lia) (by lia)
   walk_at "rd"
   refine ⟨.inr ⟨by decide, by decide⟩, ⟨by lia, by lia⟩, aqp (by lia), by lia, d, aqp (by lia), hda, aqp (by lia), l ++ [d], _, ⟨rfl, rfl⟩, by rw [List.length_append, List.length_singleton, hl], fun x hx => ?_⟩
   rcases List.mem_append.mp hx with z | z
   ·exact hs x z
   ·rw [List.mem_singleton.mp z]; exact oqB.mp hd
  ·rintro σ H1 ⟨rfl, l, v3, rfl, hl, hs⟩
   have hl3 : l.length = 3 := hl
   walk_at "rd"
   refine ⟨aqp (by lia), aqp (by lia), by decide, fun p H2 n2 s2 hp2 => ⟨⟨by decide, by decide⟩, by decide, ?_⟩⟩
   obtain ⟨v, hv, hat⟩ := sqx [V.str ⟨l.toArray⟩, V.str ⟨(l ++ [46]).toArray⟩, V.str ⟨[97, 49, 46].toArray⟩, V.str ⟨([98, 55] ++ l).toArray⟩] (c / 9409) 4 (by decide) (by simp)
   refine ⟨_, _, .inl (.of hp2), hat, ?_⟩
   have sg1 : ∀ x ∈ ([46, 97, 49, 98, 55] : List Nat), isSg x = true := by decide
   simp only [List.mem_cons, List.not_mem_nil, or_false] at hv
   rcases hv with rfl | rfl | rfl | rfl
   ·exact k l H2 (by lia) (by lia) hs s2
   ·refine k (l ++ [46]) H2 (by simp) (by simp; lia) (fun x hx => ?_) s2
    rcases List.mem_append.mp hx with z | z
    ·exact hs x z
    ·exact sg1 x (by rw [List.mem_singleton.mp z]; decide)
   ·exact k [97, 49, 46] H2 (by decide) (by decide) (by decide) s2
   ·refine k ([98, 55] ++ l) H2 (by simp) (by simp; lia) (fun x hx => ?_) s2
    rcases List.mem_append.mp hx with z | z
    ·simp only [List.mem_cons, List.not_mem_nil, or_false] at z
     rcases z with rfl | rfl <;> decide
    ·exact hs x z
theorem mqq (g : G w K mg) : g.gqE.Ok P w base 1 lq1 := by
 refine g.gqE.F.ok dq0 (fun vs H Q E h => ?_) (fun cdv A outer s H vs Q E hr h => ?_)
 ·obtain ⟨c, gg, m, rfl, _⟩ := h; rfl
 ·obtain ⟨c, gg, m, rfl, hg0, hg1, hm, k⟩ := h
  refine ⟨_, (aqc (aql (i := 3) dq0.nd rfl (Or.inl rfl) aqs)
   (aqc (jqr PassesOwn.never rfl (dqj rfl g.eqI (aqa (pv 2) aqb)) (dqY (i := 4) dq0.nd rfl (Or.inl rfl))
   (aqd (aql (i := 3) dq0.nd rfl (Or.inl rfl) (aqn (aqJ (K := K) rfl) (pv 3) (aqD (aqj (K := K) rfl) (pv 1) (aqn aq0 (aqn aqW (pv 0) (aqn (aqJ (K := K) rfl) (aqn dq8 (aqn dq8 aqe (pv 4)) (pv 4)) aqe)) (aqz (aq2 (K := K) rfl) rfl g.fqo PySem.boot_len (aqa (pv 1) aqb))) (fun _ _ => rfl))))))
   (aqd (aqk (pv 3))))), ?_⟩
  walk_at "rd"
  refine ⟨by lia, by lia, ?_⟩
  rw [Int.toNat_natCast]
  refine dqJ (fun i σ H' => H' = H ∧ ∃ (l : List Nat) (v4 : Option V), σ = [some (.int c), some (tV gg), some (.int (m : Int)), some (tV l), v4] ∧ l.length = i ∧ ∀ x ∈ l, x ∈ gg) ⟨rfl, [], none, rfl, rfl, fun x hx => by cases hx⟩ ?_ ?_
  ·rintro i σ H1 hi ⟨rfl, l, v4, rfl, hl, hs⟩
   have hb : 0 < 5 * (0 + (i : Int)) * (0 + (i : Int)) + 1 ∧ 5 * (0 + (i : Int)) * (0 + (i : Int)) + 1 < 1073741824 := by
    have h0 : 0 ≤ (0 + (i : Int)) * (0 + (i : Int)) := Int.mul_nonneg (by lia) (by lia)
    have h1 : (0 + (i : Int)) * (0 + (i : Int)) ≤ 100 * 100 := Int.mul_le_mul (by lia) (by lia) (by lia) (by lia)
    rw [Int.mul_assoc]
    lia
   obtain ⟨d, hd, hda⟩ := jqW gg (c / (5 * (0 + (i : Int)) * (0 + (i : Int)) + 1)) (gg.length : Int) (by lia) (by lia)
   walk_at "rd"
   refine ⟨.inl ⟨by decide, by decide⟩, .inr ⟨by lia, by lia⟩, hb, aqp (by lia), by lia, d, aqp (by lia), hda, aqp (by lia), l ++ [d], _, ⟨rfl, rfl⟩, by rw [List.length_append, List.length_singleton, hl], fun x hx => ?_⟩
   rcases List.mem_append.mp hx with z | z
   ·exact hs x z
   ·rw [List.mem_singleton.mp z]; exact hd
  ·rintro σ H1 ⟨rfl, l, v4, rfl, hl, hs⟩
   walk_at "rd"
   exact k l hl hs
theorem dqr (g : G w K mg) : g.cqt.Ok P w base 1 mqd := by
 refine g.cqt.F.ok bq5 (fun vs H Q E h => ?_) (fun cdv A outer s H vs Q E hr h => ?_)
 ·obtain ⟨c, m, rfl, _⟩ := h; rfl
 ·obtain ⟨c, m, rfl, hm, k⟩ := h
  refine ⟨_, (aqc (aql (i := 2) bq5.nd rfl (Or.inl rfl) aqs)
   (aqc (aql (i := 3) bq5.nd rfl (Or.inl rfl) (aqn (aqJ (K := K) rfl) (aqn aq0 (pv 0) aqe) aqe))
   (aqc (aql (i := 4) bq5.nd rfl (Or.inl rfl) aqs)
   (aqc (jqr PassesOwn.never rfl (dqj rfl g.eqI (aqa (pv 1) aqb)) (dqY (i := 5) bq5.nd rfl (Or.inl rfl))
   (aqc (aql (i := 3) bq5.nd rfl (Or.inl rfl) (aqn aq0 (aqn dq8 (pv 3) aqe) aqe))
   (aqd (aql (i := 4) bq5.nd rfl (Or.inl rfl) (aqn (aqJ (K := K) rfl) (pv 4) (aqD (aqj (K := K) rfl) (pv 2) (aqn aq0 (aqn aqW (pv 3) aqe) (aqz (aq2 (K := K) rfl) rfl g.fqo PySem.boot_len (aqa (pv 2) aqb))) (fun _ _ => rfl)))))))
   (aqd (aqk (pv 4))))))), ?_⟩
  have eS : Str.ofString " !\"#$&'()*+,-./0123456789:;<=>?@ABCDEFGHIJKLMNOPQRSTUVWXYZ[\\]^_`abcdefghijklmnopqrstuvwxyz{|}~" = ⟨SG.toArray⟩ := by decide +kernel
  rw [eS]
  walk_at "rd"
  refine ⟨by decide, by lia, by lia, ?_⟩
  rw [Int.toNat_natCast]
  refine dqJ (fun i σ H' => H' = H ∧ ∃ (l : List Nat) (n : Int) (v5 : Option V), σ = [some (.int c), some (.int (m : Int)), some (tV SG), some (.int n), some (tV l), v5] ∧ l.length = i ∧ ∀ x ∈ l, isSg x = true) ⟨rfl, [], _, none, rfl, rfl, fun x hx => by cases hx⟩ ?_ ?_
  ·rintro i σ H1 hi ⟨rfl, l, n, v5, rfl, hl, hs⟩
   obtain ⟨d, hd, hda⟩ := jqW SG (n * 48271 % 2147483647 / 64) (SG.length : Int) (by decide) (by decide)
   walk_at "rd"
   refine ⟨.inr ⟨by decide, by decide⟩, by decide, ⟨by decide, by decide⟩, by decide, by decide, d, by decide, hda, aqp (by lia), l ++ [d], _, _, ⟨rfl, rfl, rfl⟩, by rw [List.length_append, List.length_singleton, hl], fun x hx => ?_⟩
   rcases List.mem_append.mp hx with z | z
   ·exact hs x z
   ·rw [List.mem_singleton.mp z]; exact oqB.mp hd
  ·rintro σ H1 ⟨rfl, l, n, v5, rfl, hl, hs⟩
   walk_at "rd"
   exact k l hl hs
theorem nqX (g : G w K mg) : g.hq7.Ok P w base 2 nqL := by
 refine g.hq7.F.ok nqy (fun vs H Q E h => ?_) (fun cdv A outer s H vs Q E hr h => ?_)
 ·obtain ⟨d, v, rfl, _⟩ := h; rfl
 ·obtain ⟨d, v, rfl, hv, hs, k⟩ := h
  refine ⟨_, (aqd (aqk (iqh (aqz iqQ rfl g.aqL aqA (aqa (pv 0) (aqa (hqQ (v := .ty "str") rfl g.nq5 lqE rfl) aqb))) (fqq (aqv g.eq5 (gqH g) hr rfl (aqa (pv 0) (aqa (aqf (v := oqz) rfl g.lqP ⟨_, rfl⟩) aqb))))))), ?_⟩
  cases hv with
  | lst hp r => walk_at "rd"; simp only [qqH hp]; walk_at "rd"; exact k H (Same.refl _)
  | tup hp r => walk_at "rd"; simp only [pq5 hp]; walk_at "rd"; exact k H (Same.refl _)
  | dic hp => walk_at "rd"; exact ⟨"dict", by simp only [kindV, hp], ite2 (fun z => absurd z (by decide)) (fun _ => k H (Same.refl _))⟩
  | str x =>
   walk_at "rd"
   refine ⟨x, _, rfl, kq7 hs, fun H' sm => ?_⟩
   simp only [tqE]
   exact k H' sm
  | _ => walk_at "rd"; exact k H (Same.refl _)
theorem nq0 (g : G w K mg) : g.iqk.Ok P w base 2 jqK := by
 refine g.iqk.F.ok gqw (fun vs H Q E h => ?_) (fun cdv A outer s H vs Q E hr h => ?_)
 ·obtain ⟨c, rfl, _⟩ := h; rfl
 ·obtain ⟨l, rfl, hl, ha, k⟩ := h
  refine ⟨_, (aqc (aqO (aqm fqF (aqz (aq2 (K := K) rfl) rfl g.fqo PySem.boot_len (aqa (pv 0) aqb)) aqe (nomark _))
    (aqd (aqk aqM)) aqu)
   (aqc (aql (i := 1) gqw.nd rfl (Or.inl rfl) (aqv g.cqm (eqq g) hr rfl (aqa (aqD (aqj (K := K) rfl) (pv 0) aqe (fun _ _ => rfl)) aqb)))
   (aqc (aql (i := 2) gqw.nd rfl (Or.inl rfl) (aqv g.cqm (eqq g) hr rfl (aqa (aqD (aqj (K := K) rfl) (pv 0) aqe (fun _ _ => rfl)) aqb)))
   (aqc (aqO (PW.pt (eq9 (aqm cqu (pv 1) aqM (nomark _)) (dqW (aqm cqu (pv 2) aqM (nomark _)))))
    (aqd (aqk aqM)) aqu)
   (aqd (aqk (aqv g.dqe (hqg g) hr rfl (aqa (aqn (aqJ (K := K) rfl) (aqn dq8 (pv 1) aqe) (pv 2)) aqb)))))))), ?_⟩
  walk_at "rd"
  have hz : l.length ≤ sizeLine := aqp (by lia)
  refine ⟨hz, ite2 (fun h => ?_) (fun h => ?_)⟩
  ·rw [nqp (by lia)] at k
   exact k
  ·obtain ⟨a, b, rfl⟩ := uqY (l := l) (by lia)
   refine ⟨a, hz, rfl, ha a (by simp), b, hz, rfl, ha b (by simp), ?_⟩
   have k : Q (signOf a b) H := k
   unfold signOf at k
   cases e1 : fig a with
   | none =>
    rw [e1] at k
    rw [iqG e1]
    exact k
   | some x =>
    cases e2 : fig b with
    | none =>
     rw [e1, e2] at k
     rw [eqQ e1, iqG e2]
     exact k
    | some y =>
     rw [e1, e2] at k
     rw [eqQ e1, eqQ e2]
     walk_at "rd"
     exact ⟨.inr ⟨by decide, by decide⟩, x * 16 + y, by rw [Int.natCast_add, Int.natCast_mul]; rfl, k⟩
theorem cq0 (g : G w K mg) : g.cqG.Ok P w base 2 dqI := by
 refine g.cqG.F.ok nqQ (fun vs H Q E h => ?_) (fun cdv A outer s H vs Q E hr h => ?_)
 ·obtain ⟨c, rfl, _⟩ := h; rfl
 ·obtain ⟨l, rfl, hl, hs, k⟩ := h
  refine ⟨_, (aqd (aqk (cqI (K := K) rfl PySem.F.plainAttrs_str PySem.F.slot_str_join PySem.F.type_str_join (hqD (K := K) rfl) aqs (aqa (iqc (fx := []) (fr := []) rfl rfl (by decide +kernel) rfl (by decide +kernel) rfl (by decide +kernel) rfl .nil rfl (rqB (pv 0)) (fun _ _ _ => jqv) (fun _ _ _ => (aq4 (aqm kqW (pv 0) (aqf (v := lq8) rfl g.lqQ ⟨_, rfl⟩) (by with_unfolding_all rfl)) (pv 0) (aqv g.iqm (nqr g) hr rfl (aqa (pv 0) aqb))))) aqb)))), ?_⟩
  walk_at "rd"
  intro p hp
  refine mqM (z := ⟨l.toArray⟩) (by rw [bqc]; exact aqp (by lia)) hp (fun c => .str ⟨(wr1 c).toArray⟩) (fun c hc H' R hR => ?_) (fun H' sm hp' => ?_)
  ·have l1 := dqH (hs c hc)
   have e := mq3 c (by lia)
   have hR' := hR H' (Same.refl _)
   walk_at "rd"
   unfold wr1 at hR'
   refine ite2 (fun h => ?_) (fun h => ?_)
   ·rw [decide_eq_true h] at e
    rw [← e, if_pos rfl] at hR'
    exact hR'
   ·rw [decide_eq_false h] at e
    rw [← e, if_neg (by decide)] at hR'
    exact ⟨by lia, hR'⟩
  ·walk_at "rd"
   refine ⟨l.map fun c => ⟨(wr1 c).toArray⟩, SqL.of (by rw [hp', List.map_map]; rfl), ?_, ?_⟩
   ·have h3 : ∀ m : List Nat, ((m.map fun c => (⟨(wr1 c).toArray⟩ : Str)).map (·.length)).sum ≤ 3 * m.length := fun m => by
     induction m with
     | nil => simp
     | cons c r ih =>
      have := pqt c
      simp only [List.map_cons, List.sum_cons, List.length_cons, bqc] at ih ⊢
      lia
    have := h3 l
    simp only [List.length_map, List.length_nil, Nat.mul_zero, Nat.add_zero, bqc] at this ⊢
    lia
   ·rw [nqe]
    have e : ((l.map fun c => (⟨(wr1 c).toArray⟩ : Str)).flatMap fun y => y.cps.toList) = wr l := by
     unfold wr
     rw [List.flatMap_map]
    rw [e]
    exact k H' sm
theorem kqp (g : G w K mg) : g.fqa.Ok P w base 2 (kqz K) := by
 refine g.fqa.F.ok dqZ (fun vs H Q E h => ?_) (fun cdv A outer s H vs Q E hr h => ?_)
 ·obtain ⟨ps, ss, r, rfl, _⟩ := h; rfl
 ·obtain ⟨ps, ss, r, rfl, hps, hl, k⟩ := h
  refine ⟨_, (aqc (aql (i := 2) dqZ.nd rfl (Or.inl rfl) (cq5 aqb))
   (aqc (jqr PassesOwn.never rfl (mqr (K := K) rfl (pv 0)) (dqY (i := 3) dqZ.nd rfl (Or.inl rfl))
   (aqd (aqO (aqm cqH (pv 3) (aqf (v := k_UP) rfl g.c_UP ⟨_, rfl⟩) (nomark _))
    (aqd (dqG (aqv g.lq5 (qqq g) hr rfl (aqa (pv 2) (aqa (pv 1) aqb))))) (aqd (aqO (aqm fqF (pv 3) (aqf (v := mqI) rfl g.mqL ⟨_, rfl⟩) (nomark _))
    (aqd (dqG (cqI (K := K) rfl PySem.F.plainAttrs_list PySem.F.slot_list_append PySem.F.type_list_append cqK (pv 2) (aqa (pv 3) aqb)))) aqu)))))
   (aqd (aqk (cqg (dqi (K := K) rfl) rfl g.gqs gqf (aqa (pv 2) aqb)))))), ?_⟩
  walk_at "rd"
  refine ⟨by decide, fun p H1 hp s1 hp1 => ⟨⟨_, s1.tup hps⟩, ?_⟩⟩
  refine pq3 (xs := ss.map sV) (fun i σ H2 => Same H H2 ∧ H2 p = some (.lst ((stk (sofar r ss i)).map sV)) ∧ ∃ kk, σ = [some (.ref ps), some (.bl r), some (.ref p), kk]) ⟨s1, by rw [hp1]; simp [sofar, stk], none, rfl⟩ (fun i σ H2 _ h => h.1.tup hps) ?_ ?_
  ·rintro i x σ H2 hx ⟨sm, hp2, kk, rfl⟩
   rw [List.getElem?_map] at hx
   obtain ⟨s, hs, rfl⟩ := Option.map_eq_some_iff.mp hx
   have hi : i < ss.length := by
    rcases Nat.lt_or_ge i ss.length with z | z
    ·exact z
    ·rw [List.getElem?_eq_none z] at hs; cases hs
   obtain ⟨ok, lk⟩ := mqZ r ss i
   rw [nqI hs]
   simp only [kup, kst]
   walk_at "rd"
   simp only [fqA]
   by_cases h1 : s = sUp
   ·rw [if_pos h1]
    refine ⟨p, _, r, rfl, hp2, by lia, lqc hp sm, ?_, _, rfl⟩
    rw [aqh, qqE ok, h1]
   ·rw [if_neg h1]
    by_cases h2 : s = sStay
    ·subst h2
     rw [qqi]
     exact ite2 (fun z => absurd rfl z) (fun _ => ⟨sm, hp2, _, rfl⟩)
    ·refine ite2 (fun _ => ?_) (fun z => absurd h2 z)
     refine ⟨⟨_, .of hp2⟩, _, hp2, aqp (by rw [List.length_map]; lia), lqc hp sm, ?_, _, rfl⟩
     rw [aqh, sqJ h1 h2, List.map_append]; rfl
  ·rintro σ H2 ⟨sm, hp2, kk, rfl⟩
   rw [List.length_map, pqd] at hp2
   walk_at "rd"
   exact ⟨_, .inl (.of hp2), fun l H3 s3 hl3 => k l H3 (sm.trans s3) hl3⟩
theorem cqB (g : G w K mg) : FnOk P w K mg base CX0 2 g.cqW g.cqE ["self", "signs"] (jqb K g.aqr) := by
 refine g.fqQ.ok jqf (fun vs H Q E h => ?_) (fun cdv A outer s H vs Q E hr h => ?_)
 ·obtain ⟨p, t, sg, i, rfl, _⟩ := h; rfl
 ·obtain ⟨p, t, sg, i, rfl, ⟨dx, hp⟩, hi, hl, k⟩ := h
  refine ⟨_, (aqd (aqk (iqh (oqn (dq3 (pv 0) g.aqi g.cqN (eqo g) (hr.mono (by decide)) g.dqq .nil pass0)) (fqq (bqp kqW (aqD (aqj (K := K) rfl) (bqt (pv 0) rfl) (bqt (pv 0) rfl) (fun _ _ => rfl)) (pv 1) (by with_unfolding_all rfl)))))), ?_⟩
  have hcur : Cur H g.aqr p t i := ⟨dx, hp⟩
  walk_at "rd"
  refine aqN hcur ⟨p, t, i, rfl, hcur, hl, _, rfl, ?_⟩
  by_cases he : i = t.length
  ·rw [decide_eq_true he, if_neg (by decide)]
   rw [dqX (by rw [he]; exact List.getElem?_eq_none (Nat.le_refl _))] at k
   exact k
  rw [decide_eq_false he, if_pos rfl]
  refine dq1 hcur g.aqi g.aqX (aqQ hcur g.aqi g.aqo ?_)
  have hc : t[i]? = some t[i] := List.getElem?_eq_getElem (by lia)
  walk_at "rd"
  refine ⟨t[i], aqp hl, aqH hc, ?_⟩
  rw [dqL hc] at k
  exact k
theorem gqm (g : G w K mg) : g.dqw.Ok P w base 2 (kqd K) := by
 refine g.dqw.F.ok jq7 (fun vs H Q E h => ?_) (fun cdv A outer s H vs Q E hr h => ?_)
 ·obtain ⟨a, ns, s, m, rfl, _⟩ := h; rfl
 ·obtain ⟨a, ns, s0, m, rfl, hS, hm, k⟩ := h
  refine ⟨_, (aqd (aqk (iqc (fx := ["_law_script", "_law_start"]) (fr := [0, 1]) rfl rfl (by decide +kernel) rfl (by decide +kernel) rfl (by decide +kernel) rfl (.cons rfl rfl rfl rfl (.cons rfl rfl rfl rfl .nil)) rfl (dqj rfl g.eqI (aqa (pv 2) aqb)) (fun _ _ _ => jqv) (fun _ _ _ => (aqv g.bqU (dqc g) hr rfl (aqa (pv 1) (aqa (aqn (aq8 (K := K)) (pv 2) (pv 0)) aqb))))))), ?_⟩
  walk_at "rd"
  refine ⟨by lia, by lia, fun p n => ?_⟩
  rw [Int.toNat_natCast]
  refine iqA (fun i ys H' => SameBut p H H' ∧ ∃ is : List Int, ys = is.map V.int ∧ is.length = i) (aqp (by lia)) ⟨aqR, [], rfl, rfl⟩ (fun i ys H2 T hi hJ hp2 hT => ?_) (fun ys H2 hJ hp2 => ?_)
  ·obtain ⟨sb, is, rfl, hl⟩ := hJ
   walk_at "rd"
   rw [show ((s0 : Int) + (0 + (i : Int))) = ((s0 + i : Nat) : Int) by lia]
   exact ⟨a, ns, s0 + i, rfl, (sb.same n).seq hS, hT _ H2 hp2 ⟨sb.trans aqR, is ++ [ns.getD (s0 + i) 0], by rw [List.map_append]; rfl, by rw [List.length_append, List.length_singleton, hl]⟩⟩
  ·obtain ⟨sb, is, rfl, hl⟩ := hJ
   exact k is p H2 hl (sb.same n) hp2
theorem hqw (g : G w K mg) : g.dql.Ok P w base 2 hqy := by
 refine g.dql.F.ok hqe (fun vs H Q E h => ?_) (fun cdv A outer s H vs Q E hr h => ?_)
 ·obtain ⟨c, gg, rfl, _⟩ := h; rfl
 ·obtain ⟨c, gg, rfl, hg0, hg1, hgs, k⟩ := h
  refine ⟨_, (aqc (aqO (aqm cqH (aqn aq0 (pv 0) aqe) aqe (nomark _))
    (aqd (aqk aqs)) aqu)
   (aqc (aqO (aqm cqH (aqn aq0 (pv 0) aqe) aqe (nomark _))
    (aqd (aqk aqs)) aqu)
   (aqc (aqO (aqm cqH (aqn aq0 (pv 0) aqe) aqe (nomark _))
    (aqd (aqk (aqv g.cqt (dqr g) hr rfl (aqa (aqn aqW (pv 0) aqe) (aqa (aqn (aq8 (K := K)) aqe (aqn aq0 (aqn aqW (pv 0) aqe) aqe)) aqb))))) aqu)
   (aqd (aqk (aqv g.gqE (mqq g) hr rfl (aqa (aqn aqW (pv 0) aqe) (aqa (pv 1) (aqa (aqn (aq8 (K := K)) aqe (aqn aq0 (aqn aqW (pv 0) aqe) aqe)) aqb))))))))), ?_⟩
  have d1 : Str.ofString ".." = ⟨sUp.toArray⟩ := by decide +kernel
  have d2 : Str.ofString "." = ⟨sStay.toArray⟩ := by decide +kernel
  rw [d1, d2]
  walk_at "rd"
  have md : ∀ (z b : Int), 0 < b → ∃ m : Nat, (1 ≤ m ∧ (m : Int) ≤ b) ∧ 1 + z % b = (m : Int) := fun z b hb => by
   have h1 := Int.emod_nonneg z (show b ≠ 0 by lia)
   have h2 := Int.emod_lt_of_pos z hb
   exact ⟨(1 + z % b).toNat, by lia, by lia⟩
  refine ⟨by decide, ite2 (fun _ => k sUp (by decide) (by decide) (by decide)) (fun _ => ⟨by decide, ite2 (fun _ => k sStay (by decide) (by decide) (by decide)) (fun _ => ⟨by decide, ite2 (fun _ => ?_) (fun _ => ?_)⟩)⟩)⟩
  ·obtain ⟨m, hm, em⟩ := md (c / 5) 3 (by decide)
   rw [em]
   refine ⟨⟨by decide, by decide⟩, ⟨by decide, by decide⟩, by decide, c / 5, m, rfl, by lia, fun l hl hs => k l (fun e => ?_) (by lia) hs⟩
   rw [e] at hl; simp at hl; lia
  ·obtain ⟨m, hm, em⟩ := md (c / 5) 2 (by decide)
   rw [em]
   refine ⟨⟨by decide, by decide⟩, ⟨by decide, by decide⟩, by decide, c / 5, gg, m, rfl, hg0, hg1, by lia, fun l hl hs => k l (fun e => ?_) (by lia) fun x hx => hgs x (hs x hx)⟩
   rw [e] at hl; simp at hl; lia
theorem hqq (g : G w K mg) : g.cq7.Ok P w base 2 (hql K) := by
 refine g.cq7.F.ok bq1 (fun vs H Q E h => ?_) (fun cdv A outer s H vs Q E hr h => ?_)
 ·obtain ⟨c, rfl, _⟩ := h; rfl
 ·obtain ⟨c, rfl, k⟩ := h
  refine ⟨_, (aqc (aqO (aqm cqH (aqn aq0 (pv 0) aqe) aqe (nomark _))
    (aqd (aqk aqM)) aqu)
   (aqc (aql (i := 1) bq1.nd rfl (Or.inl rfl) (cq5 aqb))
   (aqc (jqr PassesOwn.never rfl (dqj rfl g.eqI (aqa (aqn aq0 (aqn aqW (pv 0) aqe) aqe) aqb)) (dqY (i := 2) bq1.nd rfl (Or.inl rfl))
   (aqc (aql (i := 3) bq1.nd rfl (Or.inl rfl) (aqn aqW (pv 0) (aqn (aq8 (K := K)) aqe (aqn dq8 aqe (pv 2)))))
   (aqd (dqG (cqI (K := K) rfl PySem.F.plainAttrs_list PySem.F.slot_list_append PySem.F.type_list_append cqK (pv 1) (aqa (bqa (aqa (aqv g.cqt (dqr g) hr rfl (aqa (pv 3) (aqa (aqn (aq8 (K := K)) aqe (aqn aq0 (pv 3) aqe)) aqb))) (aqa (aqD (aqj (K := K) rfl) (cq5 (aqa aqM (aqa (aqv g.cqt (dqr g) hr rfl (aqa (aqn aqW (pv 3) aqe) (aqa (aqn aq0 (pv 3) aqe) aqb))) aqb))) (aqn aq0 (aqn aqW (pv 3) aqe) aqe) (fun _ _ => rfl)) aqb))) aqb))))))
   (aqd (aqk (cqg (dqi (K := K) rfl) rfl g.gqs gqf (aqa (pv 1) aqb))))))), ?_⟩
  walk_at "rd"
  have md : ∀ (z b : Int), 0 < b → ∃ m : Nat, (m : Int) < b ∧ z % b = (m : Int) := fun z b hb => by
   have h1 := Int.emod_nonneg z (show b ≠ 0 by lia)
   have h2 := Int.emod_lt_of_pos z hb
   exact ⟨(z % b).toNat, by lia, by lia⟩
  obtain ⟨m, hm, em⟩ := md (c / 3) 3 (by decide)
  rw [em]
  refine ⟨by decide, ite2 (fun _ => k none _ H (fun _ z => by cases z) (Same.refl _) .non) (fun _ => ⟨by decide, fun p1 H1 n1 s1 e1 => ⟨⟨by decide, by decide⟩, by decide, by lia, by lia, ?_⟩⟩)⟩
  rw [Int.toNat_natCast]
  refine dqJ (fun i σ H' => SameBut p1 H H' ∧ ∃ (ps : List (List Nat × Option (List Nat))) (ys : List V) (v2 v3 : Option V), σ = [some (.int c), some (.ref p1), v2, v3] ∧ ps.length = i ∧ (∀ p ∈ ps, (0 < p.1.length ∧ Tx 5 p.1) ∧ ∀ v, p.2 = some v → Tx 6 v) ∧ H' p1 = some (.lst ys) ∧ IsTAll H' (ps.map fun p => .tuple [st p.1, oD p.2]) ys) ⟨Same.but s1, [], [], none, none, rfl, rfl, (fun p hp => by cases hp), e1, .nil⟩ ?_ ?_
  ·rintro i σ H2 hi ⟨sb, ps, ys, v2, v3, rfl, hl, hs, h2, hys⟩
   walk_at "rd"
   have hi2 : (i : Int) < 3 := by lia
   obtain ⟨M, hM⟩ : ∃ M, M = c / (9 + 4 * (0 + (i : Int))) := ⟨_, rfl⟩
   rw [← hM]
   obtain ⟨a1, ha1, ea1⟩ := md M 3 (by decide)
   obtain ⟨a2, ha2, ea2⟩ := md M 4 (by decide)
   obtain ⟨a3, ha3, ea3⟩ := md (M / 3) 2 (by decide)
   rw [ea1, ea2, ea3, show (1 : Int) + (a1 : Int) = ((1 + a1 : Nat) : Int) by lia]
   refine ⟨.inl ⟨by decide, by decide⟩, ⟨by lia, by lia⟩, ⟨_, .of h2⟩, by decide, M, 1 + a1, rfl, by lia, fun l1 hl1 hs1 => ⟨⟨by decide, by decide⟩, by decide, M / 7, a2, rfl, by lia, fun l2 hl2 hs2 => ⟨by decide, fun p3 H3 n3 s3 e3 => ⟨⟨by decide, by decide⟩, by decide, ?_⟩⟩⟩⟩
   obtain ⟨o, v, hv, hva, ho⟩ : ∃ (o : Option (List Nat)) (v : V), atI [V.non, tV l2] (a3 : Int) = some v ∧ (∀ H, IsT H (oD o) v) ∧ ∀ z, o = some z → Tx 6 z := by
    match a3, ha3 with
    | 0, _ => exact ⟨none, .non, aqH (j := 0) rfl, fun _ => .non, fun z hz => by cases hz⟩
    | 1, _ => exact ⟨some l2, tV l2, aqH (j := 1) rfl, fun _ => .str _, fun z hz => by cases hz; exact ⟨by lia, hs2⟩⟩
   refine ⟨_, v, .inl (.of e3), hv, by decide, fun p4 H4 n4 s4 e4 => ?_⟩
   have s24 := s3.trans s4
   have n4' : p4 ≠ p1 := fun z => by rw [z, s24 _ _ h2] at e4; cases e4
   refine ⟨_, s24 _ _ h2, Nat.lt_of_le_of_lt (show ys.length ≤ 100 by have := hys.length; rw [List.length_map] at this; lia) (by decide), (sb.trans s24.but).trans aqR, ps ++ [(l1, o)], _, _, _, ⟨rfl, rfl⟩, by rw [List.length_append, List.length_singleton, hl], fun p hp => ?_, aqh, ?_⟩
   ·rcases List.mem_append.mp hp with z | z
    ·exact hs p z
    ·rw [List.mem_singleton.mp z]
     exact ⟨⟨by show 0 < l1.length; lia, by show l1.length ≤ 5; lia, hs1⟩, ho⟩
   ·have t2 : SameT H2 (upd H4 p1 (.lst (ys ++ [.ref p4]))) := fun b zs e => by
     rw [aqt (fun z => by rw [z, h2] at e; cases e)]
     exact s24 _ _ e
    rw [List.map_append]
    exact (hys.mono t2).append (.cons (.tup (by rw [aqt n4']; exact e4) (.cons (.str _) (.cons (hva _) .nil))) .nil)
  ·rintro σ H2 ⟨sb, ps, ys, v2, v3, rfl, hl, hs, h2, hys⟩
   walk_at "rd"
   have s2 := sb.same n1
   exact ⟨_, .inl (.of h2), fun l H3 s3 e3 => k (some ps) _ H3 (fun qs z => by cases z; exact ⟨⟨by lia, fun p hp => ⟨(hs p hp).1.2.1, fun v e => ((hs p hp).2 v e).1⟩⟩, fun p hp => ⟨⟨(hs p hp).1.1, (hs p hp).1.2.2⟩, fun v e => ((hs p hp).2 v e).2⟩⟩) (s2.trans s3) (.tup e3 (hys.mono s3.toT))⟩
theorem lqb (g : G w K mg) : g.fqE.Ok P w base 3 lqw := by
 refine g.fqE.F.ok lqH (fun vs H Q E h => ?_) (fun cdv A outer s H vs Q E hr h => ?_)
 ·obtain ⟨d, v, rfl, _⟩ := h; rfl
 ·obtain ⟨d, v, rfl, hv, hs, k⟩ := h
  refine ⟨_, (aqc (aqO (PW.pt (eq9 (bqY (aqI (aqv g.hq7 (nqX g) hr rfl (aqa (pv 0) aqb)))) (dqW (aqm mqt (aqz (aq2 (K := K) rfl) rfl g.fqo PySem.boot_len (aqa (pv 0) aqb)) (aqf (v := hqo) rfl g.eqj ⟨_, rfl⟩) (nomark _)))))
    (aqd (aqk dqQ)) aqu)
   (aqd (aqk (iqh (aqv g.eq5 (gqH g) hr rfl (aqa (cqh (hqO (K := K) rfl) (pv 0) dqz (cqQ aqe)) (aqa (aqf (v := pqK) rfl g.kqK ⟨_, rfl⟩) aqb))) (fqq (aqv g.eq5 (gqH g) hr rfl (aqa (pv 0) (aqa (aqf (v := eqP) rfl g.cqF ⟨_, rfl⟩) aqb)))))))), ?_⟩
  walk_at "rd"
  refine ⟨d, v, rfl, hv, hs, fun H1 s1 => ?_⟩
  walk_at "rd"
  have k1 := k H1 s1
  cases hv with
  | str x =>
   have hx := kq7 hs
   refine ite2 (fun h => ?_) (fun h => ?_)
   ·rw [show schD (.str x) = false by simp only [schD]; rw [show x.cps.toList.all isSg = false from h]; rfl] at k1
    exact k1
   have h : x.cps.toList.all isSg = true := (Bool.not_eq_false _).mp h
   walk_at "rd"
   refine ⟨aqp hx, ite2 (fun h2 => ?_) (fun h2 => ?_)⟩
   ·rw [show schD (.str x) = false by simp only [schD, h, Bool.true_and]; rw [decide_eq_false (by lia)]; rfl] at k1
    exact k1
   have e : x = ⟨x.cps.toList.toArray⟩ := by simp
   refine ⟨aqp hx, ?_⟩
   have e1 : Txt.slice x none (some 1) = ⟨(x.cps.toList.take 1).toArray⟩ := by
    conv => lhs; rw [e]
    exact mqK x.cps.toList 1
   rw [e1]
   refine ⟨⟨(x.cps.toList.take 1).toArray⟩, _, rfl, by rw [bqc, List.length_take]; lia, fun H2 s2 => ?_⟩
   have hsg := List.all_eq_true.mp h
   have f1 : ((⟨(x.cps.toList.take 1).toArray⟩ : Str).cps.toList.all fun c => decide (c ∈ (Str.ofString "abcdefghijklmnopqrstuvwxyzABCDEFGHIJKLMNOPQRSTUVWXYZ").cps.toList)) = (x.cps.toList.take 1).all isLet := by
    rw [oqk, Bool.eq_iff_iff, List.all_eq_true, List.all_eq_true]
    refine forall_congr' fun c => forall_congr' fun hc => ?_
    rw [uqw c (by have := dqH (hsg c (List.mem_of_mem_take hc)); lia)]
   have f2 : (x.cps.toList.all fun c => decide (c ∈ (Str.ofString "abcdefghijklmnopqrstuvwxyzABCDEFGHIJKLMNOPQRSTUVWXYZ0123456789").cps.toList)) = x.cps.toList.all isAln := by
    rw [Bool.eq_iff_iff, List.all_eq_true, List.all_eq_true]
    refine forall_congr' fun c => forall_congr' fun hc => ?_
    rw [uqu c (by have := dqH (hsg c hc); lia)]
   rw [f1]
   walk_at "rd"
   refine ite2 (fun h3 => ?_) (fun h3 => ?_)
   ·refine ⟨x, _, rfl, hx, fun H3 s3 => ?_⟩
    have k3 := k H3 (s1.trans (s2.trans s3))
    rw [f2]
    simp only [schD, h, h3, Bool.true_and, decide_eq_true (show x.length ≤ 8 by lia)] at k3
    exact k3
   ·have k3 := k H2 (s1.trans s2)
    simp only [schD, h, (Bool.not_eq_true _).mp h3, Bool.false_and, Bool.and_false, Bool.true_and] at k3
    exact k3
  | _ => exact k1
theorem jqa (g : G w K mg) : g.dq9.Ok P w base 3 iq3 := by
 refine g.dq9.F.ok fqB (fun vs H Q E h => ?_) (fun cdv A outer s H vs Q E hr h => ?_)
 ·obtain ⟨o, d, rfl, _⟩ := h; rfl
 ·obtain ⟨o, d, rfl, ho, hd, k⟩ := h
  refine ⟨_, (aqc (aqO (aqm cqu (pv 0) aqM (nomark _))
    (aqd (aqk aqs)) aqu)
   (aqF (aql (i := 2) fqB.nd rfl (Or.inl rfl) (aq4 (aqm cqu (pv 1) aqM (nomark _)) aqs (aqn (aqJ (K := K) rfl) aqs (cqg kq4 rfl g.nq5 lqE (aqa (pv 1) aqb)))))
   (aqd (aqk (aqn (aqJ (K := K) rfl) (aqn (aqJ (K := K) rfl) aqs (aqv g.cqG (cq0 g) hr rfl (aqa (pv 0) aqb))) (pv 2)))))), ?_⟩
  have c1 : Str.ofString ":" = ⟨[58].toArray⟩ := by decide +kernel
  have c2 : Str.ofString "//" = ⟨[47, 47].toArray⟩ := by decide +kernel
  rw [c1, c2]
  walk_at "rd"
  cases o with
  | none =>
   cases d with
   | some i => exact absurd rfl (hd i rfl).2
   | none =>
    refine ite2 (fun _ => ?_) (fun z => absurd rfl z)
    exact k H (Same.refl _)
  | some l =>
   refine ite2 (fun z => absurd z (by simp [otV])) (fun _ => ?_)
   have hl := ho l rfl
   have w := gq7 l
   refine ⟨fun σ H' => H' = H ∧ σ = [some (otV (some l)), some (itV d), some (.str ⟨(dooT d).toArray⟩)] ∧ (dooT d).length ≤ 6, ?_, ?_⟩
   ·cases d with
    | none => exact ite2 (fun _ => ⟨rfl, rfl, by decide⟩) (fun z => absurd rfl z)
    | some i =>
     have hi := (hd i rfl).1
     have hdl := rqg hi.1 hi.2
     refine ite2 (fun z => absurd z (by simp [itV])) (fun _ => ?_)
     refine ⟨i, rfl, lg hi.1 hi.2, aqp (by rw [rqd, bqc]; lia), rfl, ?_, ?_⟩
     ·rw [rqd, show (⟨#[58]⟩ : Str) = ⟨[58].toArray⟩ from rfl, fq6]
      simp [dooT]
     ·simp only [dooT, List.length_cons]; lia
   ·rintro σ H' ⟨rfl, rfl, hdl⟩
    walk_at "rd"
    show dqI [.str ⟨l.toArray⟩] H' _ _
    walk_at "rd"
    refine ⟨by lia, hl.2, fun H'' s'' => ?_⟩
    refine ⟨aqp (by lia), aqp (by lia), ?_⟩
    have := k H'' s''
    simpa [houT] using this
theorem kqN (g : G w K mg) : g.fqL.Ok P w base 3 (lqz K) := by
 refine g.fqL.F.ok lqa (fun vs H Q E h => ?_) (fun cdv A outer s H vs Q E hr h => ?_)
 ·obtain ⟨r, e, ss, p, q, rfl, _⟩ := h; rfl
 ·obtain ⟨r, e, ss, p, q, rfl, hp, hq, hs, hn, hl, k⟩ := h
  refine ⟨_, (aqd (aqk (aqv g.iqE (nqF g) hr rfl (aqa (aqD (aqj (K := K) rfl) (pv 0) (aqf (v := gqd) rfl g.fqn ⟨_, rfl⟩) (fun _ _ => rfl)) (aqa (iqc (fx := []) (fr := []) rfl rfl (by decide +kernel) rfl (by decide +kernel) rfl (by decide +kernel) rfl .nil rfl (mqr (K := K) rfl (aqD (aqj (K := K) rfl) (pv 0) (aqf (v := hq9) rfl g.gqr ⟨_, rfl⟩) (fun _ _ => rfl))) (fun _ _ _ => jqv) (fun _ _ _ => (aqv g.cqG (cq0 g) hr rfl (aqa (pv 0) aqb)))) (aqa (aqD (aqj (K := K) rfl) (pv 0) (aqf (v := mqD) rfl g.kq0 ⟨_, rfl⟩) (fun _ _ => rfl)) aqb)))))), ?_⟩
  walk_at "rd"
  refine ⟨_, _, .inr hp, rfl, ?_⟩
  refine ⟨_, _, .inr hp, rfl, q, rfl, ⟨_, hq⟩, fun p1 hn1 => ?_⟩
  refine oqg (zs := (ss.map wr).map fun l => V.str ⟨l.toArray⟩) hq (by rw [List.length_map]; exact aqp (by lia)) hn1 (by simp) (fun i x z hx hz H' T sm hT => ?_) (fun H' sm hp' => ?_)
  ·rw [List.getElem?_map] at hx hz
   rw [List.getElem?_map] at hz
   obtain ⟨s, hs', rfl⟩ := Option.map_eq_some_iff.mp hx
   rw [hs'] at hz
   simp only [Option.map_some, Option.some.injEq] at hz
   subst hz
   have hss := hs s (List.mem_of_getElem? hs')
   walk_at "rd"
   exact ⟨hss.1, hss.2, hT⟩
  ·refine ⟨_, _, .inr (sm.tup hp), rfl, ?_⟩
   have hw : (joinT 47 (ss.map wr)).length ≤ 90000 := by
    have := hl
    unfold wayT at this
    simp only [List.length_append] at this
    lia
   refine ⟨r, e, p1, ss.map wr, rfl, .of hp', hw, ?_⟩
   rw [← tqm]
   exact k H' sm
theorem iqZ (g : G w K mg) : g.dq6.Ok P w base 3 jqc := by
 refine g.dq6.F.ok iq9 (fun vs H Q E h => ?_) (fun cdv A outer s H vs Q E hr h => ?_)
 ·obtain ⟨n, o, rfl, _⟩ := h; rfl
 ·obtain ⟨n, o, rfl, hk, hn, ho, k⟩ := h
  refine ⟨_, (aqd (aqk (aq4 (aqm cqu (pv 1) aqM (nomark _)) (aqv g.cqG (cq0 g) hr rfl (aqa (pv 0) aqb)) (aqn (aqJ (K := K) rfl) (aqn (aqJ (K := K) rfl) (aqv g.cqG (cq0 g) hr rfl (aqa (pv 0) aqb)) aqs) (aqv g.cqG (cq0 g) hr rfl (aqa (pv 1) aqb)))))), ?_⟩
  have c1 : Str.ofString "=" = ⟨[61].toArray⟩ := by decide +kernel
  rw [c1]
  have w1 := gq7 n
  walk_at "rd"
  cases o with
  | none =>
   refine ite2 (fun _ => ?_) (fun z => absurd rfl z)
   refine ⟨hn, hk.1.2, fun H' s' => ?_⟩
   rw [show pairT (n, none) = wr n by simp [pairT, oT]] at k
   exact k H' s'
  | some l =>
   refine ite2 (fun z => absurd z (by simp [otV])) (fun _ => ?_)
   have hll := ho l rfl
   have w2 := gq7 l
   rw [show pairT (n, some l) = wr n ++ [61] ++ wr l by simp [pairT, oT]] at k
   refine ⟨hn, hk.1.2, fun H' s' => ?_⟩
   refine ⟨aqp (by simp; lia), ?_⟩
   show dqI [.str ⟨l.toArray⟩] H' _ _
   walk_at "rd"
   refine ⟨hll, hk.2 l rfl, fun H'' s'' => ⟨aqp (by simp; lia), k H'' (s'.trans s'')⟩⟩
theorem jq8 (g : G w K mg) : g.eqS.Ok P w base 3 kqw := by
 refine g.eqS.F.ok kqx (fun vs H Q E h => ?_) (fun cdv A outer s H vs Q E hr h => ?_)
 ·obtain ⟨o, rfl, _⟩ := h; rfl
 ·obtain ⟨o, rfl, ho, k⟩ := h
  refine ⟨_, (aqd (aqk (aq4 (aqm cqu (pv 0) aqM (nomark _)) aqs (aqn (aqJ (K := K) rfl) aqs (aqv g.cqG (cq0 g) hr rfl (aqa (pv 0) aqb)))))), ?_⟩
  have c1 : Str.ofString "#" = ⟨[35].toArray⟩ := by decide +kernel
  rw [c1]
  walk_at "rd"
  cases o with
  | none => exact ite2 (fun _ => k H (Same.refl _)) (fun z => absurd rfl z)
  | some l =>
   refine ite2 (fun z => absurd z (by simp [otV])) (fun _ => ?_)
   have hl := ho l rfl
   have w := gq7 l
   show dqI [.str ⟨l.toArray⟩] H _ _
   rw [show (⟨#[35]⟩ : Str) = ⟨[35].toArray⟩ from rfl]
   walk_at "rd"
   refine ⟨hl.1, hl.2, fun H' s' => ⟨aqp (by lia), ?_⟩⟩
   exact k H' s'
theorem oqQ (g : G w K mg) : g.mq9.Ok P w base 3 (tqe K) := by
 refine g.mq9.F.ok mqh (fun vs H Q E h => ?_) (fun cdv A outer s H vs Q E hr h => ?_)
 ·obtain ⟨w, v, rfl, _⟩ := h; rfl
 ·obtain ⟨⟨rt, ss, en⟩, v, rfl, hI, hn, k⟩ := h
  refine ⟨_, (aqc (aql (i := 1) mqh.nd rfl (Or.inl rfl) (aqD (aqj (K := K) rfl) (pv 0) (aqf (v := hq9) rfl g.gqr ⟨_, rfl⟩) (fun _ _ => rfl)))
   (aqc (aqO (aqm cqH (aqz (aq2 (K := K) rfl) rfl g.fqo PySem.boot_len (aqa (pv 1) aqb)) aqe (nomark _))
    (aqd (aqk (pv 0))) aqu)
   (aqc (aql (i := 2) mqh.nd rfl (Or.inl rfl) (aqv g.fqa (kqp g) hr rfl (aqa (pv 1) (aqa (aqD (aqj (K := K) rfl) (pv 0) (aqf (v := gqd) rfl g.fqn ⟨_, rfl⟩) (fun _ _ => rfl)) aqb))))
   (aqc (aqO (aqm mqt (aqz (aq2 (K := K) rfl) rfl g.fqo PySem.boot_len (aqa (pv 2) aqb)) aqe (nomark _))
    (aqd (aqk (bqa (aqa (aqD (aqj (K := K) rfl) (pv 0) (aqf (v := gqd) rfl g.fqn ⟨_, rfl⟩) (fun _ _ => rfl)) (aqa (pv 2) (aqa (pqI (aqD (aqj (K := K) rfl) (pv 0) (aqf (v := mqD) rfl g.kq0 ⟨_, rfl⟩) (fun _ _ => rfl)) (fqq (aqv g.kqe (oqS g) hr rfl (aqa (aqD (aqj (K := K) rfl) (pv 1) (oq3 lqx aqe) (fun _ _ => rfl)) aqb)))) aqb)))))) aqu)
   (aqd (aqk (aq4 (aqI (aqD (aqj (K := K) rfl) (pv 0) (aqf (v := gqd) rfl g.fqn ⟨_, rfl⟩) (fun _ _ => rfl))) (bqa (aqa dqQ (aqa (bqa aqb) (aqa dqQ aqb)))) (bqa (aqa dqQ (aqa (bqa (aqa (aqf (v := mqI) rfl g.mqL ⟨_, rfl⟩) aqb)) (aqa dqQ aqb))))))))))), ?_⟩
  obtain ⟨pw, ps, rfl, hw, hps⟩ := jqY (r := rt) (e := en) (ss := ss) hI
  dsimp only at hn
  walk_at "rd"
  refine ⟨_, _, .inr hw, rfl, ?_⟩
  walk_at "rd"
  refine ⟨_, .inr hps, ?_⟩
  rw [List.length_map]
  by_cases h0 : ss = []
  ·subst h0
   refine ite2 (fun _ => k _ H (Same.refl _) ?_) (fun z => absurd rfl z)
   rw [show goneV (rt, [], en) = (rt, [], en) by simp [goneV, goneW]]
   exact hI
  have hp0 : 0 < ss.length := List.length_pos_iff.mpr h0
  refine ite2 (fun z => absurd z (by lia)) (fun _ => ?_)
  refine ⟨_, _, .inr hw, rfl, ?_⟩
  refine ⟨ps, ss, rt, rfl, hps, hn, fun p H1 s1 hp1 => ?_⟩
  have hw1 := s1.tup hw
  refine ⟨_, .inr (.of hp1), ?_⟩
  rw [List.length_map]
  walk_at "rd"
  by_cases h1 : goneS rt ss = []
  ·refine ite2 (fun z => by rw [h1] at z; simp at z) (fun _ => ?_)
   refine ⟨_, _, .inr hw1, rfl, rt, rfl, ?_⟩
   cases rt with
   | true =>
    rw [if_pos rfl]
    refine ⟨by decide, fun p7 H7 hn7 s7 hp7 => ⟨by decide, fun p8 H8 hn8 s8 hp8 => k _ H8 ((s1.trans s7).trans s8) ?_⟩⟩
    rw [show goneV (true, ss, en) = (true, [], true) by simp [goneV, goneW, h0, h1]]
    exact wayK (.of hp8) (.of (s8 _ _ hp7))
   | false =>
    rw [if_neg (by decide)]
    refine ⟨by decide, fun p7 H7 hn7 s7 hp7 => ⟨by decide, fun p8 H8 hn8 s8 hp8 => k _ H8 ((s1.trans s7).trans s8) ?_⟩⟩
    rw [show goneV (false, ss, en) = (false, [sStay], true) by simp [goneV, goneW, h0, h1]]
    rw [kst] at hp7
    exact wayK (.of hp8) (.of (s8 _ _ hp7))
  ·have hq0 : 0 < (goneS rt ss).length := List.length_pos_iff.mpr h1
   have hW : goneV (rt, ss, en) = (rt, goneS rt ss, en || lastDot ss) := by simp [goneV, goneW, h0, h1]
   refine ite2 (fun _ => ?_) (fun z => absurd (show (0 : Int) < ((goneS rt ss).length : Int) by lia) z)
   refine ⟨_, _, .inr hw1, rfl, _, _, .inr hw1, rfl, en, rfl, ?_⟩
   refine ite2 (fun he => ⟨by decide, fun p8 H8 hn8 s8 hp8 => k _ H8 (s1.trans s8) ?_⟩) (fun he => ?_)
   ·rw [hW, he, Bool.true_or]
    exact wayK (.of hp8) (.of (s8 _ _ hp1))
   ·have he : en = false := by simpa using he
    obtain ⟨s, hls⟩ : ∃ s, ss.getLast? = some s := by
     cases hl : ss.getLast? with
     | none => exact absurd (List.getLast?_eq_none_iff.mp hl) h0
     | some s => exact ⟨s, rfl⟩
    have hld : lastDot ss = isDot s := by unfold lastDot; rw [hls]
    refine ⟨_, _, .inr (s1.tup hps), mqC _ hls, s, rfl, by decide, fun p8 H8 hn8 s8 hp8 => k _ H8 (s1.trans s8) ?_⟩
    rw [hW, he, Bool.false_or, hld]
    exact wayK (.of hp8) (.of (s8 _ _ hp1))
theorem iqT (g : G w K mg) : FnOk P w K mg base (CXN P w base) 3 g.cqa.a g.cqa.fd ["cursor"] (iq8 K g.aqr g.aqg) := by
 refine g.cqa.F.okn eqb (fun vs H Q E h => ?_) (fun cdv A outer s H vs Q E hr h => ?_)
 ·obtain ⟨p, t, i, rfl, _⟩ := h; rfl
 ·obtain ⟨p, t, i, rfl, hcur, hi, hl, h128, k1, k2⟩ := h
  refine ⟨_, (aqc (aqO (bqY (aqI (aq5 (pv 0) g.aqi g.aqw (aqC g) (hr.mono (by decide)) g.aqB .nil pass0 (aqa aqs aqb))))
    (aqd (aqk aqM)) aqu)
   (aqc (aqO (bqY (aqI (aq5 (pv 0) g.aqi g.bqV (cqB g) (hr.mono (by decide)) g.cqe .nil pass0 (aqa (aqf (v := hqI) rfl g.iqp ⟨_, rfl⟩) aqb))))
    (aqd (dqO cq2 rfl g.bqb g.bq6 (aqG g) (hr.mono (by decide)) g.aqE rfl pass0 rfl (aqa (bqt (pv 0) rfl) aqb))) aqu)
   (aqc (aql (i := 1) eqb.nd rfl (Or.inl rfl) (cqg lqk rfl g.pqV oqC (aqa (dq3 (pv 0) g.aqi g.bqv (bqZ g) (hr.mono (by decide)) g.bqN .nil pass0) aqb)))
   (aqc (hqE PassesOwn.leaving (PW.pt (gqS (aqm mqt (pv 1) aqe (nomark _)) (gqS (aqI (aq5 (pv 0) g.aqi g.bqV (cqB g) (hr.mono (by decide)) g.cqe .nil pass0 (aqa (aqf (v := hqI) rfl g.iqp ⟨_, rfl⟩) aqb))) (fqD (aqm vqk (aqv g.dq7 (gq0 g) hr rfl (aqa (pv 1) (aqa (pv 0) aqb))) (aqf (v := lqV) rfl g.hqV ⟨_, rfl⟩) (nomark _))))))
   (aqc (aql (i := 1) eqb.nd rfl (Or.inl rfl) (aqv g.dq7 (gq0 g) hr rfl (aqa (pv 1) (aqa (pv 0) aqb))))
   (aqd (dqG (dq3 (pv 0) g.aqi g.bqv (bqZ g) (hr.mono (by decide)) g.bqN .nil pass0)))))
   (aqd (aqk (pv 1))))))), ?_⟩
  have eF : hqI = .str ⟨fgS.toArray⟩ := by
   show V.str (Str.ofString _) = _
   unfold fgS; simp
  have e1 : Str.ofString ":" = ⟨[58].toArray⟩ := by decide +kernel
  rw [eF, e1]
  walk_at "rd"
  refine aqN hcur ⟨p, t, [58], i, rfl, hcur, hi, hl, fun hp H1 s1 c1 => ⟨_, rfl, ?_⟩, fun hp => ⟨_, rfl, ?_⟩⟩
  ·rw [if_neg (by decide)]
   have h1 := take1.mp hp
   have hi1 : i + 1 ≤ t.length := by
    have := congrArg List.length hp
    rw [List.length_take, List.length_drop] at this
    simp only [List.length_singleton] at this
    lia
   have em : dooM (t.drop i) = (match t.drop (i + 1) with | [] => (.error 1 : Rs (Option Int)) | c :: r' => if 48 ≤ c ∧ c ≤ 57 then .ok (some ((dooG r' (c - 48)).1 : Int), 2 + (dooG r' (c - 48)).2) else .error 1) := by
    unfold dooM
    rw [if_pos h1, List.drop_drop]
    all_goals (cases t.drop (i + 1) <;> rfl)
   refine aqN c1 ⟨p, t, fgS, i + 1, rfl, c1, hi1, hl, _, rfl, ?_⟩
   cases hd : t.drop (i + 1) with
   | nil =>
    have hn : t[i + 1]? = none := by rw [← List.head?_drop, hd]; rfl
    rw [dqX hn, if_pos rfl]
    exact aqQ c1 g.aqi g.aqo (cqY fun d H' sm hx => k2 1 (by rw [em, hd]) d H' (s1.trans sm.but) hx)
   | cons c r =>
    obtain ⟨hx, hxl⟩ := iqw hd
    rw [dqL hx]
    by_cases hf : 48 ≤ c ∧ c ≤ 57
    ·rw [decide_eq_true (mqX.mpr hf), if_neg (by decide)]
     rw [hd] at em
     have em : dooM (t.drop i) = .ok (some ((dooG r (c - 48)).1 : Int), 2 + (dooG r (c - 48)).2) := by rw [em]; exact if_pos hf
     refine aqN c1 ⟨p, t, i + 1, c, rfl, c1, hx, hl, fun H2 s2 c2 => ⟨_, _, rfl, by show 1 ≤ 640; decide, oq5 c (by lia) hf.1, ?_⟩⟩
     refine jq3 (fun m σ H' => ∃ (n k : Nat), m = t.length - (i + 2 + k) ∧ i + 2 + k ≤ t.length ∧ σ = [some (.ref p), some (.int (n : Nat))] ∧ n ≤ 65535 ∧ SameBut p H H' ∧ Cur H' g.aqr p t (i + 2 + k) ∧ (dooG r (c - 48)).1 = (dooG (t.drop (i + 2 + k)) n).1 ∧ (dooG r (c - 48)).2 = k + (dooG (t.drop (i + 2 + k)) n).2) (t.length - (i + 2)) ⟨c - 48, 0, rfl, by lia, rfl, by lia, s1.trans s2, c2, ?_, ?_⟩ ?_
     ·rw [show t.drop (i + 2 + 0) = r by rw [Nat.add_zero, show i + 2 = i + 1 + 1 by lia, ← List.drop_drop, hd]; rfl]
     ·rw [show t.drop (i + 2 + 0) = r by rw [Nat.add_zero, show i + 2 = i + 1 + 1 by lia, ← List.drop_drop, hd]; rfl, Nat.zero_add]
     rintro m σ H3 ⟨n, k, rfl, hk, rfl, hn, s3, c3, g1, g2⟩
     have fin : dooG (t.drop (i + 2 + k)) n = (n, 0) → Q (.int (n : Nat)) H3 := fun e => by
      rw [e] at g1 g2
      have := k1 (some ((dooG r (c - 48)).1 : Int)) _ em H3 s3 (by rw [g2, show i + (2 + (k + 0)) = i + 2 + k by lia]; exact c3)
      rw [g1] at this
      exact this
     walk_at "rd"
     by_cases h0 : n = 0
     ·rw [if_neg (by lia)]
      refine fin ?_
      cases t.drop (i + 2 + k) with
      | nil => rfl
      | cons d r => unfold dooG; rw [if_neg (by lia)]
     rw [if_pos (by lia)]
     refine aqN c3 ⟨p, t, fgS, i + 2 + k, rfl, c3, hk, hl, _, rfl, ?_⟩
     cases hd3 : t.drop (i + 2 + k) with
     | nil =>
      have hn3 : t[i + 2 + k]? = none := by rw [← List.head?_drop, hd3]; rfl
      rw [dqX hn3, if_neg (by decide)]
      exact fin (by rw [hd3]; rfl)
     | cons d r3 =>
      obtain ⟨hx3, hxl3⟩ := iqw hd3
      rw [dqL hx3]
      by_cases hf3 : 48 ≤ d ∧ d ≤ 57
      ·rw [decide_eq_true (mqX.mpr hf3), if_pos rfl]
       refine ⟨p, t, _, d, n, rfl, c3, hl, hx3, hf3.1, hf3.2, by lia, _, _, rfl, rfl, _, rfl, ?_⟩
       by_cases hle : n * 10 + (d - 48) ≤ 65535
       ·rw [decide_eq_true (by lia), if_pos rfl]
        refine ⟨_, fun _ _ h => h, p, t, _, d, n, rfl, c3, hl, hx3, hf3.1, hf3.2, by lia, aqN c3 ⟨p, t, _, d, rfl, c3, hx3, hl, fun H4 s4 c4 => ⟨t.length - (i + 2 + (k + 1)), by lia, n * 10 + (d - 48), k + 1, rfl, by lia, rfl, hle, s3.trans s4, c4, ?_, ?_⟩⟩⟩
        ·have hd4 : t.drop (i + 2 + (k + 1)) = r3 := by rw [← Nat.add_assoc, ← List.drop_drop, hd3]; rfl
         rw [g1, hd3, hd4]
         conv => lhs; unfold dooG
         rw [if_pos ⟨by lia, hf3.1, hf3.2, hle⟩]
        ·have hd4 : t.drop (i + 2 + (k + 1)) = r3 := by rw [← Nat.add_assoc, ← List.drop_drop, hd3]; rfl
         rw [g2, hd3, hd4]
         conv => lhs; unfold dooG
         rw [if_pos ⟨by lia, hf3.1, hf3.2, hle⟩]
         show k + (_ + 1) = _
         lia
       ·rw [decide_eq_false (by lia), if_neg (by decide)]
        exact fin (by rw [hd3]; unfold dooG; rw [if_neg (fun z => hle z.2.2.2)])
      ·rw [decide_eq_false (fun z => hf3 (mqX.mp z)), if_neg (by decide)]
       exact fin (by rw [hd3]; unfold dooG; rw [if_neg (fun z => hf3 ⟨z.2.1, z.2.2.1⟩)])
    ·rw [decide_eq_false (fun z => hf (mqX.mp z)), if_pos rfl]
     exact aqQ c1 g.aqi g.aqo (cqY fun d H' sm hx => k2 1 (by rw [em, hd]; exact if_neg hf) d H' (s1.trans sm.but) hx)
  ·rw [if_pos rfl]
   exact k1 none 0 (by unfold dooM; rw [if_neg (fun z => hp (take1.mpr z))]) H (SameBut.refl _ _) hcur
theorem iq2 (g : G w K mg) : FnOk P w K mg base (CXN P w base) 3 g.bq9.a g.bq9.fd ["cursor"] (iq6 K g.aqr g.aqg) := by
 refine g.bq9.F.okn eqc (fun vs H Q E h => ?_) (fun cdv A outer s H vs Q E hr h => ?_)
 ·obtain ⟨p, t, i, rfl, _⟩ := h; rfl
 ·obtain ⟨p, t, i, rfl, hcur, hi, hl, h128, k1, k2⟩ := h
  refine ⟨_, (aqc (aqO (bqY (aqI (aq5 (pv 0) g.aqi g.bqV (cqB g) (hr.mono (by decide)) g.cqe .nil pass0 (aqa (aqf (v := eqX) rfl g.eqW ⟨_, rfl⟩) aqb))))
    (aqd (dqO cq2 rfl g.bqb g.bq6 (aqG g) (hr.mono (by decide)) g.aqE rfl pass0 rfl (aqa (bqt (pv 0) rfl) aqb))) aqu)
   (aqc (aql (i := 1) eqc.nd rfl (Or.inl rfl) (aqn (aqJ (K := K) rfl) (dq3 (pv 0) g.aqi g.bqv (bqZ g) (hr.mono (by decide)) g.bqN .nil pass0) (cqh (hqO (K := K) rfl) (bqt (pv 0) rfl) (cqQ (bqt (pv 0) rfl)) (cqQ (aqn (aqJ (K := K) rfl) (bqt (pv 0) rfl) aqe)))))
   (aqc (aql (i := 2) eqc.nd rfl (Or.inl rfl) (aqv g.iqk (nq0 g) hr rfl (aqa (pv 1) aqb)))
   (aqc (aqO (aqm cqu (pv 2) aqM (nomark _))
    (aqd (dqO cq2 rfl g.bqb g.bq6 (aqG g) (hr.mono (by decide)) g.aqE rfl pass0 rfl (aqa (bqt (pv 0) rfl) aqb))) aqu)
   (aqc (dqG (dq3 (pv 0) g.aqi g.bqv (bqZ g) (hr.mono (by decide)) g.bqN .nil pass0))
   (aqd (aqk (pv 2)))))))), ?_⟩
  have eF : eqX = .str ⟨fsF.toArray⟩ := by
   show V.str (Str.ofString "234567") = _
   rw [show Str.ofString "234567" = ⟨fsF.toArray⟩ by decide +kernel]
  walk_at "rd"
  rw [eF]
  refine aqN hcur ⟨p, t, _, i, rfl, hcur, hi, hl, _, rfl, ?_⟩
  cases hd : t.drop i with
  | nil =>
   have hn : t[i]? = none := by rw [← List.head?_drop, hd]; rfl
   rw [dqX hn, if_pos rfl]
   exact aqQ hcur g.aqi g.aqo (cqY fun d H' sm hx => k2 0 (by rw [hd]; rfl) d H' sm.but hx)
  | cons a r =>
   obtain ⟨hia, hil⟩ := iqw hd
   rw [dqL hia]
   have ha := h128 a (List.mem_of_getElem? hia)
   by_cases hf : a ∈ fsF
   ·rw [decide_eq_true hf, if_neg (by decide)]
    refine aqN hcur ⟨p, t, i, a, rfl, hcur, hia, hl, fun H1 s1 c1 => ?_⟩
    refine dq1 c1 g.aqi g.aqX (aqQ c1 g.aqi g.aqo ⟨_, rfl, aqQ c1 g.aqi g.aqo ?_⟩)
    walk_at "rd"
    rw [show ((i + 1 : Nat) : Int) + 1 = ((i + 2 : Nat) : Int) by lia, oq0, show i + 2 - (i + 1) = 1 by lia, ← List.drop_drop, hd]
    cases r with
    | nil =>
     rw [show List.take 1 (List.drop 1 [a]) = [] from rfl]
     walk_at "rd"
     refine ⟨aqp hl, by decide, by decide, fun d hd' => ?_, ?_⟩
     ·simp only [List.mem_cons, List.not_mem_nil, or_false] at hd'
      rw [hd']; exact ha
     rw [show signOfL [a] = V.non from rfl, if_pos rfl]
     exact aqQ c1 g.aqi g.aqo (cqY fun d H' sm hx => k2 1 (by rw [hd]; show (if a ∈ fsF then _ else _) = _; rw [if_pos hf]) d H' (s1.trans sm.but) hx)
    | cons b r =>
     rw [show List.take 1 (List.drop 1 (a :: b :: r)) = [b] from rfl]
     have hd2 : t.drop (i + 1) = b :: r := by rw [← List.drop_drop, hd]; rfl
     obtain ⟨hib, _⟩ := iqw hd2
     have hb := h128 b (List.mem_of_getElem? hib)
     walk_at "rd"
     refine ⟨aqp hl, by decide, by decide, fun d hd' => ?_, ?_⟩
     ·simp only [List.mem_cons, List.not_mem_nil, or_false] at hd'
      rcases hd' with rfl | rfl
      ·exact ha
      ·exact hb
     rw [show signOfL [a, b] = signOf a b from rfl, oq7]
     cases hs : sgO a b with
     | none =>
      rw [if_pos (show oV none = V.non from rfl)]
      exact aqQ c1 g.aqi g.aqo (cqY fun d H' sm hx => k2 1 (by rw [hd]; show (if a ∈ fsF then _ else _) = _; rw [if_pos hf, hs]) d H' (s1.trans sm.but) hx)
     | some c =>
      rw [if_neg (by intro z; cases z)]
      refine aqN c1 ⟨p, t, i + 1, b, rfl, c1, hib, hl, fun H2 s2 c2 => k1 c 2 ?_ H2 (s1.trans s2) c2⟩
      rw [hd]
      show (if a ∈ fsF then _ else _) = _
      rw [if_pos hf, hs]
   ·rw [decide_eq_false hf, if_pos rfl]
    refine aqQ hcur g.aqi g.aqo (cqY fun d H' sm hx => k2 0 ?_ d H' sm.but hx)
    rw [hd]
    cases r with
    | nil => show (if a ∈ fsF then _ else _) = _; rw [if_neg hf]
    | cons b r => show (if a ∈ fsF then _ else _) = _; rw [if_neg hf]
theorem eqB (g : G w K mg) : g.cqy.Ok P w base 3 (iqt K) := by
 refine g.cqy.F.ok aqx (fun vs H Q E h => ?_) (fun cdv A outer s H vs Q E hr h => ?_)
 ·obtain ⟨pc, is, gg, wh, rfl, _⟩ := h; rfl
 ·obtain ⟨pc, is, gg, wh, rfl, hpc, hil, hg0, hg1, hgs, k⟩ := h
  refine ⟨_, (aqc (aql (i := 3) aqx.nd rfl (Or.inl rfl) (aqD (aqj (K := K) rfl) (pv 0) aqe (fun _ _ => rfl)))
   (aqc (aql (i := 4) aqx.nd rfl (Or.inl rfl) aqs)
   (aqF (aqO (PW.pt (eq9 (aqI (pv 2)) (dqW (aqm cqH (aqn aq0 (pv 3) aqe) aqe (nomark _)))))
    (aqd (aql (i := 4) aqx.nd rfl (Or.inl rfl) (aqD (aqj (K := K) rfl) (cq5 (aqa aqs (aqa aqs (aqa aqs aqb)))) (aqn aq0 (aqn aqW (pv 3) aqe) aqe) (fun _ _ => rfl)))) aqu)
   (aqc (aql (i := 5) aqx.nd rfl (Or.inl rfl) aqM)
   (aqc (aql (i := 6) aqx.nd rfl (Or.inl rfl) aqM)
   (aqF (aqO (PW.pt (gqS (aqm cqH (aqn aq0 (aqn aqW (pv 3) aqe) aqe) aqe (nomark _)) (fqD (PW.pt (eq9 (aqm fqF (pv 4) aqs (nomark _)) (dqW (aqm cqH (aqn aq0 (aqn aqW (pv 3) aqe) aqe) aqe (nomark _))))))))
    (aqc (aql (i := 5) aqx.nd rfl (Or.inl rfl) (aqv g.cqt (dqr g) hr rfl (aqa (aqn aqW (pv 3) aqe) (aqa (aqn (aq8 (K := K)) aqe (aqn aq0 (aqn aqW (pv 3) aqe) aqe)) aqb))))
   (aqd (aql (i := 6) aqx.nd rfl (Or.inl rfl) (aqD (aqj (K := K) rfl) (cq5 (aqa aqM (aqa (aqn aq0 (aqn aqW (pv 3) aqe) aqe) aqb))) (aqn aq0 (aqn aqW (pv 3) aqe) aqe) (fun _ _ => rfl))))) aqu)
   (aqF (aql (i := 7) aqx.nd rfl (Or.inl rfl) (pqI (bqp fqF (pv 4) aqs (nomark _)) (pqI (bqp jqU (pv 5) aqM (nomark _)) (fqq (bqp cqH (aqn aq0 (aqn aqW (pv 3) aqe) aqe) aqe (nomark _))))))
   (aqF (aql (i := 8) aqx.nd rfl (Or.inl rfl) (cqg (dqi (K := K) rfl) rfl g.gqs gqf (aqa (iqc (fx := ["_law_signs_here", "_law_cells_here"]) (fr := [1, 0]) rfl rfl (by decide +kernel) rfl (by decide +kernel) rfl (by decide +kernel) rfl (.cons rfl rfl rfl rfl (.cons rfl rfl rfl rfl .nil)) rfl (dqj rfl g.eqI (aqa (aqn aq0 (aqD (aqj (K := K) rfl) (pv 0) aqe (fun _ _ => rfl)) aqe) aqb)) (fun _ _ _ => jqv) (fun _ _ _ => (aqv g.dql (hqw g) hr rfl (aqa (aqD (aqj (K := K) rfl) (pv 2) (aqn (aq8 (K := K)) aqe (pv 0)) (fun _ _ => rfl)) (aqa (pv 1) aqb))))) aqb)))
   (aqc (aql (i := 9) aqx.nd rfl (Or.inl rfl) (aqD (aqj (K := K) rfl) (cq5 (aqa (pv 7) (aqa (bqp cqH (aqn aq0 (aqn aqW (aqD (aqj (K := K) rfl) (pv 0) aqe (fun _ _ => rfl)) aqe) aqe) aqe (nomark _)) aqb))) (cqg oq8 rfl g.pqV oqC (aqa (bqp (tqC hr.units) (pv 8) (bqa aqb) (nomark _)) aqb)) (fun _ _ => rfl)))
   (aqF (aql (i := 10) aqx.nd rfl (Or.inl rfl) (aqD (aqj (K := K) rfl) (cq5 (aqa aqM (aqa (aqv g.cqt (dqr g) hr rfl (aqa (aqD (aqj (K := K) rfl) (pv 0) aqe (fun _ _ => rfl)) (aqa (aqn aq0 (aqD (aqj (K := K) rfl) (pv 0) aqe (fun _ _ => rfl)) aqe) aqb))) aqb))) (aqn aq0 (aqn aqW (aqD (aqj (K := K) rfl) (pv 0) aqe (fun _ _ => rfl)) aqe) aqe) (fun _ _ => rfl)))
   (aqd (aqk (bqa (aqa (pv 4) (aqa (pv 5) (aqa (pv 6) (aqa (bqa (aqa (pv 7) (aqa (pv 8) (aqa (pv 9) aqb)))) (aqa (aqv g.cq7 (hqq g) hr rfl (aqa (aqD (aqj (K := K) rfl) (pv 0) aqe (fun _ _ => rfl)) aqb)) (aqa (pv 10) aqb))))))))))))))))))), ?_⟩
  walk_at "rd"
  have cell : ∀ j, j < 7 → ∃ z : Int, (is.map V.int)[j]? = some (.int z) := fun j hj => ⟨is[j], by rw [List.getElem?_map, List.getElem?_eq_getElem (by lia)]; rfl⟩
  have md : ∀ (z b : Int), 0 < b → ∃ m : Nat, (m : Int) < b ∧ z % b = (m : Int) := fun z b hb => by
   have h1 := Int.emod_nonneg z (show b ≠ 0 by lia)
   have h2 := Int.emod_lt_of_pos z hb
   exact ⟨(z % b).toNat, by lia, by lia⟩
  obtain ⟨z0, hz0⟩ := cell 0 (by decide)
  refine ⟨_, _, .inl (.of hpc), aqH (j := 0) hz0, ?_⟩
  walk_at "rd"
  refine ⟨fun σ H1 => Same H H1 ∧ ∃ sc : List Nat, σ = [some (.ref pc), some (tV gg), some (.bl wh), some (.int z0), some (tV sc), none, none, none, none, none, none] ∧ (wh = true → sc ≠ []) ∧ sc.length ≤ 8 ∧ (∀ c ∈ sc, isAln c = true) ∧ ∀ c ∈ sc.take 1, isLet c = true, ?_, ?_⟩
  ·obtain ⟨m, hm, em⟩ := md (z0 / 4) 3 (by decide)
   obtain ⟨sc, hsc, h0, h1⟩ : ∃ sc : List Nat, atI [V.str (Str.ofString "web"), V.str (Str.ofString "x1"), V.str (Str.ofString "Ab")] (z0 / 4 % 3) = some (tV sc) ∧ sc ≠ [] ∧ sc.length ≤ 8 ∧ (∀ c ∈ sc, isAln c = true) ∧ ∀ c ∈ sc.take 1, isLet c = true := by
    rw [em]
    match m, hm with
    | 0, _ => exact ⟨[119, 101, 98], aqH (j := 0) (by decide +kernel), by decide⟩
    | 1, _ => exact ⟨[120, 49], aqH (j := 1) (by decide +kernel), by decide⟩
    | 2, _ => exact ⟨[65, 98], aqH (j := 2) (by decide +kernel), by decide⟩
   refine ite2 (fun hw => ?_) (fun hw => ⟨by decide, ite2 (fun _ => ?_) (fun _ => ⟨Same.refl _, [], rfl, (fun z => absurd z hw), by decide, (fun c hc => by cases hc), fun c hc => by cases hc⟩)⟩)
   all_goals exact ⟨by decide, fun p1 H1 n1 s1 e1 => ⟨⟨by decide, by decide⟩, by decide, _, _, .inl (.of e1), hsc, s1, sc, rfl, fun _ => h0, h1⟩⟩
  rintro σ H1 ⟨s1, sc, rfl, hs0, hs1, hs2, hs3⟩
  walk_at "rd"
  refine ⟨fun σ H2 => Same H1 H2 ∧ ∃ (ho : Option (List Nat)) (dr : Option Int), σ = [some (.ref pc), some (tV gg), some (.bl wh), some (.int z0), some (tV sc), some (otV ho), some (itV dr), none, none, none, none] ∧ (∀ l, ho = some l → 0 < l.length ∧ Tx 13 l) ∧ ∀ i, dr = some i → (0 ≤ i ∧ i ≤ 65535) ∧ ho ≠ none, ?_, ?_⟩
  ·obtain ⟨m, hm, em⟩ := md (z0 / 72) 3 (by decide)
   obtain ⟨d, hd, ed⟩ := md (z0 / 72) 65536 (by decide)
   obtain ⟨b, hb, eb⟩ := md (z0 / 24) 2 (by decide)
   obtain ⟨dr, hv, hdr⟩ : ∃ dr : Option Int, atI [V.non, V.int (d : Int)] (b : Int) = some (itV dr) ∧ ∀ i, dr = some i → 0 ≤ i ∧ i ≤ 65535 := by
    match b, hb with
    | 0, _ => exact ⟨none, aqH (j := 0) rfl, fun i z => by cases z⟩
    | 1, _ => exact ⟨some d, aqH (j := 1) rfl, fun i z => by cases z; lia⟩
   rw [em, ed, eb, show (1 : Int) + (m : Int) = ((1 + m : Nat) : Int) by lia]
   refine ⟨⟨by decide, by decide⟩, by decide, ite2 (fun _ => ite2 (fun _ => ?_) (fun _ => ⟨⟨by decide, by decide⟩, by decide, ite2 (fun _ => ?_) (fun _ => ?_)⟩)) (fun _ => ?_)⟩
   iterate 2 exact ⟨⟨by decide, by decide⟩, ⟨by decide, by decide⟩, by decide, z0 / 72, 1 + m, rfl, by lia, fun l hl hs => ⟨⟨by decide, by decide⟩, by decide, by decide, fun p2 H2 n2 s2 e2 => ⟨⟨by decide, by decide⟩, by decide, _, _, .inl (.of e2), hv, s2, some l, dr, rfl, (fun l' z => by cases z; exact ⟨by lia, by lia, hs⟩), fun i z => ⟨hdr i z, fun y => by cases y⟩⟩⟩⟩
   all_goals exact ⟨Same.refl _, none, none, rfl, (fun l z => by cases z), fun i z => by cases z⟩
  rintro σ H2 ⟨s2, ho, dr, rfl, hho, hdr⟩
  walk_at "rd"
  refine ⟨fun σ H3 => H2 = H3 ∧ ∃ rb : Bool, σ = [some (.ref pc), some (tV gg), some (.bl wh), some (.int z0), some (tV sc), some (otV ho), some (itV dr), some (.bl rb), none, none, none] ∧ (sc ≠ [] ∨ ho ≠ none → rb = true), ?_, ?_⟩
  ·refine ite2 (fun z => ⟨rfl, true, rfl, fun _ => rfl⟩) (fun hz => ite2 (fun _ => ⟨rfl, true, rfl, fun _ => rfl⟩) (fun h0 => ⟨⟨by decide, by decide⟩, by decide, rfl, _, rfl, fun o => ?_⟩))
   rcases o with o | o
   ·exact absurd (fun z => o (fqv.mp z)) hz
   ·cases ho with
    | none => exact absurd rfl o
    | some l => exact absurd (fun z => by cases z) h0
  rintro σ H3 ⟨rfl, rb, rfl, hrb⟩
  have s02 := s1.trans s2
  obtain ⟨z4, hz4⟩ := cell 4 (by decide)
  obtain ⟨m, hm, em⟩ := md z4 4 (by decide)
  walk_at "rd"
  refine ⟨fun σ H3 => Same H2 H3 ∧ ∃ (ss : List (List Nat)) (ps : Addr), σ = [some (.ref pc), some (tV gg), some (.bl wh), some (.int z0), some (tV sc), some (otV ho), some (itV dr), some (.bl rb), some (.ref ps), none, none] ∧ H3 ps = some (.tup (ss.map tV)) ∧ ss.length ≤ 3 ∧ ∀ x ∈ ss, 0 < x.length ∧ Tx 9 x, ⟨_, _, .inl (.of (s02 _ _ hpc)), aqH (j := 4) hz4, ?_⟩, ?_⟩
  ·walk_at "rd"
   rw [em]
   refine ⟨by decide, by lia, by lia, fun p3 n3 => ?_⟩
   rw [Int.toNat_natCast]
   refine iqA (fun i ys H' => SameBut p3 H2 H' ∧ ∃ ss : List (List Nat), ys = ss.map tV ∧ ss.length = i ∧ ∀ x ∈ ss, 0 < x.length ∧ Tx 9 x) (aqp (by lia)) ⟨aqR.trans (SameBut.refl _ _), [], rfl, rfl, fun x hx => by cases hx⟩ (fun i ys H3 T hi hJ h3 hT => ?_) (fun ys H3 hJ h3 => ?_)
   ·obtain ⟨sb, ss, rfl, hsl, hss⟩ := hJ
    obtain ⟨zi, hzi⟩ := cell (1 + i) (by lia)
    have s03 := s02.trans (sb.same n3)
    walk_at "rd"
    refine ⟨_, _, .inl (.of (s03 _ _ hpc)), by rw [show (1 : Int) + (0 + (i : Int)) = ((1 + i : Nat) : Int) by lia]; exact aqH hzi, zi, gg, rfl, hg0, hg1, hgs, fun l h1 h2 h4 => hT _ H3 h3 ⟨sb.trans aqR, ss ++ [l], by rw [List.map_append]; rfl, by rw [List.length_append, List.length_singleton, hsl], fun x hx => ?_⟩⟩
    rcases List.mem_append.mp hx with z | z
    ·exact hss x z
    ·rw [List.mem_singleton.mp z]; exact ⟨List.length_pos_iff.mpr h1, by lia, h4⟩
   ·obtain ⟨sb, ss, rfl, hsl, hss⟩ := hJ
    walk_at "rd"
    exact ⟨_, .inl (.of h3), fun l H4 s4 e4 => ⟨(sb.same n3).trans s4, ss, e4, by lia, hss⟩⟩
  rintro σ H3 ⟨s3, ss, ps, rfl, hps, hsl, hss⟩
  have s03 := s02.trans s3
  walk_at "rd"
  refine ⟨_, _, .inl (.of (s03 _ _ hpc)), aqH (j := 4) hz4, ?_⟩
  walk_at "rd"
  refine ⟨⟨by decide, by decide⟩, by decide, ?_⟩
  refine ⟨by decide, fun p4 H4 n4 s4 e4 => ⟨by decide, fun p5 H5 n5 s5 e5 => ?_⟩⟩
  have s35 := s4.trans s5
  have lay : SeqAt.shaped (.tuple (ss.map st)) = true := (LayAt.tup (n := 0) fun d hd => by
   obtain ⟨x, hx, rfl⟩ := List.mem_map.mp hd
   exact .st (hss x hx).2.2).shaped (by decide)
  refine ⟨.tuple (ss.map st), .tuple [], .tup (s35 _ _ hps) (mqE ss), .tup e5 .nil, lay, by decide +kernel, ?_⟩
  rw [sqy, List.isEmpty_map]
  obtain ⟨en, hen, hen0⟩ : ∃ en : Bool, atI [V.bl rb, V.bl (decide (z4 / 4 % 2 = 0))] (if ss.isEmpty = false then 1 else 0) = some (.bl en) ∧ (ss = [] → en = rb) := by
   cases ss with
   | nil => exact ⟨rb, aqH (j := 0) rfl, fun _ => rfl⟩
   | cons x r => exact ⟨_, aqH (j := 1) rfl, fun z => by cases z⟩
  walk_at "rd"
  refine ⟨_, _, .inl (.of (s5 _ _ e4)), hen, ?_⟩
  obtain ⟨z5, hz5⟩ := cell 5 (by decide)
  obtain ⟨a, ha, ea⟩ := md z5 4 (by decide)
  have s05 := s03.trans s35
  refine ⟨fun σ H6 => Same H5 H6 ∧ ∃ mk : Option (List Nat), σ = [some (.ref pc), some (tV gg), some (.bl wh), some (.int z0), some (tV sc), some (otV ho), some (itV dr), some (.bl rb), some (.ref ps), some (.bl en), some (otV mk)] ∧ ∀ l, mk = some l → Tx 7 l, ⟨_, _, .inl (.of (s05 _ _ hpc)), aqH (j := 5) hz5, _, _, .inl (.of (s05 _ _ hpc)), aqH (j := 5) hz5, ?_⟩, ?_⟩
  ·walk_at "rd"
   rw [ea]
   refine ⟨by decide, z5, a, rfl, by lia, fun l hl hs => ⟨by decide, fun p6 H6 n6 s6 e6 => ⟨_, _, .inl (.of ((s05.trans s6) _ _ hpc)), aqH (j := 5) hz5, ?_⟩⟩⟩
   obtain ⟨b, hb, eb⟩ := md (z5 / 4) 2 (by decide)
   walk_at "rd"
   rw [eb]
   obtain ⟨mk, hmk, hm1⟩ : ∃ mk : Option (List Nat), atI [V.non, tV l] (b : Int) = some (otV mk) ∧ ∀ x, mk = some x → Tx 7 x := by
    match b, hb with
    | 0, _ => exact ⟨none, aqH (j := 0) rfl, fun x z => by cases z⟩
    | 1, _ => exact ⟨some l, aqH (j := 1) rfl, fun x z => by cases z; exact ⟨by lia, hs⟩⟩
   exact ⟨⟨by decide, by decide⟩, by decide, _, _, .inl (.of e6), hmk, s6, mk, rfl, hm1⟩
  rintro σ H6 ⟨s6, mk, rfl, hmk⟩
  walk_at "rd"
  obtain ⟨z6, hz6⟩ := cell 6 (by decide)
  refine ⟨by decide, fun p7 H7 n7 s7 e7 => ⟨_, _, .inl (.of ((s05.trans (s6.trans s7)) _ _ hpc)), aqH (j := 6) hz6, z6, rfl, fun qs v H8 hq s8 hv => ⟨by decide, fun p9 H9 n9 s9 e9 => ?_⟩⟩⟩
  have s89 := s8.trans s9
  have s39 := s35.trans (s6.trans (s7.trans s89))
  refine k ⟨sc, ho, dr, rb, ss, en, qs, mk⟩ _ H9 ⟨⟨hs1, hs2, hs3⟩, fun l e => ⟨(hho l e).1, by have := (hho l e).2.1; lia, (hho l e).2.2⟩, hdr, ⟨by show ss.length ≤ 50; lia, fun l hl => ⟨(hss l hl).1, by have := (hss l hl).2.1; lia, (hss l hl).2.2⟩⟩, hrb, hen0, fun ps e => ⟨by have := (hq ps e).1.1; lia, fun p hp => ⟨⟨((hq ps e).2 p hp).1.1, by have := ((hq ps e).1.2 p hp).1; lia, ((hq ps e).2 p hp).1.2⟩, fun v ev => ⟨((hq ps e).1.2 p hp).2 v ev, ((hq ps e).2 p hp).2 v ev⟩⟩⟩, fun l e => ⟨by have := (hmk l e).1; lia, (hmk l e).2⟩⟩ ⟨fun l hl => (hss l hl).2.1, fun ps e => (hq ps e).1, fun l e => (hmk l e).1, fun l e => (hho l e).2.1⟩ hsl hs0 (s03.trans s39) ?_
  exact .tup e9 (.cons (.str _) (.cons (lq9 _) (.cons (sqo _) (.cons (.tup (s89 _ _ e7) (.cons (.bl _) (.cons (.tup (s39 _ _ hps) (rql ss)) (.cons (.bl _) .nil)))) (.cons (hv.mono s9.toT) (.cons (lq9 _) .nil))))))
theorem gqN (g : G w K mg) : g.cqM.Ok P w base 4 (gqG K) := by
 refine g.cqM.F.ok gqA (fun vs H Q E h => ?_) (fun cdv A outer s H vs Q E hr h => ?_)
 ·obtain ⟨q, v, rfl, _⟩ := h; rfl
 ·obtain ⟨q, v, rfl, hI, hq, hl, k⟩ := h
  refine ⟨_, (aqc (aqO (aqm cqu (pv 0) aqM (nomark _))
    (aqd (aqk aqs)) aqu)
   (aqd (aqk (aqn (aqJ (K := K) rfl) aqs (cqI (K := K) rfl PySem.F.plainAttrs_str PySem.F.slot_str_join PySem.F.type_str_join (hqD (K := K) rfl) aqs (aqa (pqn (K := K) (fx := []) (fr := []) rfl rfl rfl (by decide +kernel) rfl (by decide +kernel) rfl rfl (by decide +kernel) rfl .nil rfl (mqr (K := K) rfl (pv 0)) (fun _ _ _ => jqv) (fun _ _ _ => (aqv g.dq6 (iqZ g) hr rfl (aqa (pv 0) (aqa (pv 1) aqb))))) aqb)))))), ?_⟩
  have c1 : Str.ofString "?" = ⟨[63].toArray⟩ := by decide +kernel
  have c2 : Str.ofString "&" = ⟨[38].toArray⟩ := by decide +kernel
  rw [c1, c2]
  walk_at "rd"
  cases q with
  | none =>
   cases hI
   exact ite2 (fun _ => k H (Same.refl _)) (fun z => absurd rfl z)
  | some ps =>
   obtain ⟨p, xs, rfl, hp, r⟩ := gqt hI
   refine ite2 (fun z => by cases z) (fun _ => ?_)
   obtain ⟨hpl, hpp⟩ := hq ps rfl
   have hxl := r.length
   rw [List.length_map] at hxl
   refine ⟨p, rfl, ⟨_, hp⟩, fun p1 hn1 => ?_⟩
   refine oqb (f := fun i => match ps[i]? with | some p => (.str ⟨p.1.toArray⟩, otV p.2) | none => (.non, .non)) (zs := (ps.map pairT).map fun l => V.str ⟨l.toArray⟩) hp (aqp (by lia)) hn1 (by simp; lia) (fun i x H' hx sm => ?_) (fun i z hi hz H' T sm hT => ?_) (fun H' sm hp' => ?_)
   ·have hi : i < ps.length := by have := (List.getElem?_eq_some_iff.mp hx).1; lia
    have he : ps[i]? = some ps[i] := by simp [hi]
    obtain ⟨b, x1, x2, rfl, hb, b1, b2⟩ := isK2 (jqz r (by rw [List.getElem?_map, he]; rfl) hx)
    cases nqa b1
    cases pqa b2
    refine ⟨b, rfl, ?_⟩
    rw [he]
    exact sm.tup hb
   ·have hi : i < ps.length := by lia
    have he : ps[i]? = some ps[i] := by simp [hi]
    rw [List.getElem?_map, List.getElem?_map, he] at hz
    simp only [Option.map_some, Option.some.injEq] at hz
    subst hz
    obtain ⟨k1, k2, k3⟩ := hpp ps[i] (List.getElem_mem hi)
    rw [he]
    walk_at "rd"
    exact ⟨ps[i].1, ps[i].2, rfl, k1, k2, k3, hT⟩
   ·walk_at "rd"
    have hj := nqj (sep := 38) (ps.map pairT)
    have hq2 : (queT (some ps)).length = (joinT 38 (ps.map pairT)).length + 1 := by simp [queT]
    refine ⟨(ps.map pairT).map fun l => ⟨l.toArray⟩, by rw [List.map_map (f := fun l : List Nat => (⟨l.toArray⟩ : Str)) (g := V.str)]; exact .of hp', ?_, ?_⟩
    ·rw [pqe, List.length_map]
     have : ((ps.map pairT).map List.length).sum + (ps.map pairT).length ≤ (joinT 38 (ps.map pairT)).length + 1 := hj
     lia
    rw [show (⟨#[38]⟩ : Str) = ⟨[38].toArray⟩ from rfl, nqb, show (⟨#[63]⟩ : Str) = ⟨[63].toArray⟩ from rfl]
    walk_at "rd"
    refine ⟨aqp (by lia), ?_⟩
    have := k H' sm
    simpa [queT] using this
theorem eqm (g : G w K mg) : g.cqq.Ok P w base 4 (hqd K) := by
 refine g.cqq.F.ok hqn (fun vs H Q E h => ?_) (fun cdv A outer s H vs Q E hr h => ?_)
 ·obtain ⟨x, v, rfl, _⟩ := h; rfl
 ·obtain ⟨x, v, rfl, hI, hn, k⟩ := h
  refine ⟨_, (aqd (aqk (aqn (gqD (K := K) rfl) (aqn (gqD (K := K) rfl) (cqh (gqx (K := K) rfl) (pv 0) dqz (cqQ (aqf (v := mqo) rfl g.lqv ⟨_, rfl⟩))) (bqa (aqa (aqv g.mq9 (oqQ g) hr rfl (aqa (aqD (aqj (K := K) rfl) (pv 0) (aqf (v := mqo) rfl g.lqv ⟨_, rfl⟩) (fun _ _ => rfl)) aqb)) aqb))) (cqh (gqx (K := K) rfl) (pv 0) (cqQ (aqf (v := dqP) rfl g.cq4 ⟨_, rfl⟩)) dqz)))), ?_⟩
  obtain ⟨p, w, q, rfl, hp, hw, hq⟩ := fqR hI
  walk_at "rd"
  refine ⟨_, hp, fun p1 H1 s1 hp1 => ⟨_, _, .inr (s1.tup hp), rfl, ?_⟩⟩
  refine ⟨x.w, w, rfl, hw.mono s1, hn, fun u H2 s2 hu => ⟨by decide, fun p3 H3 hn3 s3 hp3 => ⟨_, _, (s2.trans s3).tup hp1, .of hp3, (show 4 ≤ sizeLine by decide), fun p4 H4 s4 hp4 => ⟨_, (((s1.trans s2).trans s3).trans s4).tup hp, fun p5 H5 s5 hp5 => ⟨_, _, s5.tup hp4, hp5, (show 6 ≤ sizeLine by decide), fun p6 H6 s6 hp6 => ?_⟩⟩⟩⟩⟩
  have sm : Same H H6 := ((((s1.trans s2).trans s3).trans s4).trans s5).trans s6
  exact k _ H6 sm (adK (x := x.gone) hp6 (hu.mono (((s3.trans s4).trans s5).trans s6)) (hq.mono sm))
theorem pqq (g : G w K mg) : g.kqr.Ok P w base 4 (pqJ K) := by
 refine g.kqr.F.ok lqj (fun vs H Q E h => ?_) (fun cdv A outer s H vs Q E hr h => ?_)
 ·obtain ⟨w, v, rfl, _⟩ := h; rfl
 ·obtain ⟨w, v, rfl, hI, hn, k⟩ := h
  refine ⟨_, (aqc (aql (i := 1) lqj.nd rfl (Or.inl rfl) (aqv g.mq9 (oqQ g) hr rfl (aqa (pv 0) aqb)))
   (aqd (aqk (aq4 (aqI (aqD (aqj (K := K) rfl) (pv 1) (aqf (v := mqD) rfl g.kq0 ⟨_, rfl⟩) (fun _ _ => rfl))) (aqD (aqj (K := K) rfl) (pv 1) (aqf (v := hq9) rfl g.gqr ⟨_, rfl⟩) (fun _ _ => rfl)) (cqh (gqx (K := K) rfl) (aqD (aqj (K := K) rfl) (pv 1) (aqf (v := hq9) rfl g.gqr ⟨_, rfl⟩) (fun _ _ => rfl)) dqz (cqQ (oq3 lqx aqe))))))), ?_⟩
  walk_at "rd"
  refine ⟨w, v, rfl, hI, hn, fun u H1 s1 hu => ?_⟩
  obtain ⟨pw, ps, rfl, hw, hps⟩ := jqY (K := K) (r := (goneV w).1) (e := (goneV w).2.2) (ss := (goneV w).2.1) hu
  walk_at "rd"
  refine ⟨_, _, .inr hw, rfl, _, rfl, ?_⟩
  cases he : (goneV w).2.2 with
  | true =>
   rw [if_pos rfl]
   refine ⟨_, _, .inr hw, rfl, k ps H1 s1 ?_⟩
   rw [holder, if_pos he]; exact hps
  | false =>
   rw [if_neg (by decide)]
   refine ⟨_, _, .inr hw, rfl, ?_⟩
   walk_at "rd"
   refine ⟨_, hps, fun p2 H2 s2 hp2 => k p2 H2 (s1.trans s2) ?_⟩
   rw [qqD, nqK] at hp2
   rw [holder, if_neg (by rw [he]; decide)]
   exact hp2
theorem iqr (g : G w K mg) : g.dqC.Ok P w base 4 (iqi K g.aqr) := by
 refine g.dqC.F.ok eqH (fun vs H Q E h => ?_) (fun cdv A outer s H vs Q E hr h => ?_)
 ·obtain ⟨p, t, rfl, _⟩ := h; rfl
 ·obtain ⟨p, t, rfl, hcur, hl, k⟩ := h
  refine ⟨_, (aqc (aql (i := 1) eqH.nd rfl (Or.inl rfl) (aqD (aqj (K := K) rfl) (cqI (K := K) rfl PySem.F.plainAttrs_str PySem.F.slot_str_partition PySem.F.type_str_partition gqR (bqt (pv 0) rfl) (aqa aqs aqb)) aqe (fun _ _ => rfl)))
   (aqc (aqO (PW.pt (eq9 (aqm cqH (pv 1) aqs (nomark _)) (eq9 (bqY (aqI (aqv g.fqE (lqb g) hr rfl (aqa (pv 1) aqb)))) (dqW (bqY (aqI (aq5 (pv 0) g.aqi g.aqw (aqC g) (hr.mono (by decide)) g.aqB .nil pass0 (aqa (aqn (aqJ (K := K) rfl) (pv 1) aqs) aqb))))))))
    (aqd (aqk aqs)) aqu)
   (aqd (aqk (pv 1))))), ?_⟩
  have e1 : Str.ofString ":" = ⟨[58].toArray⟩ := by decide +kernel
  rw [e1]
  walk_at "rd"
  refine dq1 hcur g.aqi g.aqX ⟨rfl, rqG.mpr ⟨by decide, aqp (show t.length ≤ 100000 by lia), fun q hq => ?_⟩⟩
  rw [show (⟨#[58]⟩ : Str) = ⟨[58].toArray⟩ from rfl, nqw]
  have sm1 := aqU (o := .tup [.str ⟨(ahead t).toArray⟩, .str (Txt.partition ⟨t.toArray⟩ ⟨[58].toArray⟩).2.1, .str (Txt.partition ⟨t.toArray⟩ ⟨[58].toArray⟩).2.2]) hq
  have hq1 : (upd H q (.tup [.str ⟨(ahead t).toArray⟩, .str (Txt.partition ⟨t.toArray⟩ ⟨[58].toArray⟩).2.1, .str (Txt.partition ⟨t.toArray⟩ ⟨[58].toArray⟩).2.2])) q = some (.tup [.str ⟨(ahead t).toArray⟩, .str (Txt.partition ⟨t.toArray⟩ ⟨[58].toArray⟩).2.1, .str (Txt.partition ⟨t.toArray⟩ ⟨[58].toArray⟩).2.2]) := aqh
  generalize upd H q (.tup [.str ⟨(ahead t).toArray⟩, .str (Txt.partition ⟨t.toArray⟩ ⟨[58].toArray⟩).2.1, .str (Txt.partition ⟨t.toArray⟩ ⟨[58].toArray⟩).2.2]) = H1 at sm1 hq1 ⊢
  have c1 := hcur.same sm1
  have hal := pqi t
  walk_at "rd"
  refine ⟨_, _, .inr (.of hq1), rfl, ?_⟩
  rw [L2.kqa]
  refine ⟨_, rfl, ?_⟩
  by_cases h1 : ahead t = []
  ·rw [decide_eq_true (by rw [h1]), if_pos rfl]
   obtain ⟨z1, z2⟩ := gqF (t := t) (fun z => z.1 h1)
   have := k H1 sm1.but (by rw [z2]; exact c1)
   rw [z1] at this
   exact this
  rw [decide_eq_false (fun z => h1 (fqv.mp z)), if_neg (by decide)]
  refine ⟨.str ⟨(ahead t).toArray⟩, _, rfl, .str _, by simp [smallD, Str.length]; lia, fun H2 s2 => ⟨_, rfl, ?_⟩⟩
  have c2 := c1.same s2
  have sm2 := sm1.trans s2
  cases h2 : schD (.str ⟨(ahead t).toArray⟩) with
  | false =>
   rw [if_pos rfl]
   obtain ⟨z1, z2⟩ := gqF (t := t) (fun z => by rw [h2] at z; cases z.2.1)
   have := k H2 sm2.but (by rw [z2]; exact c2)
   rw [z1] at this
   exact this
  | true =>
   rw [if_neg (by decide)]
   refine aqN c2 ?_
   rw [show (⟨#[58]⟩ : Str) = ⟨[58].toArray⟩ from rfl]
   walk_at "rd"
   refine ⟨aqp (by simp; lia), ?_⟩
   by_cases h3 : t[(ahead t).length]? = some 58
   ·obtain ⟨z1, z2⟩ := hqz h1 h2 h3
    have ht := (jqp t).mpr h3
    refine pqP (w := ahead t ++ [58]) (r := t.drop (ahead t ++ [58]).length) c2 (Nat.zero_le _) (by lia) ?_ fun H3 s3 c3 _ _ => ⟨_, rfl, ?_⟩
    ·rw [List.drop_zero]
     conv => lhs; rw [← List.take_append_drop (ahead t ++ [58]).length t, ht]
    rw [if_neg (by decide)]
    have := k H3 (sm2.but.trans s3) (by rw [z2]; rw [Nat.zero_add] at c3; exact c3)
    rw [z1] at this
    exact this
   ·obtain ⟨z1, z2⟩ := gqF (t := t) (fun z => h3 z.2.2)
    refine tqk (w := ahead t ++ [58]) c2 (Nat.zero_le _) (by lia) (by rw [List.drop_zero]; exact fun z => h3 ((jqp t).mp z)) ⟨_, rfl, ?_⟩
    rw [if_pos rfl]
    have := k H2 sm2.but (by rw [z2]; exact c2)
    rw [z1] at this
    exact this
theorem bqu (g : G w K mg) : FnOk P w K mg base (CXN P w base) 4 g.dqs g.cqi ["cursor", "free", "most"] (iqS K g.aqr g.aqg) := by
 refine g.bqk.okn eqf (fun vs H Q E h => ?_) (fun cdv A outer s H vs Q E hr h => ?_)
 ·obtain ⟨p, t, fr, i, mo, rfl, _⟩ := h; rfl
 ·obtain ⟨p, t, fr, i, mo, rfl, hcur, hi, hl, h128, hfl, k1, k2⟩ := h
  refine ⟨_, (aqc (aql (i := 3) eqf.nd rfl (Or.inl rfl) (uqh aqb))
   (aqc (aql (i := 4) eqf.nd rfl (Or.inl rfl) (aqn (aqJ (K := K) rfl) (aqn (aqJ (K := K) rfl) (aqf (v := lq8) rfl g.lqQ ⟨_, rfl⟩) (pv 1)) aqs))
   (aqc (hqE PassesOwn.leaving (PW.pt (gqS (PW.pt (eq9 (aqm cqu (pv 2) aqM (nomark _)) (dqW (aqm qqd (aqz (aq2 (K := K) rfl) rfl g.fqo PySem.boot_len (aqa (pv 3) aqb)) (pv 2) (nomark _))))) (fqD (aqI (aq5 (pv 0) g.aqi g.bqV (cqB g) (hr.mono (by decide)) g.cqe .nil pass0 (aqa (pv 4) aqb))))))
   (aqd (dqG (cqI (K := K) rfl PySem.F.plainAttrs_list PySem.F.slot_list_append PySem.F.type_list_append cqK (pv 3) (aqa (aq4 (aqI (aq5 (pv 0) g.aqi g.aqw (aqC g) (hr.mono (by decide)) g.aqB .nil pass0 (aqa aqs aqb))) (bqr (iq2 g) (hr.mono (by decide)) rfl g.bq9.m g.bq9.F.kp g.bq9.b .nil aqy (aqa (pv 0) aqb)) (dq3 (pv 0) g.aqi g.bqv (bqZ g) (hr.mono (by decide)) g.bqN .nil pass0)) aqb)))))
   (aqd (aqk (cqI (K := K) rfl PySem.F.plainAttrs_str PySem.F.slot_str_join PySem.F.type_str_join (hqD (K := K) rfl) aqs (aqa (pv 3) aqb))))))), ?_⟩
  have eP : lq8 = .str ⟨plS.toArray⟩ := by
   show V.str (Str.ofString _) = _
   unfold plS; simp
  rw [eP]
  walk_at "rd"
  refine ⟨by decide, fun q hq => ⟨aqp (by rw [pqx]; lia), aqp (by rw [List.length_append, pqx]; lia), ?_⟩⟩
  have hqp : q ≠ p := by obtain ⟨dx, hp⟩ := hcur; exact (aqq hp hq).symm
  refine jq3 (fun m σ H' => ∃ (dn : List Nat) (n : Nat) (mo' : Option Nat), m = t.length - (i + n) ∧ i + n ≤ t.length ∧ dn.length ≤ n ∧ mo' = mo.map (fun z => z - dn.length) ∧ Capd mo dn.length ∧ σ = [some (.ref p), some (.str ⟨fr.toArray⟩), some (moV mo), some (.ref q), some (.str ⟨(plS ++ fr ++ [126]).toArray⟩)] ∧ H' q = some (.lst (dn.map one)) ∧ SameBut p H H' ∧ Cur H' g.aqr p t (i + n) ∧ Via (txtM fr (t.drop i) mo) n (fun l => dn ++ l) (txtM fr (t.drop (i + n)) mo')) (t.length - i) ⟨[], 0, mo, rfl, hi, Nat.le_refl _, by cases mo <;> rfl, fun z _ => Nat.zero_le _, rfl, aqh, (aqU hq).but, ?_, Via.refl⟩ ?_
  ·obtain ⟨dx, hp⟩ := hcur
   exact ⟨dx, by rw [aqt hqp.symm]; exact hp⟩
  rintro m σ H' ⟨dn, n, mo', rfl, hin, hdn, emo, hmo, rfl, hq', sb, cur, via⟩
  have hlen : (dn.map one).length < sizeLine := by
   rw [List.length_map]
   exact Nat.lt_of_le_of_lt (show dn.length ≤ 100000 by lia) (by decide)
  have fin : txtM fr (t.drop (i + n)) mo' = .ok ([], 0) → ∃ ys : List Str, SqL K H' q (ys.map V.str) ∧ (ys.map fun x => x.length).sum + ys.length * 0 ≤ 16777216 ∧ Q (V.str (Txt.join ⟨#[]⟩ ys)) H' := fun e => by
   have e2 := via.ok e
   rw [List.append_nil, Nat.add_zero] at e2
   refine ⟨dn.map fun c => ⟨[c].toArray⟩, SqL.of (by rw [hq', List.map_map]; rfl), ?_, ?_⟩
   ·rw [oqF]
    simp only [List.length_map, Nat.mul_zero, Nat.add_zero]
    lia
   ·rw [show (⟨#[]⟩ : Str) = ⟨([] : List Nat).toArray⟩ from rfl, nqe, nqH]
    exact k1 dn n e2 H' sb cur
  have decE : ∀ c : Nat, dec mo' = mo.map (fun z => z - (dn ++ [c]).length) := fun c => by
   rw [emo]
   cases mo with
   | none => rfl
   | some z => show some (z - dn.length - 1) = some _; rw [List.length_append, List.length_singleton, Nat.sub_sub]
  have decL : mo' ≠ some 0 → ∀ c : Nat, Capd mo (dn ++ [c]).length := fun h0 c z e => by
   have := hmo z e
   subst e
   rw [List.length_append, List.length_singleton]
   have : z - dn.length ≠ 0 := fun w => h0 (by rw [emo]; show some (z - dn.length) = _; rw [w])
   lia
  cases mo
  case' none =>
   walk_at "rd"
   rw [if_pos (show moV none = V.non from rfl)]
   have h0 : mo' ≠ some 0 := by rw [emo]; intro z; cases z
  case' some mm =>
   walk_at "rd"
   rw [if_neg (by intro z; cases z)]
   refine ⟨_, .inl (.of hq'), ?_⟩
   show rI0 (fun i j => V.bl (decide (i < j))) (V.int _) (V.int (mm : Int)) H' _
   walk_at "rd"
   refine ite2 (fun hlt0 => ?_) (fun hge => fin (by
    rw [List.length_map] at hge
    have e0 : mo' = some 0 := by rw [emo]; show some (mm - dn.length) = some 0; congr 1; lia
    rw [e0]; exact hqB))
   rw [List.length_map] at hlt0
   have h0 : mo' ≠ some 0 := by
    rw [emo]
    intro z
    have z : some (mm - dn.length) = some 0 := z
    have := Option.some.inj z
    lia
  all_goals
   refine aqN cur ⟨p, t, _, i + n, rfl, cur, hin, hl, _, rfl, ?_⟩
   cases hd : t.drop (i + n) with
   | nil =>
    have hn : t[i + n]? = none := by rw [← List.head?_drop, hd]; rfl
    rw [dqX hn, if_neg (by decide)]
    exact fin (by rw [hd]; exact hqY)
   | cons c r =>
    obtain ⟨hx, hlt⟩ := iqw hd
    have hc := h128 c (List.mem_of_getElem? hx)
    rw [dqL hx]
    by_cases hin2 : c ∈ plS ++ fr ++ [126]
    ·rw [decide_eq_true hin2, if_pos rfl]
     by_cases h126 : c = 126
     ·subst h126
      have hd3 : t.drop (i + n + 1) = r := by rw [← List.drop_drop, hd]; rfl
      refine ⟨_, fun _ _ h => h, ⟨_, .of hq'⟩, aqN cur ⟨p, t, [126], i + n, rfl, cur, hin, hl, fun _ H1 s1 c1 => ⟨_, rfl, ?_⟩, fun hp1 => absurd (by rw [hd]; rfl) hp1⟩⟩
      rw [if_pos rfl]
      refine ⟨p, t, i + n + 1, rfl, c1, by lia, hl, h128, fun c m e H2 s2 c2 => ?_, fun m e d H2 s2 hx => ?_⟩
      ·rw [hd3] at e
       obtain ⟨a, b, r2, rfl, hs, rfl, _⟩ := rqs e
       have hl2 : i + n + 3 ≤ t.length := by have := congrArg List.length hd; rw [List.length_drop] at this; simp only [List.length_cons] at this; lia
       refine ⟨_, (s1.trans s2) _ _ hqp hq', hlen, t.length - (i + (n + 3)), by lia, dn ++ [c], n + 3, dec mo', rfl, by lia, by rw [List.length_append, List.length_singleton]; lia, decE c, decL h0 c, rfl, ?_, ?_, ?_, ?_⟩
       ·rw [aqh, List.map_append]; rfl
       ·exact ((sb.trans s1).trans s2).upd hq
       ·obtain ⟨dx, hpp⟩ := c2
        exact ⟨dx, by rw [aqt hqp.symm]; exact hpp⟩
       ·have hd4 : t.drop (i + (n + 3)) = r2 := by rw [show i + (n + 3) = i + n + 3 by lia, ← List.drop_drop, hd]; rfl
        have := via.step (a := 3) (g := fun l => c :: l) (r' := txtM fr r2 (dec mo')) (by rw [hd, gql h0, e]; exact rqa)
        rw [hd4]
        simpa using this
      ·rw [hd3] at e
       refine k2 (n + (m + 1)) (via.err ?_) d H2 ((sb.trans s1).trans s2) (by rw [hx, show i + n + 1 + m = i + (n + (m + 1)) by lia])
       rw [hd, gql h0, e]
     ·have hpl : isPl c = true ∨ c ∈ fr := by
       rcases List.mem_append.mp hin2 with z | z
       ·exact (List.mem_append.mp z).imp (rqp hc).mp id
       ·exact absurd (List.mem_singleton.mp z) h126
      refine ⟨_, fun _ _ h => h, ⟨_, .of hq'⟩, aqN cur ⟨p, t, [126], i + n, rfl, cur, hin, hl, fun hp1 => ?_, fun _ => ⟨_, rfl, ?_⟩⟩⟩
      ·rw [hd] at hp1
       exact absurd (List.cons.inj hp1).1 h126
      rw [if_neg (by decide)]
      refine aqN cur ⟨p, t, i + n, c, rfl, cur, hx, hl, fun H1 s1 c1 => ⟨_, s1 _ _ hqp hq', hlen, t.length - (i + (n + 1)), by lia, dn ++ [c], n + 1, dec mo', rfl, by lia, by rw [List.length_append, List.length_singleton]; lia, decE c, decL h0 c, rfl, ?_, ?_, ?_, ?_⟩⟩
      ·rw [aqh, List.map_append]; rfl
      ·exact (sb.trans s1).upd hq
      ·obtain ⟨dx, hpp⟩ := c1
       exact ⟨dx, by rw [aqt hqp.symm]; exact hpp⟩
      ·have hd4 : t.drop (i + (n + 1)) = r := by rw [← Nat.add_assoc, ← List.drop_drop, hd]; rfl
       have := via.step (a := 1) (g := fun l => c :: l) (r' := txtM fr r (dec mo')) (by rw [hd, jqQ h0 h126 hpl]; exact rqa)
       rw [hd4]
       simpa using this
    ·rw [decide_eq_false hin2, if_neg (by decide)]
     refine fin (gqo ?_)
     rw [hd]
     refine bqf ⟨?_, fun z => hin2 (List.mem_append.mpr (.inl (List.mem_append.mpr (.inr z)))), fun z => hin2 (List.mem_append.mpr (.inr (List.mem_singleton.mpr z)))⟩
     cases hi2 : isPl c with
     | false => rfl
     | true => exact absurd (List.mem_append.mpr (.inl (List.mem_append.mpr (.inl ((rqp hc).mpr hi2))))) hin2
theorem cqP (g : G w K mg) : g.dqu.Ok P w base 5 (sqX K) := by
 refine g.dqu.F.ok oql (fun vs H Q E h => ?_) (fun cdv A outer s H vs Q E hr h => ?_)
 ·obtain ⟨x, v, rfl, _⟩ := h; rfl
 ·obtain ⟨x, v, rfl, hI, wf, sz, k⟩ := h
  refine ⟨_, (aqF (aql (i := 1) oql.nd rfl (Or.inl rfl) (aq4 (aqI (aqv g.cq3 (eqe g) hr rfl (aqa (pv 0) aqb))) (aqn (aqJ (K := K) rfl) (aqD (aqj (K := K) rfl) (pv 0) (aqf (v := hqA) rfl g.fq4 ⟨_, rfl⟩) (fun _ _ => rfl)) aqs) aqs))
   (aqd (aqk (aqn (aqJ (K := K) rfl) (aqn (aqJ (K := K) rfl) (aqn (aqJ (K := K) rfl) (aqn (aqJ (K := K) rfl) (pv 1) (aqv g.dq9 (jqa g) hr rfl (aqa (aqD (aqj (K := K) rfl) (pv 0) (aqf (v := jqV) rfl g.iqu ⟨_, rfl⟩) (fun _ _ => rfl)) (aqa (aqD (aqj (K := K) rfl) (pv 0) (aqf (v := rqy) rfl g.oqe ⟨_, rfl⟩) (fun _ _ => rfl)) aqb)))) (aqv g.fqL (kqN g) hr rfl (aqa (aqD (aqj (K := K) rfl) (pv 0) (aqf (v := mqo) rfl g.lqv ⟨_, rfl⟩) (fun _ _ => rfl)) aqb))) (aqv g.cqM (gqN g) hr rfl (aqa (aqD (aqj (K := K) rfl) (pv 0) (aqf (v := dqP) rfl g.cq4 ⟨_, rfl⟩) (fun _ _ => rfl)) aqb))) (aqv g.eqS (jq8 g) hr rfl (aqa (aqD (aqj (K := K) rfl) (pv 0) (aqf (v := rqr) rfl g.oqW ⟨_, rfl⟩) (fun _ _ => rfl)) aqb)))))), ?_⟩
  obtain ⟨p, w, q, rfl, hp, hwk, i4⟩ := fqR hI
  obtain ⟨pw, ps, rfl, hw, hs⟩ := jqY hwk
  have hlen := sz.all
  rw [Ad.shw] at hlen
  simp only [List.length_append] at hlen
  have c1 : Str.ofString ":" = ⟨[58].toArray⟩ := by decide +kernel
  rw [c1]
  walk_at "rd"
  refine ⟨fun σ H' => H' = H ∧ σ = [some (.ref p), some (.str ⟨(schT x.scheme).toArray⟩)], ?_, ?_⟩
  ·refine ⟨p, x.scheme, _, rfl, hp, _, rfl, ?_⟩
   by_cases hh : x.scheme = []
   ·refine ite2 (fun z => absurd hh (by simpa using z)) (fun _ => ⟨rfl, ?_⟩)
    rw [hh]; rfl
   ·refine ite2 (fun _ => ?_) (fun z => absurd hh (by simpa using z))
    have e : schT x.scheme = x.scheme ++ [58] := by simp [schT, hh]
    refine ⟨_, _, .inr hp, rfl, ?_⟩
    rw [show (⟨#[58]⟩ : Str) = ⟨[58].toArray⟩ from rfl]
    walk_at "rd"
    rw [e, List.length_append] at hlen
    refine ⟨aqp (by simp at hlen ⊢; lia), ?_⟩
    rw [e]
  rintro σ H' ⟨rfl, rfl⟩
  walk_at "rd"
  refine ⟨_, _, .inr hp, rfl, _, _, .inr hp, rfl, x.house, x.door, rfl, fun l e => ⟨(wf.hou l e).1.2, (wf.hou l e).2⟩, wf.doo, fun H1 s1 => ?_⟩
  walk_at "rd"
  refine ⟨aqp (by simp; lia), _, _, .inr (s1.tup hp), rfl, x.rooted, x.ends, x.steps, pw, ps, rfl, s1.tup hw, s1.tup hs, fun s h => ⟨sz.stp s h, (wf.stp s h).2⟩, sz.num, by show x.wayT.length ≤ 90000; lia, fun H2 s2 => ?_⟩
  walk_at "rd"
  refine ⟨aqp (by show _ + x.wayT.length ≤ _; simp; lia), _, _, .inr ((s1.trans s2).tup hp), rfl, x.quest, q, rfl, i4.mono (s1.trans s2), fun ps e => ⟨(sz.que ps e).1, fun q hq => ⟨wf.que ps e q hq, (sz.que ps e).2 q hq⟩⟩, by lia, fun H3 s3 => ?_⟩
  walk_at "rd"
  refine ⟨aqp (by show _ + (queT x.quest).length ≤ _; simp [Ad.wayT] at hlen ⊢; lia), _, _, .inr (((s1.trans s2).trans s3).tup hp), rfl, x.mark, rfl, fun l e => ⟨sz.mar l e, wf.mar l e⟩, fun H4 s4 => ?_⟩
  walk_at "rd"
  refine ⟨aqp (by simp [Ad.wayT] at hlen ⊢; lia), ?_⟩
  have := k H4 (((s1.trans s2).trans s3).trans s4)
  rw [Ad.shw] at this
  simpa [Ad.wayT] using this
theorem jqX (g : G w K mg) : FnOk P w K mg base (CXN P w base) 5 g.cqs.a g.cqs.fd ["cursor", "must_be_rooted"] (gqe K g.aqr g.aqg) := by
 refine g.cqs.F.okn bqD (fun vs H Q E h => ?_) (fun cdv A outer s H vs Q E hr h => ?_)
 ·obtain ⟨p, t, i, must, rfl, _⟩ := h; rfl
 ·obtain ⟨p, t, i, must, rfl, hcur, hi, hl, h128, k1, k2⟩ := h
  refine ⟨_, (aqF (aql (i := 2) bqD.nd rfl (Or.inl rfl) (aq5 (pv 0) g.aqi g.aqw (aqC g) (hr.mono (by decide)) g.aqB .nil pass0 (aqa aqs aqb)))
   (aqF (aqO (PW.pt (gqS (aqI (pv 1)) (fqD (bqY (aqI (pv 2))))))
    (aqd (aqk (bqa (aqa dqQ (aqa (bqa aqb) (aqa dqQ aqb)))))) aqu)
   (aqc (aql (i := 3) bqD.nd rfl (Or.inl rfl) (cq5 aqb))
   (aqc (aql (i := 4) bqD.nd rfl (Or.inl rfl) (pv 2))
   (aqF (aql (i := 5) bqD.nd rfl (Or.inl rfl) (bqr (dvs := [.non]) (bqu g) (hr.mono (by decide)) rfl g.bqI g.bqk.kp g.bqP (.cons rfl .nil) aqy (aqa (pv 0) (aqa (aqf (v := cq8) rfl g.dqk ⟨_, rfl⟩) aqb))))
   (aqc (hqE PassesOwn.leaving (aqm fqF (pv 5) aqs (nomark _))
   (aqc (dqG (cqI (K := K) rfl PySem.F.plainAttrs_list PySem.F.slot_list_append PySem.F.type_list_append cqK (pv 3) (aqa (pv 5) aqb)))
   (aqc (aql (i := 4) bqD.nd rfl (Or.inl rfl) (aq5 (pv 0) g.aqi g.aqw (aqC g) (hr.mono (by decide)) g.aqB .nil pass0 (aqa aqs aqb)))
   (aqd (aql (i := 5) bqD.nd rfl (Or.inl rfl) (bqr (dvs := [.non]) (bqu g) (hr.mono (by decide)) rfl g.bqI g.bqk.kp g.bqP (.cons rfl .nil) aqy (aqa (pv 0) (aqa (aqf (v := cq8) rfl g.dqk ⟨_, rfl⟩) aqb))))))))
   (aqd (aqk (bqa (aqa (pv 2) (aqa (cqg (dqi (K := K) rfl) rfl g.gqs gqf (aqa (pv 3) aqb)) (aqa (pv 4) aqb)))))))))))), ?_⟩
  have eF : cq8 = .str ⟨frS.toArray⟩ := by
   show V.str (Str.ofString _) = _
   unfold frS; simp
  have e1 : Str.ofString "/" = ⟨[47].toArray⟩ := by decide +kernel
  rw [eF, e1]
  walk_at "rd"
  refine ⟨fun σ H1 => SameBut p H H1 ∧ ∃ (j : Nat) (r : Bool), σ = [some (.ref p), some (.bl must), some (.bl r), none, none, none] ∧ Cur H1 g.aqr p t j ∧ j ≤ t.length ∧ ((r = true ∧ (t.drop i).head? = some 47 ∧ j = i + 1) ∨ (r = false ∧ ¬ (t.drop i).head? = some 47 ∧ j = i)), ?_, ?_⟩
  ·refine aqN hcur ⟨p, t, [47], i, rfl, hcur, hi, hl, fun hp H1 s1 c1 => ⟨s1, i + 1, true, rfl, c1, ?_, .inl ⟨rfl, take1.mp hp, rfl⟩⟩, fun hp => ⟨SameBut.refl _ _, i, false, rfl, hcur, hi, .inr ⟨rfl, fun z => hp (take1.mpr z), rfl⟩⟩⟩
   have := congrArg List.length hp
   rw [List.length_take, List.length_drop] at this
   simp only [List.length_singleton] at this
   lia
  rintro σ H1 ⟨s1, j, r, rfl, c1, hj, hr⟩
  walk_at "rd"
  refine ⟨fun σ H2 => H2 = H1 ∧ ¬ (must = true ∧ r = false) ∧ σ = [some (.ref p), some (.bl must), some (.bl r), none, none, none], ?_, ?_⟩
  ·have fin : must = true → r = false → (∀ u H', SameBut p H H' → Cur H' g.aqr p t j → IsT H' (wayOf (true, [], true)) u → Q u H') := fun hm h0 u H' sb cu hu => by
    rcases hr with ⟨z, _⟩ | ⟨_, hh, rfl⟩
    ·rw [h0] at z; cases z
    ·exact k1 (true, [], true) 0 (by unfold wayM; rw [if_neg hh, if_pos hm]) H' sb cu u hu
   cases must with
   | true =>
    rw [if_pos rfl]
    cases r with
    | true => exact ⟨rfl, by simp, rfl⟩
    | false =>
     rw [if_pos rfl]
     exact ⟨by decide, fun pt Ha n1 sa hpt => ⟨by decide, fun pw Hb nb sb' hpw => fin rfl rfl _ Hb ((s1.trans sa.but).trans sb'.but) ((c1.same sa).same sb') (wayT' (ss := []) hpw (sb' _ _ hpt))⟩⟩
   | false =>
    rw [if_neg (by decide)]
    exact ⟨rfl, by simp, rfl⟩
  rintro σ H2 ⟨rfl, hmr, rfl⟩
  walk_at "rd"
  obtain ⟨tot, htot⟩ : ∃ tot, tot = stpF ((t.drop i).length + 1) (t.drop j) r := ⟨_, rfl⟩
  have ew : wayM must (t.drop i) = sh (j - i) (mp (fun x => (r, x)) tot) := by
   unfold wayM
   rcases hr with ⟨rfl, hh, rfl⟩ | ⟨rfl, hh, rfl⟩
   ·rw [if_pos hh, htot, show i + 1 - i = 1 by lia, List.drop_drop]
   ·rw [if_neg hh, if_neg (fun z => hmr ⟨z, rfl⟩), htot, Nat.sub_self, sh_0]
  have hij : i ≤ j := by rcases hr with ⟨_, _, rfl⟩ | ⟨_, _, rfl⟩ <;> lia
  have hk1 : ∀ x n, tot = .ok (x, n) → ∀ u H', SameBut p H H' → Cur H' g.aqr p t (j + n) → IsT H' (wayOf (r, x)) u → Q u H' := fun x n e u H' sb cu hu =>
   k1 (r, x) (j - i + n) (by rw [ew, e]; rfl) H' sb (by rw [show i + (j - i + n) = j + n by lia]; exact cu) u hu
  have hk2 : ∀ n, tot = .error n → ∀ d H', SameBut p H H' → H' d = some (.xd [("at", .int ((j + n : Nat) : Int))]) → E (.ref g.aqg) (some d) H' := fun n e d H' sb hx =>
   k2 (j - i + n) (by rw [ew, e]; rfl) d H' sb (by rw [hx, show i + (j - i + n) = j + n by lia])
  refine ⟨by decide, fun q H3 hq s3 hq3 => ?_⟩
  have hqp : q ≠ p := by obtain ⟨dx, hp⟩ := c1; exact (aqq hp hq).symm
  have c3 := c1.same s3
  have sb3 : SameBut p H H3 := s1.trans s3.but
  have hqH : H q = none := s1.free hq hqp
  obtain ⟨W, hW⟩ : ∃ W : Nat → St → Hp → Prop, W = fun m σ H' => ∃ (dn : List (List Nat)) (s : List Nat) (b n : Nat) (en : Bool), σ = [some (.ref p), some (.bl must), some (.bl r), some (.ref q), some (.bl en), some (.str ⟨s.toArray⟩)] ∧ txtM frS (t.drop (j + b)) none = .ok (s, n) ∧ j + b + n ≤ t.length ∧ dn.length ≤ b ∧ (t.drop (j + b)).length ≤ m ∧ Via tot b (fun x => (dn ++ x.1, x.2)) (stpF (m + 1) (t.drop (j + b)) en) ∧ H' q = some (.lst (dn.map sV)) ∧ SameBut p H H' ∧ Cur H' g.aqr p t (j + b + n) := ⟨_, rfl⟩
  have txn : ∀ {b n : Nat} {s : List Nat}, j + b ≤ t.length → txtM frS (t.drop (j + b)) none = .ok (s, n) → j + b + n ≤ t.length := fun {b n s} hb e => by
   have := (eql e).1
   rw [List.length_drop] at this
   lia
  refine ⟨fun σ H4 => ∃ m, W m σ H4, ?_, ?_⟩
  ·refine ⟨p, t, frS, j, none, rfl, c3, hj, hl, h128, mqc, fun s n e H4 s4 c4 => ⟨(t.drop i).length, ?_⟩, fun n e d H4 s4 hx => hk2 n ?_ d H4 (sb3.trans s4) hx⟩
   ·rw [hW]
    refine ⟨[], s, 0, n, r, rfl, e, txn hj e, Nat.le_refl _, by simp only [List.length_drop]; lia, ?_, s4 _ _ hqp hq3, sb3.trans s4, c4⟩
    show Via tot 0 (fun x => x) _
    rw [htot]
    exact Via.refl
   ·rw [htot]
    unfold stpF
    rw [e]
  rintro σ H4 ⟨m, hm⟩
  unfold L2.Later
  rw [L2.pqy]
  refine jq3 W m hm ?_
  rintro m σ H5 hm
  rw [hW] at hm
  obtain ⟨dn, s, b, n, en, rfl, etx, hbn, hdn, hfu, via, hq5, sb5, c5⟩ := hm
  walk_at "rd"
  by_cases hs : s = []
  ·refine ite2 (fun z => absurd (fqv.mpr hs) z) (fun _ => ?_)
   have e2 : stpF (m + 1) (t.drop (j + b)) en = .ok (([], en), n) := by
    conv => lhs; unfold stpF
    rw [etx]; exact if_pos hs
   have e3 := via.ok e2
   exact ⟨_, .inl (.of hq5), fun pt Ha sa hpt => ⟨by decide, fun pw Hb nb sb' hpw => hk1 _ _ e3 _ Hb ((sb5.trans sa.but).trans sb'.but) (by rw [← Nat.add_assoc]; exact (c5.same sa).same sb') (by rw [List.append_nil]; exact wayT' hpw (sb' _ _ hpt))⟩⟩
  ·have hpos := (eql etx).2.2 hs
   have hm0 : ∃ m', m = m' + 1 := by
    refine ⟨m - 1, ?_⟩
    rw [List.length_drop] at hfu
    lia
   obtain ⟨m', rfl⟩ := hm0
   refine ite2 (fun _ => ⟨_, fun _ _ h => h, ⟨_, .of hq5⟩, _, hq5, ?_, ?_⟩) (fun z => absurd (fqv.mp (Classical.not_not.mp z)) hs)
   ·rw [List.length_map]
    exact Nat.lt_of_le_of_lt (show dn.length ≤ 100000 by lia) (by decide)
   have c6 : Cur (upd H5 q (.lst (dn.map sV ++ [sV s]))) g.aqr p t (j + b + n) := by
    obtain ⟨dx, hp⟩ := c5
    exact ⟨dx, by rw [aqt hqp.symm]; exact hp⟩
   have sb6 : SameBut p H (upd H5 q (.lst (dn.map sV ++ [sV s]))) := sb5.upd hqH
   have hq6 : (upd H5 q (.lst (dn.map sV ++ [sV s]))) q = some (.lst ((dn ++ [s]).map sV)) := by rw [aqh, List.map_append]; rfl
   generalize upd H5 q (.lst (dn.map sV ++ [sV s])) = H6 at c6 sb6 hq6 ⊢
   have hdd : (t.drop (j + b)).drop n = t.drop (j + b + n) := List.drop_drop
   refine aqN c6 ⟨p, t, [47], j + b + n, rfl, c6, hbn, hl, fun hp H7 s7 c7 => ?_, fun hp => ?_⟩
   ·have hh : ((t.drop (j + b)).drop n).head? = some 47 := by rw [hdd]; exact take1.mp hp
    have e2 : stpF (m' + 1 + 1) (t.drop (j + b)) en = sh (n + 1) (mp (fun x => (s :: x.1, x.2)) (stpF (m' + 1) (t.drop (j + (b + (n + 1)))) true)) := by
     conv => lhs; unfold stpF
     rw [etx]
     show (if s = [] then _ else _) = _
     rw [if_neg hs, if_pos hh, List.drop_drop, Nat.add_assoc j b (n + 1)]
    have via2 := via.step e2
    have hb7 : j + (b + (n + 1)) ≤ t.length := by
     have := congrArg List.length hp
     rw [List.length_take, List.length_drop] at this
     simp only [List.length_singleton] at this
     lia
    refine ⟨p, t, frS, j + (b + (n + 1)), none, rfl, by rw [show j + (b + (n + 1)) = j + b + n + 1 by lia]; exact c7, hb7, hl, h128, mqc, fun s' n' e' H8 s8 c8 => ⟨m', by lia, ?_⟩, fun n' e' d H8 s8 hx => hk2 (b + (n + 1) + n') (via2.err (by unfold stpF; rw [e'])) d H8 ((sb6.trans s7).trans s8) (by rw [hx, show j + (b + (n + 1)) + n' = j + (b + (n + 1) + n') by lia])⟩
    rw [hW]
    refine ⟨dn ++ [s], s', b + (n + 1), n', true, rfl, e', txn hb7 e', by rw [List.length_append, List.length_singleton]; lia, by rw [List.length_drop] at hfu ⊢; lia, ?_, (s7.trans s8) _ _ hqp hq6, (sb6.trans s7).trans s8, c8⟩
    simpa using via2
   ·have hh : ¬ ((t.drop (j + b)).drop n).head? = some 47 := by rw [hdd]; exact fun z => hp (take1.mpr z)
    have e2 : stpF (m' + 1 + 1) (t.drop (j + b)) en = sh n (mp (fun x => (s :: x.1, x.2)) (stpF (m' + 1) (t.drop (j + (b + n))) false)) := by
     conv => lhs; unfold stpF
     rw [etx]
     show (if s = [] then _ else _) = _
     rw [if_neg hs, if_neg hh, List.drop_drop, Nat.add_assoc j b n]
    have via2 := via.step e2
    have hb7 : j + (b + n) ≤ t.length := by lia
    refine ⟨p, t, frS, j + (b + n), none, rfl, by rw [← Nat.add_assoc]; exact c6, hb7, hl, h128, mqc, fun s' n' e' H8 s8 c8 => ⟨m', by lia, ?_⟩, fun n' e' d H8 s8 hx => hk2 (b + n + n') (via2.err (by unfold stpF; rw [e'])) d H8 (sb6.trans s8) (by rw [hx, show j + (b + n) + n' = j + (b + n + n') by lia])⟩
    rw [hW]
    refine ⟨dn ++ [s], s', b + n, n', false, rfl, e', txn hb7 e', by rw [List.length_append, List.length_singleton]; lia, by rw [List.length_drop] at hfu ⊢; lia, ?_, s8 _ _ hqp hq6, sb6.trans s8, c8⟩
    simpa using via2
theorem eqA (g : G w K mg) : FnOk P w K mg base (CXN P w base) 5 g.aqV.a g.aqV.fd ["cursor"] (iqF K g.aqr g.aqg) := by
 refine g.aqV.F.okn jqi (fun vs H Q E h => ?_) (fun cdv A outer s H vs Q E hr h => ?_)
 ·obtain ⟨p, t, i, rfl, _⟩ := h; rfl
 ·obtain ⟨p, t, i, rfl, hcur, hi, hl, h128, k1, k2⟩ := h
  refine ⟨_, (aqd (aqk (aq4 (aqI (aq5 (pv 0) g.aqi g.aqw (aqC g) (hr.mono (by decide)) g.aqB .nil pass0 (aqa aqs aqb))) (bqr (dvs := [.non]) (bqu g) (hr.mono (by decide)) rfl g.bqI g.bqk.kp g.bqP (.cons rfl .nil) aqy (aqa (pv 0) (aqa (aqf (v := aq3) rfl g.bqo ⟨_, rfl⟩) aqb))) aqM))), ?_⟩
  have eF : aq3 = .str ⟨frQ.toArray⟩ := by
   show V.str (Str.ofString _) = _
   unfold frQ; simp
  have e1 : Str.ofString "=" = ⟨[61].toArray⟩ := by decide +kernel
  rw [eF, e1]
  walk_at "rd"
  refine aqN hcur ⟨p, t, [61], i, rfl, hcur, hi, hl, fun hp H1 s1 c1 => ⟨_, rfl, ?_⟩, fun hp => ⟨_, rfl, ?_⟩⟩
  ·rw [if_pos rfl]
   have h1 := take1.mp hp
   have hi1 : i + 1 ≤ t.length := by
    have := congrArg List.length hp
    rw [List.length_take, List.length_drop] at this
    simp only [List.length_singleton] at this
    lia
   have em : valM (t.drop i) = sh 1 (mp some (txtM frQ (t.drop (i + 1)) none)) := by unfold valM; rw [if_pos h1, List.drop_drop]
   refine ⟨p, t, frQ, i + 1, none, rfl, c1, hi1, hl, h128, lqT, fun s n e H2 s2 c2 => k1 (some s) (1 + n) (by rw [em, e]; rfl) H2 (s1.trans s2) (by rw [← Nat.add_assoc]; exact c2), fun n e d H2 s2 hx => k2 (1 + n) (by rw [em, e]; rfl) d H2 (s1.trans s2) (by rw [hx, Nat.add_assoc])⟩
  ·rw [if_neg (by decide)]
   exact k1 none 0 (by unfold valM; rw [if_neg (fun z => hp (take1.mpr z))]) H (SameBut.refl _ _) hcur
theorem iq4 (g : G w K mg) : FnOk P w K mg base (CXN P w base) 5 g.cqb.a g.cqb.fd ["cursor"] (iqW K g.aqr g.aqg) := by
 refine g.cqb.F.okn kqg (fun vs H Q E h => ?_) (fun cdv A outer s H vs Q E hr h => ?_)
 ·obtain ⟨p, t, i, rfl, _⟩ := h; rfl
 ·obtain ⟨p, t, i, rfl, hcur, hi, hl, h128, k1, k2⟩ := h
  refine ⟨_, (aqd (aqk (aq4 (aqI (aq5 (pv 0) g.aqi g.aqw (aqC g) (hr.mono (by decide)) g.aqB .nil pass0 (aqa aqs aqb))) (bqr (dvs := [.non]) (bqu g) (hr.mono (by decide)) rfl g.bqI g.bqk.kp g.bqP (.cons rfl .nil) aqy (aqa (pv 0) (aqa (aqf (v := eqJ) rfl g.fqf ⟨_, rfl⟩) aqb))) aqM))), ?_⟩
  have eF : eqJ = .str ⟨frM.toArray⟩ := by
   show V.str (Str.ofString _) = _
   unfold frM; simp
  have e1 : Str.ofString "#" = ⟨[35].toArray⟩ := by decide +kernel
  rw [eF, e1]
  walk_at "rd"
  refine aqN hcur ⟨p, t, [35], i, rfl, hcur, hi, hl, fun hp H1 s1 c1 => ⟨_, rfl, ?_⟩, fun hp => ⟨_, rfl, ?_⟩⟩
  ·rw [if_pos rfl]
   have h1 := take1.mp hp
   have hi1 : i + 1 ≤ t.length := by
    have := congrArg List.length hp
    rw [List.length_take, List.length_drop] at this
    simp only [List.length_singleton] at this
    lia
   have em : marM (t.drop i) = sh 1 (mp some (txtM frM (t.drop (i + 1)) none)) := by unfold marM; rw [if_pos h1, List.drop_drop]
   refine ⟨p, t, frM, i + 1, none, rfl, c1, hi1, hl, h128, rq9, fun s n e H2 s2 c2 => k1 (some s) (1 + n) (by rw [em, e]; rfl) H2 (s1.trans s2) (by rw [← Nat.add_assoc]; exact c2), fun n e d H2 s2 hx => k2 (1 + n) (by rw [em, e]; rfl) d H2 (s1.trans s2) (by rw [hx, Nat.add_assoc])⟩
  ·rw [if_neg (by decide)]
   exact k1 none 0 (by unfold marM; rw [if_neg (fun z => hp (take1.mpr z))]) H (SameBut.refl _ _) hcur
theorem cqJ (g : G w K mg) : FnOk P w K mg base (CXN P w base) 5 g.bqq g.aqS ["cursor", "free", "most"] (eqR K g.aqr g.aqg) := by
 refine g.bqm.okn cqU (fun vs H Q E h => ?_) (fun cdv A outer s H vs Q E hr h => ?_)
 ·obtain ⟨p, t, fr, i, mo, rfl, _⟩ := h; rfl
 ·obtain ⟨p, t, fr, i, mo, rfl, hcur, hi, hl, h128, hfl, k1, k2⟩ := h
  refine ⟨_, (aqc (aql (i := 3) cqU.nd rfl (Or.inl rfl) (bqr (bqu g) (hr.mono (by decide)) rfl g.bqI g.bqk.kp g.gqT .nil aqy (aqa (pv 0) (aqa (pv 1) (aqa (pv 2) aqb)))))
   (aqc (aqO (aqm cqH (pv 3) aqs (nomark _))
    (aqd (dqO cq2 rfl g.bqb g.bq6 (aqG g) (hr.mono (by decide)) g.aqE rfl pass0 rfl (aqa (bqt (pv 0) rfl) aqb))) aqu)
   (aqd (aqk (pv 3))))), ?_⟩
  walk_at "rd"
  refine ⟨p, t, fr, i, mo, rfl, hcur, hi, hl, h128, hfl, fun s n e H1 s1 c1 => ?_, fun n e d H1 s1 hx => k2 n (by unfold filM; rw [e]) d H1 s1 hx⟩
  walk_at "rd"
  by_cases hs : s = []
  ·rw [if_pos (fqv.mpr hs)]
   exact aqQ c1 g.aqi g.aqo (cqY fun d H' sm hx => k2 n (by unfold filM; rw [e]; exact if_pos hs) d H' (s1.trans sm.but) hx)
  ·rw [if_neg (fun z => hs (fqv.mp z))]
   exact k1 s n (by unfold filM; rw [e]; exact if_neg hs) H1 s1 c1
theorem fq5 (g : G w K mg) : g.fqN.Ok P w base 5 (qqn K) := by
 refine g.fqN.F.ok kqo (fun vs H Q E h => ?_) (fun cdv A outer s H vs Q E hr h => ?_)
 ·obtain ⟨x, v, rfl, _⟩ := h; rfl
 ·obtain ⟨x, v, rfl, hI, wf, hn, k⟩ := h
  refine ⟨_, (aqc (aql (i := 1) kqo.nd rfl (Or.inl rfl) (aqD (aqj (K := K) rfl) (pv 0) (aqf (v := jqV) rfl g.iqu ⟨_, rfl⟩) (fun _ _ => rfl)))
   (aqF (aql (i := 2) kqo.nd rfl (Or.inl rfl) (aq4 (aqm cqu (pv 1) aqM (nomark _)) aqM (lq0 (K := K) rfl PySem.F.plainAttrs_str PySem.F.slot_str_lower PySem.F.type_str_lower mqY (pv 1))))
   (aqd (aqk (aqv g.cqq (eqm g) hr rfl (aqa (aqn (gqD (K := K) rfl) (bqa (aqa (lq0 (K := K) rfl PySem.F.plainAttrs_str PySem.F.slot_str_lower PySem.F.type_str_lower mqY (aqD (aqj (K := K) rfl) (pv 0) (aqf (v := hqA) rfl g.fq4 ⟨_, rfl⟩) (fun _ _ => rfl))) (aqa (pv 2) aqb))) (cqh (gqx (K := K) rfl) (pv 0) (cqQ (aqf (v := rqy) rfl g.oqe ⟨_, rfl⟩)) dqz)) aqb)))))), ?_⟩
  obtain ⟨p, w, q, rfl, hp, hw, hq⟩ := fqR hI
  have low : ∀ l : List Nat, (l.map PyProof.Rows.lo1) = lowT l := fun l => rfl
  have hsc : ∀ c ∈ x.scheme, c < 128 := fun c hc => gqb (nqh (wf.sch.2.1 c hc))
  walk_at "rd"
  refine ⟨_, _, .inr hp, rfl, ?_⟩
  refine ⟨fun σ H1 => H1 = H ∧ σ = [some (.ref p), some (otV x.house), some (otV (x.house.map lowT))], ?_, ?_⟩
  ·walk_at "rd"
   cases hh : x.house with
   | none => exact ite2 (fun _ => rfl) (fun z => absurd rfl z)
   | some l =>
    refine ite2 (fun z => absurd z (by simp [otV])) (fun _ => ?_)
    have hl := wf.hou l hh
    refine ⟨rfl, ?_⟩
    show rLower (.str ⟨l.toArray⟩) [] H _
    walk_at "rd"
    refine ⟨fun c hc => gqb (hl.2 c hc), by lia, ?_⟩
    rw [low]
    rfl
  rintro σ H1 ⟨rfl, rfl⟩
  walk_at "rd"
  refine ⟨_, _, .inr hp, rfl, ?_⟩
  walk_at "rd"
  rw [low]
  refine ⟨hsc, by have := wf.sch.1; lia, by decide, fun p2 H2 hn2 s2 hp2 => ⟨_, s2.tup hp, fun p3 H3 s3 hp3 => ⟨_, _, .of (s3 _ _ hp2), hp3, (show 6 ≤ sizeLine by decide), fun p4 H4 s4 hp4 => ?_⟩⟩⟩
  have sm := (s2.trans s3).trans s4
  refine ⟨{ x with scheme := lowT x.scheme, house := x.house.map lowT }, _, rfl, adK (x := { x with scheme := lowT x.scheme, house := x.house.map lowT }) hp4 (hw.mono sm) (hq.mono sm), hn, fun u H5 s5 hu => k u H5 (sm.trans s5) hu⟩
theorem lqU (g : G w K mg) : g.gqQ.Ok P w base 5 (mqv K) := by
 refine g.gqQ.F.ok mqe (fun vs H Q E h => ?_) (fun cdv A outer s H vs Q E hr h => ?_)
 ·obtain ⟨b, w, vb, vw, rfl, _⟩ := h; rfl
 ·obtain ⟨b, w, vb, vw, rfl, hB, hW, hs, hb, hw, k⟩ := h
  refine ⟨_, (aqc (aqO (aqm (rqb (K := K) rfl hr.units) (pv 1) (aqf (v := .ref g.fq0) rfl g.jq4 rfl) (nomark _))
    (aqd (aqk (pv 0))) aqu)
   (aqc (aqO (aqI (aqD (aqj (K := K) rfl) (pv 1) (aqf (v := gqd) rfl g.fqn ⟨_, rfl⟩) (fun _ _ => rfl)))
    (aqd (aqk (pv 1))) aqu)
   (aqd (aqk (bqa (aqa dqQ (aqa (aqn (gqD (K := K) rfl) (aqv g.kqr (pqq g) hr rfl (aqa (pv 0) aqb)) (aqD (aqj (K := K) rfl) (pv 1) (aqf (v := hq9) rfl g.gqr ⟨_, rfl⟩) (fun _ _ => rfl))) (aqa (aqD (aqj (K := K) rfl) (pv 1) (aqf (v := mqD) rfl g.kq0 ⟨_, rfl⟩) (fun _ _ => rfl)) aqb)))))))), ?_⟩
  walk_at "rd"
  refine ⟨wayOf w, wayOf noWay, hW, g.jq0 H, jqx (r := w.1) (e := w.2.2) (ss := w.2.1) hs, by decide, _, rfl, ?_⟩
  rw [mqN]
  by_cases e : w = noWay
  ·rw [if_pos (decide_eq_true e)]
   refine k _ H (Same.refl _) ?_
   rw [wayFrom, if_pos e]; exact hB
  ·rw [if_neg (by simpa using e)]
   obtain ⟨pw, ps, rfl, hpw, hps⟩ := jqY (r := w.1) (e := w.2.2) (ss := w.2.1) hW
   walk_at "rd"
   refine ⟨_, _, .inr hpw, rfl, _, rfl, ?_⟩
   by_cases h1 : w.1 = true
   ·rw [if_pos h1]
    exact k _ H (Same.refl _) (by rw [wayFrom, if_neg e, if_pos h1]; exact hW)
   ·rw [if_neg h1]
    have hhl := jqu b
    refine ⟨b, vb, rfl, hB, by lia, fun ph H1 s1 hph => ⟨_, _, .inr (s1.tup hpw), rfl, ph, ps, _, _, rfl, rfl, hph, s1.tup hps, aqp (by simp; lia), fun pc H2 s2 hpc => ⟨_, _, .inr ((s1.trans s2).tup hpw), rfl, by decide, fun pr H3 hn3 s3 hpr => k _ H3 ((s1.trans s2).trans s3) ?_⟩⟩⟩
    rw [wayFrom, if_neg e, if_neg h1]
    exact wayK (.of hpr) (by rw [List.map_append]; exact s3.tup hpc)
theorem iqe (g : G w K mg) : FnOk P w K mg base (CXN P w base) 6 g.bqM.a g.bqM.fd ["cursor"] (iqB K g.aqr g.aqg) := by
 refine g.bqM.F.okn iq1 (fun vs H Q E h => ?_) (fun cdv A outer s H vs Q E hr h => ?_)
 ·obtain ⟨p, t, i, rfl, _⟩ := h; rfl
 ·obtain ⟨p, t, i, rfl, hcur, hi, hl, h128, k1, k2⟩ := h
  refine ⟨_, (aqc (aqO (bqY (aqI (aq5 (pv 0) g.aqi g.aqw (aqC g) (hr.mono (by decide)) g.aqB .nil pass0 (aqa aqs aqb))))
    (aqd (aqk aqM)) aqu)
   (aqd (aqk (bqr (cqJ g) (hr.mono (by decide)) rfl g.bq4 g.bqm.kp g.cq9 .nil aqy (aqa (pv 0) (aqa aqs (aqa (aqf (v := iqd) rfl g.eqF ⟨_, rfl⟩) aqb))))))), ?_⟩
  have e1 : Str.ofString "//" = ⟨[47, 47].toArray⟩ := by decide +kernel
  rw [e1]
  walk_at "rd"
  refine aqN hcur ⟨p, t, [47, 47], i, rfl, hcur, hi, hl, fun hp H1 s1 c1 => ⟨_, rfl, ?_⟩, fun hp => ⟨_, rfl, ?_⟩⟩
  ·rw [if_neg (by decide)]
   have h1 : (t.drop i).take 2 = [47, 47] := hp
   have hi1 : i + 2 ≤ t.length := by
    have := congrArg List.length h1
    rw [List.length_take, List.length_drop] at this
    simp only [List.length_cons, List.length_nil] at this
    lia
   have em : houM (t.drop i) = sh 2 (mp some (filM [] (t.drop (i + 2)) (some 60))) := by unfold houM; rw [if_pos h1, List.drop_drop]
   refine ⟨p, t, [], i + 2, some 60, rfl, c1, hi1, hl, h128, by decide, fun s n e H2 s2 c2 => k1 (some s) (2 + n) (by rw [em, e]; rfl) H2 (s1.trans s2) (by rw [← Nat.add_assoc]; exact c2), fun n e d H2 s2 hx => k2 (2 + n) (by rw [em, e]; rfl) d H2 (s1.trans s2) (by rw [hx, Nat.add_assoc])⟩
  ·rw [if_pos rfl]
   exact k1 none 0 (by unfold houM; exact if_neg hp) H (SameBut.refl _ _) hcur
theorem fqT (g : G w K mg) : FnOk P w K mg base (CXN P w base) 6 g.aq6.a g.aq6.fd ["cursor"] (gqg K g.aqr g.aqg) := by
 refine g.aq6.F.okn bqR (fun vs H Q E h => ?_) (fun cdv A outer s H vs Q E hr h => ?_)
 ·obtain ⟨p, t, i, rfl, _⟩ := h; rfl
 ·obtain ⟨p, t, i, rfl, hcur, hi, hl, h128, k1, k2⟩ := h
  refine ⟨_, (aqc (aqO (bqY (aqI (aq5 (pv 0) g.aqi g.aqw (aqC g) (hr.mono (by decide)) g.aqB .nil pass0 (aqa aqs aqb))))
    (aqd (aqk aqM)) aqu)
   (aqc (aql (i := 1) bqR.nd rfl (Or.inl rfl) (bqr (dvs := [.non]) (bqu g) (hr.mono (by decide)) rfl g.bqI g.bqk.kp g.bqP (.cons rfl .nil) aqy (aqa (pv 0) (aqa (aqf (v := aq3) rfl g.bqo ⟨_, rfl⟩) aqb))))
   (aqF (aqO (aqm cqH (pv 1) aqs (nomark _))
    (aqd (aqk (bqa aqb))) aqu)
   (aqF (aql (i := 2) bqR.nd rfl (Or.inl rfl) (cq5 (aqa (bqa (aqa (pv 1) (aqa (bqr (eqA g) (hr.mono (by decide)) rfl g.aqV.m g.aqV.F.kp g.aqV.b .nil aqy (aqa (pv 0) aqb)) aqb))) aqb)))
   (aqc (hqE PassesOwn.leaving (aqI (aq5 (pv 0) g.aqi g.aqw (aqC g) (hr.mono (by decide)) g.aqB .nil pass0 (aqa aqs aqb)))
   (aqc (aql (i := 1) bqR.nd rfl (Or.inl rfl) (bqr (dvs := [.non]) (cqJ g) (hr.mono (by decide)) rfl g.bq4 g.bqm.kp g.cqT (.cons rfl .nil) aqy (aqa (pv 0) (aqa (aqf (v := aq3) rfl g.bqo ⟨_, rfl⟩) aqb))))
   (aqd (dqG (cqI (K := K) rfl PySem.F.plainAttrs_list PySem.F.slot_list_append PySem.F.type_list_append cqK (pv 2) (aqa (bqa (aqa (pv 1) (aqa (bqr (eqA g) (hr.mono (by decide)) rfl g.aqV.m g.aqV.F.kp g.aqV.b .nil aqy (aqa (pv 0) aqb)) aqb))) aqb))))))
   (aqd (aqk (cqg (dqi (K := K) rfl) rfl g.gqs gqf (aqa (pv 2) aqb))))))))), ?_⟩
  have eF : aq3 = .str ⟨frQ.toArray⟩ := by
   show V.str (Str.ofString _) = _
   unfold frQ; simp
  have e1 : Str.ofString "?" = ⟨[63].toArray⟩ := by decide +kernel
  have e2 : Str.ofString "&" = ⟨[38].toArray⟩ := by decide +kernel
  rw [eF, e1, e2]
  have pl : ∀ {j c : Nat}, (t.drop j).take [c].length = [c] → j + 1 ≤ t.length := fun {j c} hp => by
   have := congrArg List.length hp
   rw [List.length_take, List.length_drop] at this
   simp only [List.length_singleton] at this
   lia
  have tl : ∀ {j n : Nat} {s fr : List Nat}, j ≤ t.length → txtM fr (t.drop j) none = .ok (s, n) → j + n ≤ t.length := fun {j n s fr} hb e => by
   have := (eql e).1
   rw [List.length_drop] at this
   lia
  have vl : ∀ {j n : Nat} {o : Option (List Nat)}, j ≤ t.length → valM (t.drop j) = .ok (o, n) → j + n ≤ t.length := fun {j n o} hb e => by
   have := rqw e
   rw [List.length_drop] at this
   lia
  walk_at "rd"
  refine aqN hcur ⟨p, t, [63], i, rfl, hcur, hi, hl, fun hp H1 s1 c1 => ⟨_, rfl, ?_⟩, fun hp => ⟨_, rfl, ?_⟩⟩
  ·rw [if_neg (by decide)]
   have hi1 := pl hp
   have em : queM (t.drop i) = sh 1 (bdR (txtM frQ (t.drop (i + 1)) none) fun s n => if s = [] then .ok (some [], 0) else bdR (valM (t.drop (i + (1 + n)))) fun v m => mp (fun l => some ((s, v) :: l)) (prsF ((t.drop i).length + 1) (t.drop (i + (1 + n + m))))) := by
    unfold queM
    rw [if_pos (take1.mp hp)]
    simp only [List.drop_drop]
   refine ⟨p, t, frQ, i + 1, none, rfl, c1, hi1, hl, h128, lqT, fun s n e H2 s2 c2 => ?_, fun n e d H2 s2 hx => k2 (1 + n) (by rw [em, e]; rfl) d H2 (s1.trans s2) (by rw [hx, Nat.add_assoc])⟩
   have s12 := s1.trans s2
   have hi2 := tl hi1 e
   by_cases hs : s = []
   ·refine ⟨fun _ _ => False, ?_, fun _ _ z => z.elim⟩
    rw [L2.kqa, decide_eq_true (fqv.mpr hs)]
    refine ⟨_, rfl, ?_⟩
    rw [if_pos rfl]
    refine ⟨by decide, fun pt Ha n1 sa hp1 => k1 (some []) (1 + n) ?_ Ha (s12.trans sa.but) (by rw [← Nat.add_assoc]; exact c2.same sa) _ (.tup hp1 .nil)⟩
    rw [em, e]
    show sh 1 (sh n (if s = [] then _ else _)) = _
    rw [if_pos hs]
    rfl
   refine ⟨fun σ H' => H' = H2 ∧ σ = [some (.ref p), some (.str ⟨s.toArray⟩), none], ?_, ?_⟩
   ·rw [L2.kqa]
    refine ⟨_, rfl, ?_⟩
    rw [if_neg (by rw [decide_eq_false (fun z => hs (fqv.mp z))]; decide)]
    exact ⟨rfl, rfl⟩
   rintro σ H' ⟨rfl, rfl⟩
   have em2 : queM (t.drop i) = sh (1 + n) (bdR (valM (t.drop (i + (1 + n)))) fun v m => mp (fun l => some ((s, v) :: l)) (prsF ((t.drop i).length + 1) (t.drop (i + (1 + n + m))))) := by
    rw [em, e]
    show sh 1 (sh n (if s = [] then _ else _)) = _
    rw [if_neg hs, pqw]
   walk_at "rd"
   obtain ⟨W, hW⟩ : ∃ W : Nat → St → Hp → Prop, W = fun m σ H4 => ∃ (dn : List (List Nat × Option (List Nat))) (b : Nat) (q : Addr) (v1 : Option V) (vs : List V), σ = [some (.ref p), v1, some (.ref q)] ∧ Cur H4 g.aqr p t (i + b) ∧ i + b ≤ t.length ∧ dn.length ≤ b ∧ (t.drop (i + b)).length < m ∧ Via (queM (t.drop i)) b (fun l => some (dn ++ l)) (prsF m (t.drop (i + b))) ∧ H4 q = some (.lst vs) ∧ PrL H4 vs dn ∧ SameBut p H H4 ∧ H q = none ∧ q ≠ p := ⟨_, rfl⟩
   refine ⟨fun σ H4 => ∃ m, W m σ H4, ?_, ?_⟩
   ·refine ⟨p, t, i + 1 + n, rfl, c2, hi2, hl, h128, fun o m e' H3 s3 c3 => ⟨by decide, fun p1 Ha n1 sa hp1 => ⟨by decide, fun q Hb nq sb hq => ⟨(t.drop i).length + 1, ?_⟩⟩⟩, fun m e' d H3 s3 hx => k2 (1 + n + m) (by rw [em2, ← Nat.add_assoc, e']; rfl) d H3 (s12.trans s3) (by rw [hx, show i + 1 + n + m = i + (1 + n + m) by lia])⟩
    rw [hW]
    have hi3 := vl hi2 e'
    have hqp : q ≠ p := by obtain ⟨dx, hp⟩ := c3.same sa; exact (aqq hp nq).symm
    have sbA : SameBut p H Ha := (s12.trans s3).trans sa.but
    have hk := (eql e).2.2 hs
    refine ⟨[(s, o)], 1 + n + m, q, _, _, rfl, by rw [show i + (1 + n + m) = i + 1 + n + m by lia]; exact (c3.same sa).same sb, by lia, by show 1 ≤ _; lia, by simp only [List.length_drop]; lia, ?_, hq, ⟨rfl, fun i' a' y z1 z2 => ?_⟩, sbA.trans sb.but, sbA.free nq hqp, hqp⟩
    ·show _ = sh _ (mp _ _)
     rw [em2, ← Nat.add_assoc, e']
     show sh (1 + n) (sh m (mp _ _)) = _
     rw [pqw]
     rfl
    ·cases i' with
     | zero =>
      cases z1
      cases z2
      exact .tup (sb _ _ hp1) (.cons (.str _) (.cons (lq9 _) .nil))
     | succ j => cases z1
   rintro σ H4 ⟨m, hm⟩
   unfold L2.Later
   rw [L2.pqy]
   refine jq3 W m hm ?_
   rintro m σ H5 hm
   rw [hW] at hm
   obtain ⟨dn, b, q, v1, vs, rfl, c5, hj5, hdn, hfu, via, hq5, hpl, sb5, hqH, hqp⟩ := hm
   have hdl : dn.length ≤ 100000 := by lia
   obtain ⟨m', rfl⟩ : ∃ m', m = m' + 1 := ⟨m - 1, by lia⟩
   walk_at "rd"
   refine aqN c5 ⟨p, t, [38], i + b, rfl, c5, hj5, hl, fun hp H6 s6 c6 => ⟨_, rfl, ?_⟩, fun hp => ⟨_, rfl, ?_⟩⟩
   ·rw [if_pos rfl]
    have hi6 := pl hp
    have ep : prsF (m' + 1) (t.drop (i + b)) = sh 1 (bdR (filM frQ (t.drop (i + b + 1)) none) fun s n => bdR (valM (t.drop (i + b + (1 + n)))) fun v m => mp (fun l => (s, v) :: l) (prsF m' (t.drop (i + b + (1 + n + m))))) := by
     conv => lhs; unfold prsF
     rw [if_pos (take1.mp hp)]
     simp only [List.drop_drop]
    refine ⟨_, fun _ _ h => h, p, t, frQ, i + b + 1, none, rfl, c6, hi6, hl, h128, lqT, fun s2 n2 e6 H7 s7 c7 => ⟨⟨_, .of ((s6.trans s7) _ _ hqp hq5)⟩, ?_⟩, fun n2 e6 d H7 s7 hx => k2 (b + (1 + n2)) (via.err (by rw [ep, e6]; rfl)) d H7 ((sb5.trans s6).trans s7) (by rw [hx, show i + b + 1 + n2 = i + (b + (1 + n2)) by lia])⟩
    have hi7 := tl hi6 (jqI e6).1
    have hk2 := (eql (jqI e6).1).2.2 (jqI e6).2
    refine ⟨p, t, i + b + 1 + n2, rfl, c7, hi7, hl, h128, fun o2 k3 e7 H8 s8 c8 => ⟨by decide, fun p1 Ha n1 sa hp1 => ⟨vs, sa _ _ (((s6.trans s7).trans s8) _ _ hqp hq5), ?_, m', Nat.lt_succ_self _, ?_⟩⟩, fun k3 e7 d H8 s8 hx => k2 (b + (1 + (n2 + k3))) (via.err ?_) d H8 (((sb5.trans s6).trans s7).trans s8) (by rw [hx, show i + b + 1 + n2 + k3 = i + (b + (1 + (n2 + k3))) by lia])⟩
    ·rw [hpl.1]
     exact Nat.lt_of_le_of_lt hdl (by decide)
    ·rw [hW]
     have hi8 := vl hi7 e7
     have hqa : Ha q = some (.lst vs) := sa _ _ (((s6.trans s7).trans s8) _ _ hqp hq5)
     refine ⟨dn ++ [(s2, o2)], b + (1 + n2 + k3), q, _, _, rfl, ?_, by lia, by rw [List.length_append, List.length_singleton]; lia, by rw [List.length_drop] at hfu ⊢; lia, ?_, aqh, ?_, ?_, hqH, hqp⟩
     ·obtain ⟨dx, hp⟩ := c8.same sa
      exact ⟨dx, by rw [aqt hqp.symm, show i + (b + (1 + n2 + k3)) = i + b + 1 + n2 + k3 by lia]; exact hp⟩
     ·have := via.step (a := 1 + n2 + k3) (g := fun l => (s2, o2) :: l) (r' := prsF m' (t.drop (i + b + (1 + n2 + k3)))) (by
       rw [ep, e6]
       show sh 1 (sh n2 (bdR _ _)) = _
       rw [show i + b + (1 + n2) = i + b + 1 + n2 by lia, e7]
       show sh 1 (sh n2 (sh k3 _)) = _
       rw [pqw, pqw])
      rw [Nat.add_assoc i b] at this
      simpa using this
     ·refine PrL.mono (PrL.snoc ((((hpl.mono (c5.toT s6)).mono (c6.toT s7)).mono (c7.toT s8)).mono sa.toT) ?_) (pqc hqa)
      exact .tup hp1 (.cons (.str _) (.cons (lq9 _) .nil))
     ·exact ((((sb5.trans s6).trans s7).trans s8).trans sa.but).upd hqH
    ·rw [ep, e6]
     show sh 1 (sh n2 (bdR _ _)) = _
     rw [show i + b + (1 + n2) = i + b + 1 + n2 by lia, e7]
     rfl
   ·rw [if_neg (by decide)]
    have ep : prsF (m' + 1) (t.drop (i + b)) = .ok ([], 0) := by
     unfold prsF
     rw [if_neg (fun z => hp (take1.mpr z))]
    have e3 := via.ok ep
    rw [List.append_nil] at e3
    refine ⟨vs, .inl (.of hq5), fun l Ha sa hla => k1 (some dn) b e3 Ha (sb5.trans sa.but) (c5.same sa) _ ?_⟩
    exact .tup hla (jqn (g := pD) hpl.1 fun i' a' y z1 z2 => (hpl.2 i' a' y z1 z2).mono sa.toT)
  ·rw [if_pos rfl]
   exact k1 none 0 (by unfold queM; rw [if_neg (fun z => hp (take1.mpr z))]) H (SameBut.refl _ _) hcur _ .non
theorem kqu (g : G w K mg) : g.fqc.Ok P w base 6 (kqj K) := by
 refine g.fqc.F.ok fq1 (fun vs H Q E h => ?_) (fun cdv A outer s H vs Q E hr h => ?_)
 ·obtain ⟨b, x, vb, vx, rfl, _⟩ := h; rfl
 ·obtain ⟨b, x, vb, vx, rfl, hB, hX, wf, hb, hx, k⟩ := h
  refine ⟨_, (aqc (aqO (aqm jqU (aqD (aqj (K := K) rfl) (pv 1) (aqf (v := jqV) rfl g.iqu ⟨_, rfl⟩) (fun _ _ => rfl)) aqM (nomark _))
    (aqd (aqk (aqn (gqD (K := K) rfl) (bqa (aqa (aqD (aqj (K := K) rfl) (pv 0) (aqf (v := hqA) rfl g.fq4 ⟨_, rfl⟩) (fun _ _ => rfl)) aqb)) (cqh (gqx (K := K) rfl) (pv 1) (cqQ (aqf (v := jqV) rfl g.iqu ⟨_, rfl⟩)) dqz)))) aqu)
   (aqc (aql (i := 2) fq1.nd rfl (Or.inl rfl) (aqv g.gqQ (lqU g) hr rfl (aqa (aqD (aqj (K := K) rfl) (pv 0) (aqf (v := mqo) rfl g.lqv ⟨_, rfl⟩) (fun _ _ => rfl)) (aqa (aqD (aqj (K := K) rfl) (pv 1) (aqf (v := mqo) rfl g.lqv ⟨_, rfl⟩) (fun _ _ => rfl)) aqb))))
   (aqd (aqk (aqn (gqD (K := K) rfl) (cqh (gqx (K := K) rfl) (pv 0) dqz (cqQ (aqf (v := mqo) rfl g.lqv ⟨_, rfl⟩))) (bqa (aqa (pv 2) (aqa (aqv g.dqh (hqi g) hr rfl (aqa (pv 0) (aqa (pv 1) aqb))) (aqa (aqD (aqj (K := K) rfl) (pv 1) (aqf (v := rqr) rfl g.oqW ⟨_, rfl⟩) (fun _ _ => rfl)) aqb))))))))), ?_⟩
  obtain ⟨pb, wb, qb, rfl, hpb, hwb, hqb⟩ := fqR hB
  obtain ⟨px, wx, qx, rfl, hpx, hwx, hqx⟩ := fqR hX
  walk_at "rd"
  refine ⟨_, _, .inr hpx, rfl, ?_⟩
  cases hh : x.house with
  | some l =>
   refine ite2 (fun _ => ?_) (fun z => absurd (Classical.not_not.mp z) (by simp [otV]))
   refine ⟨_, _, .inr hpb, rfl, by decide, fun p1 H1 hn1 s1 hp1 => ⟨_, s1.tup hpx, fun p2 H2 s2 hp2 => ⟨_, _, .of (s2 _ _ hp1), hp2, (show 6 ≤ sizeLine by decide), fun p3 H3 s3 hp3 => k _ H3 ((s1.trans s2).trans s3) ?_⟩⟩⟩
   rw [madeWhole, if_pos (by simp [hh])]
   have sm := (s1.trans s2).trans s3
   exact adK (x := { x with scheme := b.scheme }) hp3 (hwx.mono sm) (hqx.mono sm)
  | none =>
   refine ite2 (fun z => absurd rfl z) (fun _ => ?_)
   refine ⟨_, _, .inr hpb, rfl, _, _, .inr hpx, rfl, b.w, x.w, wb, wx, rfl, hwb, hwx, (fun s hs => (wf.stp s hs).2), hb, hx, fun v H1 s1 hv => ⟨_, s1.tup hpb, fun p2 H2 s2 hp2 => ?_⟩⟩
   have s12 := s1.trans s2
   refine ⟨b, x, _, _, rfl, hB.mono s12, hX.mono s12, wf, fun v2 hv2 => ⟨_, _, .inr (s12.tup hpx), rfl, by decide, fun p3 H3 hn3 s3 hp3 => ⟨_, _, s3.tup hp2, .of hp3, (show 6 ≤ sizeLine by decide), fun p4 H4 s4 hp4 => k _ H4 (s12.trans (s3.trans s4)) ?_⟩⟩⟩
   rw [madeWhole, if_neg (by simp [hh])]
   exact adK (x := { scheme := b.scheme, house := b.house, door := b.door, rooted := (wayFrom b.w x.w).1, steps := (wayFrom b.w x.w).2.1, ends := (wayFrom b.w x.w).2.2, quest := questFrom b x, mark := x.mark }) hp4 (hv.mono (s2.trans (s3.trans s4))) (hv2.mono (s3.trans s4))
theorem jqO (g : G w K mg) : FnOk P w K mg base (CXN P w base) 7 g.equ.a g.equ.fd ["text"] (qqx K g.aqg) := by
 refine g.equ.F.okn eq4 (fun vs H Q E h => ?_) (fun cdv A outer s H vs Q E hr h => ?_)
 ·obtain ⟨v, rfl, _⟩ := h; rfl
 ·obtain ⟨v, rfl, h⟩ := h
  refine ⟨_, (aqc (aqO (bqY (aqI (aqz mq2 rfl g.aqL aqA (aqa (pv 0) (aqa (hqQ (v := .ty "str") rfl g.nq5 lqE rfl) aqb)))))
    (aqd (dqO cq2 rfl g.bqb g.bq6 (aqG g) (hr.mono (by decide)) g.aqE rfl pass0 rfl (aqa aqe aqb))) aqu)
   (aqc (aql (i := 1) eq4.nd rfl (Or.inl rfl) (lqR g.mqV (gqc g) (hr.mono (by decide)) rfl g.mq7 g.dqU .nil pass0 (aqa (pv 0) aqb)))
   (aqc (aql (i := 2) eq4.nd rfl (Or.inl rfl) (aqv g.dqC (iqr g) hr rfl (aqa (pv 1) aqb)))
   (aqc (aql (i := 3) eq4.nd rfl (Or.inl rfl) (bqr (iqe g) (hr.mono (by decide)) rfl g.bqM.m g.bqM.F.kp g.bqM.b .nil aqy (aqa (pv 1) aqb)))
   (aqF (aql (i := 4) eq4.nd rfl (Or.inl rfl) (aq4 (aqm cqu (pv 3) aqM (nomark _)) aqM (bqr (iqT g) (hr.mono (by decide)) rfl g.cqa.m g.cqa.F.kp g.cqa.b .nil aqy (aqa (pv 1) aqb))))
   (aqF (aql (i := 5) eq4.nd rfl (Or.inl rfl) (bqr (jqX g) (hr.mono (by decide)) rfl g.cqs.m g.cqs.F.kp g.cqs.b .nil aqy (aqa (pv 1) (aqa (pqI (bqp fqF (pv 2) aqs (nomark _)) (fqq (bqp jqU (pv 3) aqM (nomark _)))) aqb))))
   (aqc (aql (i := 6) eq4.nd rfl (Or.inl rfl) (bqr (fqT g) (hr.mono (by decide)) rfl g.aq6.m g.aq6.F.kp g.aq6.b .nil aqy (aqa (pv 1) aqb)))
   (aqc (aql (i := 7) eq4.nd rfl (Or.inl rfl) (bqr (iq4 g) (hr.mono (by decide)) rfl g.cqb.m g.cqb.F.kp g.cqb.b .nil aqy (aqa (pv 1) aqb)))
   (aqc (aqO (bqY (aqI (dq3 (pv 1) g.aqi g.cqN (eqo g) (hr.mono (by decide)) g.dqq .nil pass0)))
    (aqd (dqO cq2 rfl g.bqb g.bq6 (aqG g) (hr.mono (by decide)) g.aqE rfl pass0 rfl (aqa (bqt (pv 1) rfl) aqb))) aqu)
   (aqd (aqk (bqa (aqa (pv 2) (aqa (pv 3) (aqa (pv 4) (aqa (pv 5) (aqa (pv 6) (aqa (pv 7) aqb)))))))))))))))))), ?_⟩
  walk_at "rd"
  rcases h with ⟨ty, hty, hkit, kE⟩ | ⟨t, rfl, hl, h128, k1, k2⟩
  ·refine ⟨_, _, _, _, rfl, hty, hkit, ?_⟩
   refine ⟨_, rfl, ?_⟩
   rw [if_pos rfl]
   exact cqY fun d H' sm hx => kE d H' sm hx
  refine ⟨_, _, _, _, rfl, .str _, jqP K "str" (by decide) "str" (by decide), ?_⟩
  refine ⟨_, rfl, ?_⟩
  rw [if_neg (by decide)]
  intro p dx hp hdx hne
  have sb0 : SameBut p H (upd (upd H dx (.own p)) p (.ins g.aqr dx [])) := fun b o n e => by
   rw [aqt n, aqt (aqq e hdx)]
   exact e
  refine ⟨p, dx, t, rfl, aqh, fun H1 s1 c1 => ⟨rfl, ?_⟩⟩
  have sb1 := sb0.trans s1
  have hl' : t.length ≤ 100000 := by lia
  refine ⟨p, t, rfl, c1, hl, fun H2 s2 c2 => ?_⟩
  have sb2 := sb1.trans s2
  refine ⟨p, t, schP t, rfl, c2, pqk t, hl', h128, fun h n1 e1 H3 s3 c3 => ?_, fun n e d H3 s3 hx => k2 _ (uq5 e) d H3 ((sb2.trans s3).same hp) hx⟩
  have sb3 := sb2.trans s3
  have hi3 : schP t + n1 ≤ t.length := by have := rqL e1; have := pqk t; rw [List.length_drop] at *; lia
  refine ⟨fun σ H4 => SameBut p H H4 ∧ ∃ d n2, dorM h (t.drop (schP t + n1)) = .ok (d, n2) ∧ Cur H4 g.aqr p t (schP t + n1 + n2) ∧ σ = [some (.str ⟨t.toArray⟩), some (.ref p), some (.str ⟨(schM t).toArray⟩), some (otV h), some (itV d), none, none, none], ?_, ?_⟩
  ·cases hho : h with
   | none =>
    rw [if_pos (show otV none = V.non from rfl)]
    exact ⟨sb3, none, 0, by unfold dorM; rw [if_pos rfl], c3, rfl⟩
   | some l =>
    rw [if_neg (by simp [otV])]
    have ed : dorM (some l) (t.drop (schP t + n1)) = dooM (t.drop (schP t + n1)) := by unfold dorM; rw [if_neg (by simp)]
    rw [hho] at e1
    exact ⟨p, t, schP t + n1, rfl, c3, hi3, hl', h128, fun d n2 e2 H4 s4 c4 => ⟨sb3.trans s4, d, n2, ed.trans e2, c4, rfl⟩, fun n e d H4 s4 hx => k2 _ (vqd e1 (ed.trans e)) d H4 ((sb3.trans s4).same hp) hx⟩
  rintro σ H4 ⟨sb4, d, n2, e2, c4, rfl⟩
  have hi4 : schP t + n1 + n2 ≤ t.length := by have := (rqv e2).1; rw [List.length_drop] at this; lia
  walk_at "rd"
  obtain ⟨must, hmust⟩ : ∃ b : Bool, b = decide (schM t ≠ [] ∨ h ≠ none) := ⟨_, rfl⟩
  have hway : ∀ (b : Bool) (Q' : VK), b = must → (∀ w n3, wayM must (t.drop (schP t + n1 + n2)) = .ok (w, n3) → ∀ u H5, SameBut p H H5 → Cur H5 g.aqr p t (schP t + n1 + n2 + n3) → IsT H5 (wayOf w) u → Q' u H5) → gqe K g.aqr g.aqg [V.ref p, V.bl b] H4 Q' E := fun b Q' hb hk =>
   ⟨p, t, schP t + n1 + n2, must, by rw [hb], c4, hi4, hl', h128, fun w n3 e3 H5 s5 c5 u hu => hk w n3 e3 u H5 (sb4.trans s5) c5 hu, fun n e d H5 s5 hx => k2 _ (uqg e1 e2 (by rw [← hmust]; exact e)) d H5 ((sb4.trans s5).same hp) hx⟩
  refine ⟨fun σ H5 => ∃ w n3 u, wayM must (t.drop (schP t + n1 + n2)) = .ok (w, n3) ∧ SameBut p H H5 ∧ Cur H5 g.aqr p t (schP t + n1 + n2 + n3) ∧ IsT H5 (wayOf w) u ∧ σ = [some (.str ⟨t.toArray⟩), some (.ref p), some (.str ⟨(schM t).toArray⟩), some (otV h), some (itV d), some u, none, none], ?_, ?_⟩
  ·refine ite2 (fun z => ?_) (fun z => ?_)
   ·have hm : must = true := by rw [hmust]; exact decide_eq_true (.inl fun e => z (by rw [e]))
    exact hway true _ hm.symm (fun w n3 e3 u H5 sb c hu => ⟨w, n3, u, e3, sb, c, hu, rfl⟩)
   ·have hs : schM t = [] := fqv.mp (Classical.not_not.mp z)
    have hm : must = !decide (otV h = V.non) := by
     rw [hmust]
     cases h with
     | none => simp [hs, otV]
     | some l => simp [otV]
    exact hway _ _ hm.symm (fun w n3 e3 u H5 sb c hu => ⟨w, n3, u, e3, sb, c, hu, rfl⟩)
  rintro σ H5 ⟨w, n3, u, e3, sb5, c5, hu, rfl⟩
  have e3' := e3
  rw [hmust] at e3'
  have hi5 : schP t + n1 + n2 + n3 ≤ t.length := by have := (rqN e3).1; rw [List.length_drop] at this; lia
  walk_at "rd"
  refine ⟨p, t, schP t + n1 + n2 + n3, rfl, c5, hi5, hl', h128, fun q n4 e4 H6 s6 c6 uq huq => ?_, fun n e d H6 s6 hx => k2 _ (uqc e1 e2 e3' e) d H6 ((sb5.trans s6).same hp) hx⟩
  have hi6 : schP t + n1 + n2 + n3 + n4 ≤ t.length := by have := (rqn e4).1; rw [List.length_drop] at this; lia
  refine ⟨p, t, schP t + n1 + n2 + n3 + n4, rfl, c6, hi6, hl', h128, fun m n5 e5 H7 s7 c7 => ?_, fun n e d H7 s7 hx => k2 _ (vqa e1 e2 e3' e4 e) d H7 (((sb5.trans s6).trans s7).same hp) hx⟩
  have er := rqE e1 e2 e3' e4 e5
  have sb7 := (sb5.trans s6).trans s7
  refine aqN c7 ⟨p, t, _, rfl, c7, hl', _, rfl, ?_⟩
  by_cases hend : schP t + n1 + n2 + n3 + n4 + n5 = t.length
  ·rw [decide_eq_true hend, if_neg (by decide)]
   rw [if_pos hend] at er
   refine ⟨by decide, fun pr H8 _ s8 h8 => k1 _ er _ H8 ((sb7.same hp).trans s8) ?_⟩
   exact adT h8 ((((hu.mono (c5.toT s6)).mono (c6.toT s7))).mono s8.toT) ((huq.mono (c6.toT s7)).mono s8.toT)
  ·rw [decide_eq_false hend, if_pos rfl]
   rw [if_neg hend] at er
   exact aqQ c7 g.aqi g.aqo (cqY fun d H' sm hx => k2 _ er d H' ((sb7.trans sm.but).same hp) hx)
theorem iqJ (g : G w K mg) : g.fqi.Ok P w base 7 (mqm K) := by
 refine g.fqi.F.ok mqB (fun vs H Q E h => ?_) (fun cdv A outer s H vs Q E hr h => ?_)
 ·obtain ⟨b, x, vb, vx, rfl, _⟩ := h; rfl
 ·obtain ⟨b, x, vb, vx, rfl, hB, hX, hws, wf, hb, hx, k⟩ := h
  refine ⟨_, (aqc (aqO (bqY (aqI (aqv g.cq3 (eqe g) hr rfl (aqa (pv 0) aqb))))
    (aqd eqd) aqu)
   (aqd (aqk (aqv g.cqq (eqm g) hr rfl (aqa (aq4 (aqI (aqv g.cq3 (eqe g) hr rfl (aqa (pv 1) aqb))) (pv 1) (aqv g.fqc (kqu g) hr rfl (aqa (pv 0) (aqa (pv 1) aqb)))) aqb))))), ?_⟩
  obtain ⟨pb, wb, qb, rfl, hpb, hwb, hqb⟩ := fqR hB
  obtain ⟨px, wx, qx, rfl, hpx, hwx, hqx⟩ := fqR hX
  walk_at "rd"
  refine ⟨pb, b.scheme, _, rfl, hpb, _, rfl, ?_⟩
  rw [if_neg (by simp [hws])]
  refine ⟨px, x.scheme, _, rfl, hpx, _, rfl, ?_⟩
  by_cases h : x.scheme = []
  ·rw [if_neg (by simp [h])]
   refine ⟨b, x, _, _, rfl, hB, hX, wf, hb, hx, fun v H1 s1 hv => ⟨madeWhole b x, v, rfl, hv, by have := fq3 b x; lia, fun u H2 s2 hu => k u H2 (s1.trans s2) ?_⟩⟩
   rw [iqD wf h]; exact hu
  ·rw [if_pos (by simp [h])]
   refine ⟨x, _, rfl, hX, by lia, fun u H1 s1 hu => k u H1 s1 ?_⟩
   rw [gqC h]; exact hu
theorem bqT (g : G w K mg) : FnOk P w K mg base (CXN P w base) 8 g.cqf g.bq2 ["self", "text"] (gqO K g.bqC g.aqg g.bqd) := by
 refine g.eqL.okn eqs (fun vs H Q E h => ?_) (fun cdv A outer s H vs Q E hr h => ?_)
 ·obtain ⟨p, dx, v, rfl, _⟩ := h; rfl
 ·obtain ⟨p, dx, v, rfl, hp, h⟩ := h
  refine ⟨_, (aqc (aql (i := 2) eqs.nd rfl (Or.inl rfl) (bqr (jqO g) (hr.mono (by decide)) rfl g.equ.m g.equ.F.kp g.equ.b .nil aqy (aqa (pv 1) aqb)))
   (aqc (aqO (bqY (aqI (aqv g.cq3 (eqe g) hr rfl (aqa (pv 2) aqb))))
    (aqd (oqm raisesN rfl g.jq5 g.mqS rfl)) aqu)
   (aqc (iqP (pv 0) (aqv g.fqN (fq5 g) hr rfl (aqa (pv 2) aqb)) rfl)
   (aqd (iqP (pv 0) (cq5 aqb) rfl))))), ?_⟩
  walk_at "rd"
  rcases h with ⟨ty, hty, hk, he⟩ | ⟨t, rfl, hl, h128, h⟩
  ·exact ⟨v, rfl, .inl ⟨ty, hty, hk, fun d H1 s1 hx => he d H1 s1 hx⟩⟩
  rcases h with ⟨n, hn, he⟩ | ⟨x, hx, hs, he⟩ | ⟨x, hx, hs, hst, k⟩
  ·exact ⟨_, rfl, .inr ⟨t, rfl, hl, h128, (fun x e => by rw [hn] at e; cases e), fun k' e d H1 s1 hx => by rw [hn] at e; cases e; exact he d H1 s1 hx⟩⟩
  all_goals
   refine ⟨_, rfl, .inr ⟨t, rfl, hl, h128, fun y e u H1 s1 hu => ?_, fun k' e => by rw [hx] at e; cases e⟩⟩
   rw [hx] at e
   cases e
   obtain ⟨pu, uw, uq, rfl, hpu, hwu, hqu⟩ := rqC hu
  ·refine ⟨pu, x.scheme, _, rfl, .inl (.inl hpu), false, by rw [decide_eq_true hs]; rfl, ?_⟩
   rw [if_pos rfl]
   exact he H1 s1
  refine ⟨pu, x.scheme, _, rfl, .inl (.inl hpu), true, by rw [decide_eq_false hs]; rfl, ?_⟩
  rw [if_neg (by decide)]
  refine ⟨x, _, rfl, hu.k, mqb hx, hst, fun v H2 s2 hv => ?_⟩
  have hp2 := s2 _ _ (s1 _ _ hp)
  refine ⟨p, _, dx, _, rfl, hp2, g.bqL, g.aq9, by show 0 < 1000; decide, by decide, fun l H3 n3 s3 e3 => ?_⟩
  have hp3 := s3 _ _ (aqh (H := H2) (a := p) (o := .ins g.bqC dx (putF (Str.ofString "address") v [])))
  refine ⟨p, _, dx, _, rfl, hp3, g.bqL, g.gq9, by show 1 < 1000; decide, ?_⟩
  have sb2 : SameBut p H2 H3 := aqR.trans s3.but
  refine k _ ((((s1.trans s2).but).trans sb2).trans aqR) ⟨dx, v, .ref l, ?_, IsK.but aqR hp3 (IsK.but sb2 hp2 hv)⟩
  have h : Str.ofString "address" ≠ Str.ofString "table" := by decide +kernel
  rw [aqh]
  simp only [putF, if_neg h]
theorem eqk (g : G w K mg) : FnOk P w K mg base (CXN P w base) 8 g.cqx g.cqj ["self", "text"] (hqs K g.bqC g.aqg) := by
 refine g.fqu.okn hqK (fun vs H Q E h => ?_) (fun cdv A outer s H vs Q E hr h => ?_)
 ·obtain ⟨p, b, t, rfl, _⟩ := h; rfl
 ·obtain ⟨p, b, t, rfl, hd, gb, hl, h128, h⟩ := h
  refine ⟨_, (aqd (aqk (aqv g.fqN (fq5 g) hr rfl (aqa (aqv g.fqi (iqJ g) hr rfl (aqa (bqt (pv 0) rfl) (aqa (bqr (jqO g) (hr.mono (by decide)) rfl g.equ.m g.equ.F.kp g.equ.b .nil aqy (aqa (pv 1) aqb)) aqb))) aqb)))), ?_⟩
  walk_at "rd"
  refine hqF hd g.bqL g.aq9 fun v hv => ?_
  rcases h with ⟨n, hn, he⟩ | ⟨x, hx, lx, k⟩
  ·exact ⟨_, rfl, .inr ⟨t, rfl, hl, h128, (fun x e => by rw [hn] at e; cases e), fun k' e d H1 s1 hx => by rw [hn] at e; cases e; exact he d H1 s1 hx⟩⟩
  refine ⟨_, rfl, .inr ⟨t, rfl, hl, h128, fun y e u H1 s1 hu => ?_, fun k' e => by rw [hx] at e; cases e⟩⟩
  rw [hx] at e
  cases e
  have wx := mqb hx
  have lr := kqm (b := b) wx
  have lb := gb.ln
  refine ⟨b, x, v, u, rfl, hv.mono s1, hu.k, gb.sc, wx, by lia, by lia, fun w H2 s2 hw2 => ?_⟩
  exact ⟨resM b x, w, rfl, hw2, mqa gb.wf wx gb.sc, by lia, fun u2 H3 s3 h3 => k u2 H3 (s1.trans (s2.trans s3)) h3⟩
theorem mqk (g : G w K mg) : FnOk P w K mg base (CXN P w base) 9 g.fq7 g.fql ["self", "text"] (hqP K g.bqC g.aqg) := by
 refine g.lqB.okn nqM (fun vs H Q E h => ?_) (fun cdv A outer s H vs Q E hr h => ?_)
 ·obtain ⟨p, b, t, rfl, _⟩ := h; rfl
 ·obtain ⟨p, b, t, rfl, hd, gb, hl, h128, h⟩ := h
  refine ⟨_, (aqc (iqP (pv 0) (aq5 (pv 0) g.bqL g.dqp (eqk g) (hr.mono (by decide)) g.dqF .nil aqy (aqa (pv 1) aqb)) rfl)
   (aqd (aqk (aqv g.dqu (cqP g) hr rfl (aqa (bqt (pv 0) rfl) aqb))))), ?_⟩
  walk_at "rd"
  rcases h with ⟨n, hn, he⟩ | ⟨x, hx, tx, lx, k⟩
  ·exact cqD hd ⟨p, b, t, rfl, hd, gb.le (by decide), hl, h128, .inl ⟨n, hn, he⟩⟩
  have wx := mqb hx
  have lr := kqm (b := b) wx
  have lb := gb.ln
  have wp := iqL (mqa gb.wf wx gb.sc)
  have tp := fqG (kq5 gb.ti tx)
  have lp := gqB (resM b x)
  refine cqD hd ⟨p, b, t, rfl, hd, gb.le (by decide), hl, h128, .inr ⟨x, hx, by lia, fun u H1 s1 hu => ?_⟩⟩
  obtain ⟨dx, v', u', hp, hv'⟩ := hd.same s1
  have d2 := sqL hp hu
  refine ⟨p, _, dx, _, rfl, hp, g.bqL, g.aq9, by show 2 < 1000; decide, hqF d2 g.bqL g.aq9 fun v hv => ?_⟩
  exact ⟨_, v, rfl, hv, wp, tp.sz wp (by lia), fun H3 s3 => k H3 ((s1.but.trans aqR).trans s3.but) (d2.same s3)⟩
theorem bq8 (g : G w K mg) : FnOk P w K mg base (CXN P w base) 10 g.fqm g.dq5 ["self", "row"] (kq6 K g.bqC g.aqg) := by
 refine g.jqD.okn iqq (fun vs H Q E h => ?_) (fun cdv A outer s H vs Q E hr h => ?_)
 ·obtain ⟨p, b, row, rfl, _⟩ := h; rfl
 ·obtain ⟨p, b, row, rfl, hd, gb, h⟩ := h
  refine ⟨_, (aqc (aql (i := 2) iqq.nd rfl (Or.inl rfl) (aqv g.gqL (mqA g) hr rfl (aqa (pv 1) aqb)))
   (aqc (aqO (aqm cqH (aqD (aqj (K := K) rfl) (pv 2) aqe (fun _ _ => rfl)) aqs (nomark _))
    (aqd (aqk (aqv g.dqu (cqP g) hr rfl (aqa (bqt (pv 0) rfl) aqb)))) aqu)
   (aqc (aqO (aqm cqH (aqD (aqj (K := K) rfl) (pv 2) aqe (fun _ _ => rfl)) aqs (nomark _))
    (aqd (aqk (aq5 (pv 0) g.bqL g.jqy (mqk g) (hr.mono (by decide)) g.lqL .nil aqy (aqa (aqD (aqj (K := K) rfl) (pv 2) aqe (fun _ _ => rfl)) aqb)))) aqu)
   (aqc (aqO (aqm cqH (aqD (aqj (K := K) rfl) (pv 2) aqe (fun _ _ => rfl)) aqs (nomark _))
    (aqd (aqk (aqv g.dqu (cqP g) hr rfl (aqa (aqv g.jqq (lqZ g) hr rfl (aqa (bqt (pv 0) rfl) (aqa (aq5 (pv 0) g.bqL g.dqp (eqk g) (hr.mono (by decide)) g.dqF .nil aqy (aqa (aqD (aqj (K := K) rfl) (pv 2) aqe (fun _ _ => rfl)) aqb)) aqb))) aqb)))) aqu)
   (aqc eqd
   (aqc eqd
   (aqd eqd))))))), ?_⟩
  have e1 : Str.ofString "at" = ⟨wAt.toArray⟩ := by decide +kernel
  have e2 : Str.ofString "go" = ⟨wGo.toArray⟩ := by decide +kernel
  have e3 : Str.ofString "link" = ⟨wLink.toArray⟩ := by decide +kernel
  rw [e1, e3]
  walk_at "rd"
  have lb := gb.ln
  rcases h with ⟨rfl, k⟩ | ⟨t, hl, h128, h⟩
  ·refine ⟨_, rfl, .inl ⟨rfl, fun l H1 s1 hl1 => ?_⟩⟩
   walk_at "rd"
   refine ⟨_, _, .inl (.of hl1), iqY, ?_⟩
   walk_at "rd"
   exact hqF (hd.same s1) g.bqL g.aq9 fun v hv => ⟨b, v, rfl, hv, gb.wf, gb.ti.sz gb.wf (by lia), fun H2 s2 => k H2 (s1.trans s2)⟩
  have hh : (row = wGo ++ 32 :: t ∧ ∀ H1, Same H H1 → hqP K g.bqC g.aqg [.ref p, tV t] H1 Q E) ∨ (row = wLink ++ 32 :: t ∧ ∃ n, readM t = .error n ∧ AtE E g.aqg H n) := by
   rcases h with ⟨n, hn, hr | hr, he⟩ | ⟨x, hx, tx, lx, hr, k⟩
   ·exact .inl ⟨hr, fun H1 s1 => ⟨p, b, t, rfl, hd.same s1, gb.le (by decide), hl, h128, .inl ⟨n, hn, fun d H' s hx => he d H' (s1.trans s) hx⟩⟩⟩
   ·exact .inr ⟨hr, n, hn, he⟩
   ·exact .inl ⟨hr, fun H1 s1 => ⟨p, b, t, rfl, hd.same s1, gb.le (by decide), hl, h128, .inr ⟨x, hx, tx, by lia, fun H' s d => k H' (s1.but.trans s) d⟩⟩⟩
  rcases hh with ⟨rfl, hgo⟩ | ⟨rfl, n, hn, he⟩
  ·refine ⟨_, rfl, .inr ⟨wGo, t, .inl rfl, rfl, hl, fun l H1 s1 hl1 => ?_⟩⟩
   walk_at "rd"
   refine ⟨_, _, .inl (.of hl1), iqY, ?_⟩
   walk_at "rd"
   refine ite2 (fun z => absurd z (by decide)) (fun _ => ⟨_, _, .inl (.of hl1), iqY, ?_⟩)
   walk_at "rd"
   refine ite2 (fun _ => ?_) (fun z => absurd e2.symm z)
   exact cqD (hd.same s1) ⟨_, _, .inl (.of hl1), aqH (j := 1) rfl, hgo H1 s1⟩
  ·refine ⟨_, rfl, .inr ⟨wLink, t, .inr rfl, rfl, hl, fun l H1 s1 hl1 => ?_⟩⟩
   walk_at "rd"
   refine ⟨_, _, .inl (.of hl1), iqY, ?_⟩
   walk_at "rd"
   refine ite2 (fun z => absurd z (by decide)) (fun _ => ⟨_, _, .inl (.of hl1), iqY, ?_⟩)
   walk_at "rd"
   refine ite2 (fun z => absurd z (by rw [e2]; decide)) (fun _ => ⟨_, _, .inl (.of hl1), iqY, ?_⟩)
   walk_at "rd"
   have d1 := hd.same s1
   refine hqF d1 g.bqL g.aq9 fun v hv => cqD d1 ⟨_, _, .inl (.of hl1), aqH (j := 1) rfl, ?_⟩
   exact ⟨p, b, t, rfl, d1, gb.le (by decide), hl, h128, .inl ⟨n, hn, fun d H' s hx => he d H' (s1.trans s) hx⟩⟩
theorem iqK (g : G w K mg) : g.dqE.Ok P w base 10 (iqv K) := by
 refine g.dqE.F.ok cqr (fun vs H Q E h => ?_) (fun cdv A outer s H vs Q E hr h => ?_)
 ·obtain ⟨t, x, rfl, _⟩ := h; rfl
 ·obtain ⟨t, x, rfl, hl, h128, hx, hs, k⟩ := h
  refine ⟨_, (aqc (aql (i := 1) cqr.nd rfl (Or.inl rfl) aqM)
   (aqc (lq6 (i := 2) (mq4 g.lqJ (bqT g) (hr.mono (by decide)) rfl g.kqG g.bqz (aqa (pv 0) aqb) (fun _ _ h => h)) rfl rfl rfl g.jqo g.jqm cqr.nd rfl rfl (fun _ => (aqd (aql (i := 1) cqr.nd rfl (Or.inl rfl) (pv 2)))))
   (aqc (aqO (PW.pt (eq9 (bqY (aqI (aqz (dqg (K := K) rfl) rfl g.aqL aqA (aqa (pv 1) (aqa (aqf (v := .ref g.bqd) rfl g.jq5 rfl) aqb))))) (dqW (bqY (aqI (aqz (dqg (K := K) rfl) rfl g.aqL aqA (aqa (pv 1) (aqa (hqQ (v := .ty "ValueError") rfl g.gq5 jq6 rfl) aqb))))))))
    (aqd (aqk dqQ)) aqu)
   (aqc (aqO (PW.pt (eq9 (aqI (aqz (dqg (K := K) rfl) rfl g.aqL aqA (aqa (pv 1) (aqa (aqf (v := .ref g.aqg) rfl g.bqb rfl) aqb)))) (eq9 (aqI (aqz (dqg (K := K) rfl) rfl g.aqL aqA (aqa (pv 1) (aqa (aqf (v := .ref g.dqa) rfl g.iqI rfl) aqb)))) (dqW (aqI (aqz (dqg (K := K) rfl) rfl g.aqL aqA (aqa (pv 1) (aqa (aqf (v := .ref g.eqD) rfl g.lqF rfl) aqb))))))))
    (aqd (aqk dqQ)) aqu)
   (aqd (aqk (iqh (oqn (aqz (dqg (K := K) rfl) rfl g.aqL aqA (aqa (pv 1) (aqa (aqf (v := .ref g.fqZ) rfl g.mqJ rfl) aqb)))) (fqq (oqn (aqz (dqg (K := K) rfl) rfl g.aqL aqA (aqa (pv 1) (aqa (aqf (v := .ref g.iqg) rfl g.oqh rfl) aqb)))))))))))), ?_⟩
  walk_at "rd"
  intro p dx np nd ne
  refine ⟨p, dx, _, rfl, aqh, .inr ⟨t, rfl, hl, h128, .inr (.inl ⟨x, hx, hs, fun H1 s1 => ⟨_, rfl, g.dqN, fun a ha => ?_⟩⟩)⟩⟩
  refine ⟨_, _, true, aqh, g.dqy, .cls g.eq1, ite2 (fun z => by cases z) (fun _ => ?_)⟩
  refine ⟨_, _, true, aqh, g.dqy, .ty g.dqo, ite2 (fun z => by cases z) (fun _ => ?_)⟩
  refine ⟨_, _, false, aqh, g.dqy, .cls g.dqv, ite2 (fun z => by cases z) (fun _ => ?_)⟩
  refine ⟨_, _, false, aqh, g.dqy, .cls g.dqt, ite2 (fun z => by cases z) (fun _ => ?_)⟩
  refine ⟨_, _, false, aqh, g.dqy, .cls g.eqh, ite2 (fun z => by cases z) (fun _ => ?_)⟩
  refine ⟨_, _, false, aqh, g.dqy, .cls g.fqd, ite2 (fun _ => ?_) (fun z => absurd rfl z)⟩
  exact ⟨_, _, false, aqh, g.dqy, .cls g.fqr, k _ ((((kqi nd).same np).trans s1).trans (aqU ha))⟩
theorem cql (g : G w K mg) : g.bqK.Ok P w base 11 (fqS K g.bqC) := by
 refine g.bqK.F.ok cqX (fun vs H Q E h => ?_) (fun cdv A outer s H vs Q E hr h => ?_)
 ·obtain ⟨v1, v2, n, rfl, _⟩ := h; rfl
 ·obtain ⟨v1, v2, n, rfl, h, k⟩ := h
  refine ⟨_, (aqc (aql (i := 2) cqX.nd rfl (Or.inl rfl) (oq3 lqx aqe))
   (aqc (lq6 (i := 3) (uqz (aqm cqu (pv 0) aqM (nomark _)) (mq4 g.lqJ (bqT g) (hr.mono (by decide)) rfl g.kqG g.bqz (aqa (pv 1) aqb) (fun _ _ h => h)) (qqs (pv 0) g.bqL g.bq7 (bq8 g) (hr.mono (by decide)) g.cqw (aqa (pv 1) aqb) (fun _ _ h => h)) (fun _ _ h => h)) rfl rfl rfl g.bqb g.fqH cqX.nd rfl rfl (fun _ => (aqd (aql (i := 2) cqX.nd rfl (Or.inl rfl) (mq8 (K := K) rfl (pv 3) rfl)))))
   (aqd (aqk (pv 2))))), ?_⟩
  have at' : ∀ (He : Hp) (R : VK), Same H He → (∀ H', Same He H' → R (.int (n : Int)) H') → AtE (fun cls d H2 => ∃ C, cls = .ref C ∧ W.subIn K (.ref C) (.ref g.aqg) = some true ∧ ∀ a, H2 a = none → ∃ a_2 C_1 d_1 fs v, a = a_2 ∧ upd H2 a (exC a C d) a_2 = some (exC a_2 C_1 (some d_1)) ∧ upd H2 a (exC a C d) d_1 = some (.xd fs) ∧ ExFld K C_1 (Str.ofString "at") ∧ List.lookup (Str.ofString "at") fs = some v ∧ R v (upd H2 a (exC a C d))) g.aqg He n := fun He R _ hR d H1 s1 hx =>
   ⟨_, rfl, g.bqB, fun a ha => ⟨a, _, d, _, _, rfl, aqh, (by rw [aqt (aqq hx ha)]; exact hx), g.dqd, (by rw [List.lookup_cons, beq_self_eq_true]), hR _ (s1.trans (aqU ha))⟩⟩
  walk_at "rd"
  rcases h with ⟨rfl, h⟩ | ⟨p, b, t, row, rfl, rfl, hd, gb, hr, hl, h128, hn⟩
  ·rw [if_pos rfl]
   intro p dx np nd ne
   have sm := (kqi (o := .ins g.bqC dx []) (o' := .own p) nd).same np
   refine ⟨p, dx, _, rfl, aqh, ?_⟩
   rcases h with ⟨rfl, ty, hty, hk⟩ | ⟨t, rfl, hl, h128, hn⟩
   ·exact .inl ⟨ty, hty _, hk, at' _ _ sm fun H' s => k H' (sm.trans s)⟩
   ·exact .inr ⟨t, rfl, hl, h128, .inl ⟨n, hn, at' _ _ sm fun H' s => k H' (sm.trans s)⟩⟩
  ·rw [if_neg (by intro z; cases z)]
   obtain ⟨_, dx, fs, rfl, ha, hk, _⟩ := cqD (m := Str.ofString "say") hd True.intro
   exact ⟨p, dx, fs, rfl, ha, hk, p, b, row, rfl, hd, gb, .inr ⟨t, hl, h128, .inl ⟨n, hn, hr, at' _ _ (Same.refl _) fun H' s => k H' s⟩⟩⟩
theorem iqU (g : G w K mg) : g.eqg.Ok P w base 12 (iq0 K g.bqC) := by
 refine g.eqg.F.ok cqz (fun vs H Q E h => ?_) (fun cdv A outer s H vs Q E hr h => ?_)
 ·obtain ⟨p, b, t, rfl, _⟩ := h; rfl
 ·obtain ⟨p, b, t, rfl, hd, gb, hl, h128, k⟩ := h
  refine ⟨_, (aqc (aql (i := 2) cqz.nd rfl (Or.inl rfl) (oq3 lqx aqe))
   (aqc (lq6 (i := 3) (qqS (jqO g) (hr.mono (by decide)) rfl g.equ.m g.equ.F.kp g.equ.b (aqa (pv 1) aqb) (fun _ _ h => h)) rfl rfl rfl g.bqb g.fqH cqz.nd rfl rfl (fun _ => (aqd (aql (i := 2) cqz.nd rfl (Or.inl rfl) (mq8 (K := K) rfl (pv 3) rfl)))))
   (aqc (aqO (aqm qqd (pv 2) aqe (nomark _))
    (aqd (aqk dqQ)) aqu)
   (aqc (aqO (PW.pt (eq9 (aqm fqF (aqv g.bqK (cql g) hr rfl (aqa aqM (aqa (pv 1) aqb))) (pv 2) (nomark _)) (dqW (aqm fqF (aqv g.bqK (cql g) hr rfl (aqa (pv 0) (aqa (aqn (aq8 (K := K)) aqs (pv 1)) aqb))) (pv 2) (nomark _)))))
    (aqd (aqk dqQ)) aqu)
   (aqd (aqk (bqp cqH (aqv g.bqK (cql g) hr rfl (aqa (pv 0) (aqa (aqn (aq8 (K := K)) aqs (pv 1)) aqb))) (pv 2) (nomark _)))))))), ?_⟩
  have eL : ∀ t : List Nat, V.str (Str.ofString "link " ++ ⟨t.toArray⟩) = tV (wLink ++ 32 :: t) := fun t => by rw [show Str.ofString "link " = ⟨(wLink ++ [32]).toArray⟩ by decide +kernel, fq6, List.append_assoc]; rfl
  have eG : ∀ t : List Nat, V.str (Str.ofString "go " ++ ⟨t.toArray⟩) = tV (wGo ++ 32 :: t) := fun t => by rw [show Str.ofString "go " = ⟨(wGo ++ [32]).toArray⟩ by decide +kernel, fq6, List.append_assoc]; rfl
  have eL5 : (Str.ofString "link ").length = 5 := by decide +kernel
  have eG3 : (Str.ofString "go ").length = 3 := by decide +kernel
  walk_at "rd"
  refine ⟨_, rfl, .inr ⟨t, rfl, by lia, h128, fun x e u H1 s1 hu => ?_, fun n e d H1 s1 hx => ⟨_, rfl, g.bqB, fun a ha => ?_⟩⟩⟩
  ·exact ite2 (fun _ => k H1 s1) (fun z => absurd (by decide) z)
  refine ⟨a, _, d, _, _, rfl, aqh, (by rw [aqt (aqq hx ha)]; exact hx), g.dqd, (by rw [List.lookup_cons, beq_self_eq_true]), ?_⟩
  have s2 := s1.trans (aqU (o := exC a g.aqg (some d)) ha)
  walk_at "rd"
  rw [if_neg (by lia)]
  refine ⟨_, _, n, rfl, .inl ⟨rfl, .inr ⟨t, rfl, by lia, h128, e⟩⟩, fun H3 s3 => ?_⟩
  walk_at "rd"
  refine ⟨aqp (by rw [eG3]; lia), _, _, n, rfl, .inr ⟨p, b, t, _, rfl, eG t, hd.same (s2.trans s3), gb, .inl rfl, by lia, h128, e⟩, fun H4 s4 => ?_⟩
  walk_at "rd"
  refine ⟨aqp (by rw [eL5]; lia), _, _, n, rfl, .inr ⟨p, b, t, _, rfl, eL t, hd.same (s2.trans (s3.trans s4)), gb, .inr rfl, by lia, h128, e⟩, fun H5 s5 => ?_⟩
  walk_at "rd"
  exact k H5 (s2.trans (s3.trans (s4.trans s5)))
theorem tqU (g : G w K mg) : g.f_law.Ok P w base 13 (mqU K) := by
 refine g.f_law.F.ok dqT (fun vs H Q E h => ?_) (fun cdv A outer s H vs Q E hr h => ?_)
 ·obtain ⟨a, ns, rfl, _⟩ := h; rfl
 ·obtain ⟨a, ns, rfl, hS, hn, k⟩ := h
  refine ⟨_, (aqF (aql (i := 1) dqT.nd rfl (Or.inl rfl) (aqv g.eq2 (kqb g) hr rfl (aqa (aqv g.bqU (dqc g) hr rfl (aqa (pv 0) (aqa aqe aqb))) aqb)))
   (aqF (aql (i := 2) dqT.nd rfl (Or.inl rfl) (aqv g.cqy (eqB g) hr rfl (aqa (aqv g.dqw (gqm g) hr rfl (aqa (pv 0) (aqa aqe (aqa aqe aqb)))) (aqa (pv 1) (aqa dqQ aqb)))))
   (aqF (aql (i := 3) dqT.nd rfl (Or.inl rfl) (lqR g.lqJ (bqT g) (hr.mono (by decide)) rfl g.kqG g.bqz .nil passes0N (aqa (aqv g.dqu (cqP g) hr rfl (aqa (pv 2) aqb)) aqb)))
   (aqF (aql (i := 4) dqT.nd rfl (Or.inl rfl) (lqR g.lqJ (bqT g) (hr.mono (by decide)) rfl g.kqG g.bqz .nil passes0N (aqa (aqv g.dqu (cqP g) hr rfl (aqa (pv 2) aqb)) aqb)))
   (aqF (aql (i := 5) dqT.nd rfl (Or.inl rfl) (aqv g.fqN (fq5 g) hr rfl (aqa (pv 2) aqb)))
   (aqF (aqO (aqm fqF (aq5 (pv 3) g.bqL g.bq7 (bq8 g) (hr.mono (by decide)) g.cqw .nil passes0N (aqa aqs aqb)) (aqv g.dqu (cqP g) hr rfl (aqa (pv 5) aqb)) (nomark _))
    (aqd (aqk dqQ)) aqu)
   (aqc (jqr PassesOwn.never rfl (dqj rfl g.eqI (aqa aqe aqb)) (dqY (i := 6) dqT.nd rfl (Or.inl rfl))
   (aqF (aql (i := 7) dqT.nd rfl (Or.inl rfl) (aqv g.cqy (eqB g) hr rfl (aqa (aqv g.dqw (gqm g) hr rfl (aqa (pv 0) (aqa (aqn (aq8 (K := K)) aqe (aqn dq8 aqe (pv 6))) (aqa aqe aqb)))) (aqa (pv 1) (aqa dqQ aqb)))))
   (aqF (aqO (PW.pt (gqS (aqm cqH (aqD (aqj (K := K) rfl) (pv 7) aqe (fun _ _ => rfl)) aqs (nomark _)) (fqD (bqY (aqI (aqv g.dqE (iqK g) hr rfl (aqa (aqv g.dqu (cqP g) hr rfl (aqa (pv 7) aqb)) aqb)))))))
    (aqd (aqk dqQ)) aqu)
   (aqF (aql (i := 8) dqT.nd rfl (Or.inl rfl) (aqv g.bqU (dqc g) hr rfl (aqa (pv 0) (aqa (aqn (aq8 (K := K)) aqe (aqn dq8 aqe (pv 6))) aqb))))
   (aqF (aql (i := 9) dqT.nd rfl (Or.inl rfl) (aqv g.dqu (cqP g) hr rfl (aqa (pv 7) aqb)))
   (aqF (aql (i := 10) dqT.nd rfl (Or.inl rfl) (aqn aq0 (aqn aqW (pv 8) aqe) (aqn (aq8 (K := K)) (aqz (aq2 (K := K) rfl) rfl g.fqo PySem.boot_len (aqa (pv 9) aqb)) aqe)))
   (aqF (aqO (PW.pt (eq9 (bqY (aqI (aqv g.eqg (iqU g) hr rfl (aqa (pv 3) (aqa (aqn (aq8 (K := K)) (aqn (aq8 (K := K)) (cqh (hqO (K := K) rfl) (pv 9) dqz (cqQ (pv 10))) (aqD (aqj (K := K) rfl) aqs (aqn aq0 (pv 8) aqe) (fun _ _ => rfl))) (cqh (hqO (K := K) rfl) (pv 9) (cqQ (pv 10)) dqz)) aqb))))) (dqW (aqm fqF (aq5 (pv 3) g.bqL g.bq7 (bq8 g) (hr.mono (by decide)) g.cqw .nil passes0N (aqa aqs aqb)) (aqv g.dqu (cqP g) hr rfl (aqa (pv 5) aqb)) (nomark _)))))
    (aqd (aqk dqQ)) aqu)
   (aqF (aql (i := 5) dqT.nd rfl (Or.inl rfl) (aqv g.fqN (fq5 g) hr rfl (aqa (aqv g.fqi (iqJ g) hr rfl (aqa (pv 5) (aqa (pv 7) aqb))) aqb)))
   (aqF (aql (i := 11) dqT.nd rfl (Or.inl rfl) (aq5 (pv 3) g.bqL g.bq7 (bq8 g) (hr.mono (by decide)) g.cqw .nil passes0N (aqa (aqn (aq8 (K := K)) aqs (aqv g.dqu (cqP g) hr rfl (aqa (pv 7) aqb))) aqb)))
   (aqd (aqO (PW.pt (eq9 (bqY (aqI (aqz iqQ rfl g.aqL aqA (aqa (pv 11) (aqa (hqQ (v := .ty "str") rfl g.nq5 lqE rfl) aqb))))) (eq9 (aqm fqF (pv 11) (aqv g.dqu (cqP g) hr rfl (aqa (pv 5) aqb)) (nomark _)) (dqW (aqm fqF (aq5 (pv 3) g.bqL g.bq7 (bq8 g) (hr.mono (by decide)) g.cqw .nil passes0N (aqa aqs aqb)) (pv 11) (nomark _))))))
    (aqd (aqk dqQ)) aqu)))))))))))
   (aqd (aqk (iqh (bqp cqH (aq5 (pv 4) g.bqL g.bq7 (bq8 g) (hr.mono (by decide)) g.cqw .nil passes0N (aqa aqs aqb)) (aqv g.dqu (cqP g) hr rfl (aqa (aqv g.fqN (fq5 g) hr rfl (aqa (pv 2) aqb)) aqb)) (nomark _)) (iqh (bqp cqH (aqv g.bqK (cql g) hr rfl (aqa aqM (aqa aqM aqb))) aqe (nomark _)) (fqq (bqp cqH (aqv g.bqK (cql g) hr rfl (aqa aqM (aqa aqe aqb))) aqe (nomark _)))))))))))))), ?_⟩
  have eG : ∀ t : List Nat, V.str (Str.ofString "go " ++ ⟨t.toArray⟩) = tV (wGo ++ 32 :: t) := fun t => by rw [show Str.ofString "go " = ⟨(wGo ++ [32]).toArray⟩ by decide +kernel, fq6, List.append_assoc]; rfl
  have eA : V.str (Str.ofString "at") = tV wAt := by decide +kernel
  have eG3 : (Str.ofString "go ").length = 3 := by decide +kernel
  have rdk : ∀ x : Ad, x.Wf → readM x.shw = .ok x := fun x wf => qqr (tqv wf).v wf
  walk_at "rd"
  refine ⟨fun σ H1 => Same H H1 ∧ ∃ gg : List Nat, σ = [some (.ref a), some (tV gg), none, none, none, none, none, none, none, none, none, none] ∧ 0 < gg.length ∧ gg.length ≤ 5 ∧ ∀ c ∈ gg, isSg c = true, ⟨a, ns, 0, rfl, hS, _, rfl, fun l H1 h1 h2 h3 s1 => ⟨s1, l, rfl, h1, h2, h3⟩⟩, ?_⟩
  rintro σ H1 ⟨s1, gg, rfl, hg0, hg1, hgs⟩
  walk_at "rd"
  refine ⟨fun σ H2 => Same H H2 ∧ ∃ (b : Ad) (vb : V), σ = [some (.ref a), some (tV gg), some vb, none, none, none, none, none, none, none, none, none] ∧ GoodAd 3 b ∧ IsT H2 b.data vb, ?_, ?_⟩
  ·refine ⟨a, ns, 1, 7, rfl, s1.seq hS, by decide, fun is pc H2 hil s2 e2 => ⟨pc, is, gg, true, rfl, e2, hil, hg0, by lia, hgs, fun x u H3 ok ti ln sc s3 hu => ?_⟩⟩
   exact ⟨s1.trans (s2.trans s3), x, u, rfl, ⟨ok.wf, ti, sc rfl, ln⟩, hu⟩
  rintro σ H2 ⟨s2, b, vb, rfl, gb, hb⟩
  have lb := gb.ln
  have szb := gb.ti.sz gb.wf (by lia)
  walk_at "rd"
  refine ⟨fun σ H3 => ∃ pd : Addr, H2 pd = none ∧ SameBut pd H2 H3 ∧ Dsk K H3 g.bqC pd (plainM b) ∧ σ = [some (.ref a), some (tV gg), some vb, some (.ref pd), none, none, none, none, none, none, none, none], ?_, ?_⟩
  ·exact ⟨b, vb, rfl, hb.k, gb.wf, szb, fun H3 s3 p dx np nd ne => ⟨p, dx, _, rfl, aqh, .inr ⟨b.shw, rfl, szb.all, iqs gb.wf, .inr (.inr ⟨b, rdk b gb.wf, gb.sc, by lia, fun H4 s4 d4 => ⟨rfl, p, Wm.Same.free s3 np, (s3.but.trans (kqi nd)).trans s4, d4, rfl⟩⟩)⟩⟩⟩
  rintro σ H3 ⟨pd, npd, s3, d3, rfl⟩
  have hb3 := hb.mono (s3.same npd).toT
  walk_at "rd"
  refine ⟨fun σ H4 => ∃ pb : Addr, pb ≠ pd ∧ Same H3 H4 ∧ Dsk K H4 g.bqC pb (plainM b) ∧ σ = [some (.ref a), some (tV gg), some vb, some (.ref pd), some (.ref pb), none, none, none, none, none, none, none], ?_, ?_⟩
  ·refine ⟨b, vb, rfl, hb3.k, gb.wf, szb, fun H4 s4 p dx np nd ne => ⟨p, dx, _, rfl, aqh, .inr ⟨b.shw, rfl, szb.all, iqs gb.wf, .inr (.inr ⟨b, rdk b gb.wf, gb.sc, by lia, fun H5 s5 d5 => ⟨rfl, p, fun z => ?_, s4.trans (((kqi nd).trans s5).same np), d5, rfl⟩⟩)⟩⟩⟩
   obtain ⟨_, _, _, e, _⟩ := d3
   rw [z, s4 _ _ e] at np
   cases np
  rintro σ H4 ⟨pb, nbd, s4, dB, rfl⟩
  have hb4 := hb3.mono s4.toT
  have sb4 := s3.trans s4.but
  have d4 := d3.same s4
  clear hb3 d3 s3 s4
  walk_at "rd"
  refine ⟨fun σ H5 => Same H4 H5 ∧ ∃ vh : V, IsK K H5 (plainM b).data vh ∧ σ = [some (.ref a), some (tV gg), some vb, some (.ref pd), some (.ref pb), some vh, none, none, none, none, none, none], ?_, ?_⟩
  ·exact ⟨b, vb, rfl, hb4.k, gb.wf, by lia, fun u H4 s4 hu => ⟨s4, u, hu, rfl⟩⟩
  rintro σ H5 ⟨s5, vh, hvh, rfl⟩
  have gp : GoodAd 3 (plainM b) := ⟨iqL gb.wf, fqG gb.ti, mq6 gb.sc, by have := gqB b; lia⟩
  have szp := gp.ti.sz gp.wf (by have := gp.ln; lia)
  walk_at "rd"
  refine ⟨fun σ H6 => Same H5 H6 ∧ σ = [some (.ref a), some (tV gg), some vb, some (.ref pd), some (.ref pb), some vh, none, none, none, none, none, none], ?_, ?_⟩
  ·refine cqD (d4.same s5) ⟨pd, _, wAt, by rw [eA], d4.same s5, gp.le (by decide), .inl ⟨rfl, fun H6 s6 => ⟨plainM b, vh, rfl, hvh.mono s6, gp.wf, szp, fun H7 s7 => ?_⟩⟩⟩
   walk_at "rd"
   exact s6.trans s7
  rintro σ H6 ⟨s6, rfl⟩
  walk_at "rd"
  refine ⟨by decide, by decide, ?_⟩
  refine dqJ (fun i σ H' => SameBut pd H4 H' ∧ ∃ (x : Ad) (vh : V) (v6 v7 v8 v9 v10 v11 : Option V), σ = [some (.ref a), some (tV gg), some vb, some (.ref pd), some (.ref pb), some vh, v6, v7, v8, v9, v10, v11] ∧ GoodAd (3 + 3 * i) x ∧ IsK K H' x.data vh ∧ Dsk K H' g.bqC pd x) ⟨(s5.trans s6).but, plainM b, vh, none, none, none, none, none, none, rfl, gp, hvh.mono s6, d4.same (s5.trans s6)⟩ ?_ ?_
  rotate_left
  ·rintro σ H7 ⟨sb, x, vh, v6, v7, v8, v9, v10, v11, rfl, gx, hx, dk⟩
   walk_at "rd"
   have dB7 := dB.but d4 nbd sb
   have ty : ∀ (v : V) (t : String), (∀ H', TyOf K H' v (.type t)) → W.kitOne K (.type t) (.type "str") = some false → ∀ (He : Hp) (R : VK), (∀ H', Same He H' → R (.int 0) H') → fqS K g.bqC [.non, v] He R E0 := fun v t h1 h2 He R hR => ⟨.non, v, 0, rfl, .inl ⟨rfl, .inl ⟨rfl, .type t, h1, h2⟩⟩, hR⟩
   refine cqD dB7 ⟨pb, _, wAt, by rw [eA], dB7, gp.le (by decide), .inl ⟨rfl, fun Ha sa => ⟨b, vb, rfl, (d4.keep sb hb4.k).mono sa, gb.wf, by lia, fun u Hb sb' hu => ⟨_, u, rfl, hu, gp.wf, szp, fun Hc sc => ?_⟩⟩⟩⟩
   walk_at "rd"
   refine ty .non "NoneType" (fun _ => .non) (jqP K "NoneType" (by decide) "str" (by decide)) _ _ fun Hd sd => ?_
   walk_at "rd"
   refine ty (.int 7) "int" (fun _ => .int _) (jqP K "int" (by decide) "str" (by decide)) _ _ fun He se => ?_
   walk_at "rd"
   exact k He
  clear hvh s5 s6
  rintro i σ H7 hi ⟨sb, x, vh, v6, v7, v8, v9, v10, v11, rfl, gx, hx, dk⟩
  have hi8 : i < 8 := hi
  have s7 : Same H H7 := s2.trans ((sb4.trans sb).same npd)
  have lx := gx.ln
  have szx := gx.ti.sz gx.wf (by lia)
  walk_at "rd"
  refine ⟨fun σ H8 => Same H7 H8 ∧ ∃ (y : Ad) (vy : V), σ = [some (.ref a), some (tV gg), some vb, some (.ref pd), some (.ref pb), some vh, some (.int (0 + (i : Int))), some vy, v8, v9, v10, v11] ∧ y.Wf ∧ y.Tiny ∧ y.steps.length ≤ 3 ∧ IsT H8 y.data vy, ?_, ?_⟩
  ·refine ⟨.inl ⟨by decide, by decide⟩, a, ns, 8 + 7 * i, 7, by rw [show (8 : Int) + 7 * (0 + (i : Int)) = ((8 + 7 * i : Nat) : Int) by lia]; rfl, s7.seq hS, by decide, fun is pc H8 hil s8 e8 => ?_⟩
   exact ⟨pc, is, gg, false, rfl, e8, hil, hg0, by lia, hgs, fun y u H9 ok ti ln _ s9 hu => ⟨s8.trans s9, y, u, rfl, ok.wf, ti, ln, hu⟩⟩
  rintro σ H8 ⟨s8, y, vy, rfl, wy, ty, ly, hy⟩
  have szy := ty.sz wy (by lia)
  walk_at "rd"
  refine ⟨fun σ H9 => Same H8 H9 ∧ σ = [some (.ref a), some (tV gg), some vb, some (.ref pd), some (.ref pb), some vh, some (.int (0 + (i : Int))), some vy, v8, v9, v10, v11], ?_, ?_⟩
  ·obtain ⟨py, wy', qy, e1, hpy, _, _⟩ := rqC hy
   rw [e1]
   walk_at "rd"
   refine ⟨_, _, .inr (.of hpy), iqY, ?_⟩
   walk_at "rd"
   refine ite2 (fun z => ?_) (fun _ => Same.refl _)
   rw [← e1]
   refine ⟨y, vy, rfl, hy.k, wy, szy, fun H9 s9 => ⟨y.shw, y, rfl, szy.all, iqs wy, rdk y wy, fqv.mp z, fun H10 s10 => ⟨true, rfl, ?_⟩⟩⟩
   rw [if_neg (by decide)]
   exact s9.trans s10
  rintro σ H9 ⟨s9, rfl⟩
  walk_at "rd"
  refine ⟨fun σ H10 => H9 = H10 ∧ ∃ c : Int, σ = [some (.ref a), some (tV gg), some vb, some (.ref pd), some (.ref pb), some vh, some (.int (0 + (i : Int))), some vy, some (.int c), v9, v10, v11], ?_, ?_⟩
  ·refine ⟨.inl ⟨by decide, by decide⟩, a, ns, 9 + 7 * i, by rw [show (9 : Int) + 7 * (0 + (i : Int)) = ((9 + 7 * i : Nat) : Int) by lia], (s7.trans (s8.trans s9)).seq hS, rfl, _, rfl⟩
  rintro σ H10 ⟨rfl, c, rfl⟩
  walk_at "rd"
  refine ⟨fun σ H10 => Same H9 H10 ∧ σ = [some (.ref a), some (tV gg), some vb, some (.ref pd), some (.ref pb), some vh, some (.int (0 + (i : Int))), some vy, some (.int c), some (tV y.shw), v10, v11], ?_, ?_⟩
  ·exact ⟨y, vy, rfl, (hy.mono s9.toT).k, wy, szy, fun H10 s10 => ⟨s10, rfl⟩⟩
  rintro σ H10 ⟨s10, rfl⟩
  walk_at "rd"
  refine ⟨fun σ H11 => H10 = H11 ∧ ∃ m : Nat, m ≤ y.shw.length ∧ σ = [some (.ref a), some (tV gg), some vb, some (.ref pd), some (.ref pb), some vh, some (.int (0 + (i : Int))), some vy, some (.int c), some (tV y.shw), some (.int (m : Int)), v11], ?_, ?_⟩
  ·have h1 := Int.emod_nonneg (c / 13) (show (y.shw.length : Int) + 1 ≠ 0 by lia)
   have h2 := Int.emod_lt_of_pos (c / 13) (show 0 < (y.shw.length : Int) + 1 by lia)
   obtain ⟨m, em⟩ : ∃ m : Nat, c / 13 % ((y.shw.length : Int) + 1) = (m : Int) := ⟨_, (Int.toNat_of_nonneg h1).symm⟩
   rw [em] at h2 ⊢
   exact ⟨⟨by decide, by decide⟩, aqp (Nat.le_trans szy.all (by decide)), by lia, rfl, m, by lia, rfl⟩
  rintro σ H11 ⟨rfl, m, hm, rfl⟩
  have s7A : Same H7 H10 := s8.trans (s9.trans s10)
  walk_at "rd"
  refine ⟨fun σ H11 => Same H10 H11 ∧ σ = [some (.ref a), some (tV gg), some vb, some (.ref pd), some (.ref pb), some vh, some (.int (0 + (i : Int))), some vy, some (.int c), some (tV y.shw), some (.int (m : Int)), v11], ?_, ?_⟩
  ·have hlen := Ad.Tiny.len wy ty (by lia)
   have h128 := iqs wy
   obtain ⟨d, hd, hda⟩ := jqW (Str.ofString "/ :#~?").cps.toList c 6 (by decide) (by decide +kernel)
   have hd2 : d < 128 := (show ∀ d ∈ (Str.ofString "/ :#~?").cps.toList, d < 128 by decide +kernel) d hd
   rw [mqK, nq7]
   have dk10 := dk.same s7A
   refine ⟨aqp (Nat.le_trans szy.all (by decide)), by decide, d, by decide +kernel, hda, aqp (by rw [bqc, List.length_take]; lia), aqp (Nat.le_trans szy.all (by decide)), ?_⟩
   rw [show (⟨(y.shw.take m).toArray⟩ ++ ⟨#[d]⟩ : Str) = ⟨(y.shw.take m ++ [d]).toArray⟩ from fq6 _ _, fq6, bqc, bqc]
   refine ⟨aqp (by have := List.length_take (i := m) (l := y.shw); simp only [List.length_append, List.length_take, List.length_drop, List.length_singleton] at this ⊢; lia), pd, x, _, rfl, dk10, gx.le (by lia), ?_, fun e he => ?_, fun Ha sa => ⟨true, rfl, ?_⟩⟩
   ·simp only [List.length_append, List.length_take, List.length_drop, List.length_singleton]; lia
   ·rcases List.mem_append.mp he with he | he
    ·rcases List.mem_append.mp he with he | he
     ·exact h128 e (List.mem_of_mem_take he)
     ·rw [List.mem_singleton.mp he]; exact hd2
    ·exact h128 e (List.mem_of_mem_drop he)
   rw [if_neg (by decide)]
   refine cqD (dk10.same sa) ⟨pd, x, wAt, by rw [eA], dk10.same sa, gx.le (by lia), .inl ⟨rfl, fun Hb sb => ⟨x, vh, rfl, hx.mono (s7A.trans (sa.trans sb)), gx.wf, szx, fun Hc sc => ?_⟩⟩⟩
   walk_at "rd"
   exact sa.trans (sb.trans sc)
  rintro σ H11 ⟨s11, rfl⟩
  have lr := kqm (b := x) wy
  have wr := mqa gx.wf wy gx.sc
  have wD := iqL wr
  have tD := fqG (kq5 gx.ti ty)
  have lD := gqB (resM x y)
  have sD := mq6 (oqI gx.wf wy gx.sc).1
  have szD := tD.sz wD (by lia)
  have s7B := s7A.trans s11
  walk_at "rd"
  refine ⟨fun σ H12 => Same H11 H12 ∧ ∃ vd : V, IsK K H12 (plainM (resM x y)).data vd ∧ σ = [some (.ref a), some (tV gg), some vb, some (.ref pd), some (.ref pb), some vd, some (.int (0 + (i : Int))), some vy, some (.int c), some (tV y.shw), some (.int (m : Int)), v11], ?_, ?_⟩
  ·exact ⟨x, y, vh, vy, rfl, hx.mono s7B, (hy.mono (s9.trans (s10.trans s11)).toT).k, gx.sc, wy, by lia, by lia, fun u Ha sa hu => ⟨_, u, rfl, hu, wr, by lia, fun u' Hb sb hu' => ⟨sa.trans sb, u', hu', rfl⟩⟩⟩
  rintro σ H12 ⟨s12, vd, hvd, rfl⟩
  walk_at "rd"
  refine ⟨fun σ H13 => SameBut pd H12 H13 ∧ Dsk K H13 g.bqC pd (plainM (resM x y)) ∧ σ = [some (.ref a), some (tV gg), some vb, some (.ref pd), some (.ref pb), some vd, some (.int (0 + (i : Int))), some vy, some (.int c), some (tV y.shw), some (.int (m : Int)), some (tV (plainM (resM x y)).shw)], ?_, ?_⟩
  ·have s7C := s7B.trans s12
   refine cqD (dk.same s7C) ⟨y, vy, rfl, (hy.mono (s9.trans (s10.trans (s11.trans s12))).toT).k, wy, szy, fun Ha sa => ?_⟩
   walk_at "rd"
   refine ⟨aqp (by have := szy.all; rw [eG3]; lia), pd, x, _, by rw [eG], dk.same (s7C.trans sa), gx.le (by lia), .inr ⟨y.shw, szy.all, iqs wy, .inr ⟨y, rdk y wy, ty, by lia, rfl, fun Hb sb d => ⟨sa.but.trans sb, d, rfl⟩⟩⟩⟩
  rintro σ H13 ⟨s13, d13, rfl⟩
  have hvd13 := (dk.same (s7B.trans s12)).keep s13 hvd
  have g13 : GoodAd (3 + 3 * (i + 1)) (plainM (resM x y)) := ⟨wD, tD, sD, by lia⟩
  walk_at "rd"
  refine ⟨_, vd, rfl, hvd13, wD, szD, fun Ha sa => ?_⟩
  walk_at "rd"
  refine cqD (d13.same sa) ⟨pd, _, wAt, by rw [eA], d13.same sa, g13.le (by lia), .inl ⟨rfl, fun Hb sb' => ?_⟩⟩
  walk_at "rd"
  exact ⟨(sb.trans (s7B.trans s12).but).trans (s13.trans (sa.trans sb').but), _, vd, _, _, _, _, _, _, ⟨rfl, rfl, rfl, rfl, rfl, rfl, rfl⟩, g13, hvd13.mono (sa.trans sb'), d13.same (sa.trans sb')⟩
end
theorem usl1 {us : List Value} (h : us.length = 1) : ∃ x0, us = [x0] := List.length_eq_one_iff.mp h
local macro_rules | `(tactic| walk_at "b1") => `(tactic| exact fun _ _ _ _ _ _ us hl => by obtain ⟨x0, e⟩ := usl1 hl; subst e; rfl)
theorem usl2 {us : List Value} (h : us.length = 2) : ∃ x0 x1, us = [x0, x1] := by
 cases us with
 | nil => cases h
 | cons x0 l =>
  obtain ⟨x1, rfl⟩ := usl1 (Nat.succ.inj h)
  exact ⟨_, _, rfl⟩
local macro_rules | `(tactic| walk_at "b2") => `(tactic| exact fun _ _ _ _ _ _ us hl => by obtain ⟨x0, x1, e⟩ := usl2 hl; subst e; rfl)
theorem usl3 {us : List Value} (h : us.length = 3) : ∃ x0 x1 x2, us = [x0, x1, x2] := by
 cases us with
 | nil => cases h
 | cons x0 l =>
  obtain ⟨x1, x2, rfl⟩ := usl2 (Nat.succ.inj h)
  exact ⟨_, _, _, rfl⟩
local macro_rules | `(tactic| walk_at "b3") => `(tactic| exact fun _ _ _ _ _ _ us hl => by obtain ⟨x0, x1, x2, e⟩ := usl3 hl; subst e; rfl)
abbrev fo (n : Str) (s : Stmt) (d k a b : Value) (e : Option Addr) (c t : Value) : FuncData := W.fnOf n n (defArgs s) (defBody s) (defScope s) d k a b e c t
theorem uqI {l : PySem.W.OpenLaw} {w : World} {K : W.Frag} {h : Heap} {mg : Str → Option Value} {fa : Addr} (X : K.In h) (Gl : h.Ns mainGlobals mg) (hfa : mg "law" = some (.ref fa)) (d : D K mg)
  {kC_Cursor : Addr} (aC_Cursor : W.nsIn K mainGlobals "Cursor" = some (some (.ref kC_Cursor)))
  {kC_Desk : Addr} (aC_Desk : W.nsIn K mainGlobals "Desk" = some (some (.ref kC_Desk)))
  {eC_NoBase : Addr} (en_NoBase : W.nsIn K mainGlobals "NoBase" = some (some (.ref eC_NoBase)))
  {eC_NoAddress : Addr} (en_NoAddress : W.nsIn K mainGlobals "NoAddress" = some (some (.ref eC_NoAddress)))
  {eC_NoRow : Addr} (en_NoRow : W.nsIn K mainGlobals "NoRow" = some (some (.ref eC_NoRow)))
  {eC_NoName : Addr} (en_NoName : W.nsIn K mainGlobals "NoName" = some (some (.ref eC_NoName)))
  {eC_NoValue : Addr} (en_NoValue : W.nsIn K mainGlobals "NoValue" = some (some (.ref eC_NoValue)))
  {eC_NoPattern : Addr} (en_NoPattern : W.nsIn K mainGlobals "NoPattern" = some (some (.ref eC_NoPattern)))
  {eC_WayError : Addr} (en_WayError : W.nsIn K mainGlobals "WayError" = some (some (.ref eC_WayError)))
  (a6 : W.findIn K (.ref eC_NoAddress) "__init__" = some (some (.ref f6))) (i6 : W.isFn K (.ref f6) = true) (l6 : K.lookup f6 = some ⟨oc6, od6, .func (W.fnOf "__init__" "NoAddress.__init__" (defArgs aqK) (defBody aqK) (defScope aqK) .none kV6 dc6 pm6 an6 cd6 ct6), sl6⟩)
  (a10 : W.findIn K (.ref kC_Cursor) "__init__" = some (some (.ref f10))) (i10 : W.isFn K (.ref f10) = true) (l10 : K.lookup f10 = some ⟨oc10, od10, .func (W.fnOf "__init__" "Cursor.__init__" (defArgs aqY) (defBody aqY) (defScope aqY) .none kV10 dc10 pm10 an10 cd10 ct10), sl10⟩)
  (a11 : W.findIn K (.ref kC_Cursor) "at_end" = some (some (.ref f11))) (i11 : W.isFn K (.ref f11) = true) (l11 : K.lookup f11 = some ⟨oc11, od11, .func (W.fnOf "at_end" "Cursor.at_end" (defArgs bqh) (defBody bqh) (defScope bqh) .none kV11 dc11 pm11 an11 cd11 ct11), sl11⟩)
  (a12 : W.findIn K (.ref kC_Cursor) "take" = some (some (.ref f12))) (i12 : W.isFn K (.ref f12) = true) (l12 : K.lookup f12 = some ⟨oc12, od12, .func (W.fnOf "take" "Cursor.take" (defArgs bqQ) (defBody bqQ) (defScope bqQ) .none kV12 dc12 pm12 an12 cd12 ct12), sl12⟩)
  (a13 : W.findIn K (.ref kC_Cursor) "passes" = some (some (.ref f13))) (i13 : W.isFn K (.ref f13) = true) (l13 : K.lookup f13 = some ⟨oc13, od13, .func (W.fnOf "passes" "Cursor.passes" (defArgs bqj) (defBody bqj) (defScope bqj) .none kV13 dc13 pm13 an13 cd13 ct13), sl13⟩)
  (a26 : W.findIn K (.ref kC_Cursor) "sees" = some (some (.ref f26))) (i26 : W.isFn K (.ref f26) = true) (l26 : K.lookup f26 = some ⟨oc26, od26, .func (W.fnOf "sees" "Cursor.sees" (defArgs bqS) (defBody bqS) (defScope bqS) .none kV26 dc26 pm26 an26 cd26 ct26), sl26⟩)
  {dt43_0 : Tok}
  (a43 : W.nsIn K mainGlobals "taken_text" = some (some (.ref f43))) (l43 : K.lookup f43 = some ⟨oc43, od43, .func (fo "taken_text" dqx (.ref T43) kV43 dc43 pm43 an43 cd43 ct43), sl43⟩)
  (d43 : K.lookup T43 = some ⟨ocT43, odT43, .seq #[.none] nT43, slT43⟩)
  {dt48_0 : Tok}
  (a48 : W.nsIn K mainGlobals "taken_filled_text" = some (some (.ref f48))) (l48 : K.lookup f48 = some ⟨oc48, od48, .func (fo "taken_filled_text" bql (.ref T48) kV48 dc48 pm48 an48 cd48 ct48), sl48⟩)
  (d48 : K.lookup T48 = some ⟨ocT48, odT48, .seq #[.none] nT48, slT48⟩)
  (a56 : W.findIn K (.ref kC_Desk) "__init__" = some (some (.ref f56))) (i56 : W.isFn K (.ref f56) = true) (l56 : K.lookup f56 = some ⟨oc56, od56, .func (W.fnOf "__init__" "Desk.__init__" (defArgs bqg) (defBody bqg) (defScope bqg) .none kV56 dc56 pm56 an56 cd56 ct56), sl56⟩)
  (a57 : W.findIn K (.ref kC_Desk) "goal_of" = some (some (.ref f57))) (i57 : W.isFn K (.ref f57) = true) (l57 : K.lookup f57 = some ⟨oc57, od57, .func (W.fnOf "goal_of" "Desk.goal_of" (defArgs bqw) (defBody bqw) (defScope bqw) .none kV57 dc57 pm57 an57 cd57 ct57), sl57⟩)
  (a58 : W.findIn K (.ref kC_Desk) "go" = some (some (.ref f58))) (i58 : W.isFn K (.ref f58) = true) (l58 : K.lookup f58 = some ⟨oc58, od58, .func (W.fnOf "go" "Desk.go" (defArgs dqM) (defBody dqM) (defScope dqM) .none kV58 dc58 pm58 an58 cd58 ct58), sl58⟩)
  (a59 : W.findIn K (.ref kC_Desk) "say" = some (some (.ref f59))) (i59 : W.isFn K (.ref f59) = true) (l59 : K.lookup f59 = some ⟨oc59, od59, .func (W.fnOf "say" "Desk.say" (defArgs cqZ) (defBody cqZ) (defScope cqZ) .none kV59 dc59 pm59 an59 cd59 ct59), sl59⟩)
  {qa1_NO_WAY : Addr} {qd1_NO_WAY : Option Addr} {qn1_NO_WAY : Nat} {qs1_NO_WAY : Array (Option Value)} {qa0_NO_WAY : Addr} {qd0_NO_WAY : Option Addr} {qn0_NO_WAY : Nat} {qs0_NO_WAY : Array (Option Value)}
  (e_NO_WAY : W.nsIn K mainGlobals "NO_WAY" = some (some (.ref qa0_NO_WAY)))
  (y0_NO_WAY : K.lookup qa0_NO_WAY = some ⟨.type "tuple", qd0_NO_WAY, .seq #[.bool false, .ref qa1_NO_WAY, .bool false] qn0_NO_WAY, qs0_NO_WAY⟩)
  (y1_NO_WAY : K.lookup qa1_NO_WAY = some ⟨.type "tuple", qd1_NO_WAY, .seq #[] qn1_NO_WAY, qs1_NO_WAY⟩)
  {qa0_WITH_TEXT : Addr} {qd0_WITH_TEXT : Option Addr} {qn0_WITH_TEXT : Nat} {qs0_WITH_TEXT : Array (Option Value)} {qt0_0_WITH_TEXT : Tok} {qt1_0_WITH_TEXT : Tok} {qt2_0_WITH_TEXT : Tok}
  (e_WITH_TEXT : W.nsIn K mainGlobals "WITH_TEXT" = some (some (.ref qa0_WITH_TEXT)))
  (y0_WITH_TEXT : K.lookup qa0_WITH_TEXT = some ⟨.type "tuple", qd0_WITH_TEXT, .seq #[.str (Str.ofString "go") qt0_0_WITH_TEXT, .str (Str.ofString "link") qt1_0_WITH_TEXT, .str (Str.ofString "add") qt2_0_WITH_TEXT] qn0_WITH_TEXT, qs0_WITH_TEXT⟩)
  {qa_NAMES_BEHIND : Addr} (e_NAMES_BEHIND : W.nsIn K mainGlobals "NAMES_BEHIND" = some (some (.ref qa_NAMES_BEHIND)))
  (yl_NAMES_BEHIND : PyProof.Rows.KTD.tabLook PyProof.Rows.KTD.flatLooks (fun a => K.lookup a) qa_NAMES_BEHIND cqA = true) (yh_NAMES_BEHIND : PyProof.Rows.KTD.hashesOf (fun a => K.lookup a) qa_NAMES_BEHIND = cqA.map fun p => hashStr w p.1)
  {iqo : Tok} (e_SIGNS : W.nsIn K mainGlobals "SIGNS" = some (some (.str (Str.ofString " !\"#$&'()*+,-./0123456789:;<=>?@ABCDEFGHIJKLMNOPQRSTUVWXYZ[\\]^_`abcdefghijklmnopqrstuvwxyz{|}~") iqo)))
  {eq6 : Tok} (e_LETTERS : W.nsIn K mainGlobals "LETTERS" = some (some (.str (Str.ofString "abcdefghijklmnopqrstuvwxyzABCDEFGHIJKLMNOPQRSTUVWXYZ") eq6)))
  {aqP : Tok} (e_LETTERS_AND_FIGURES : W.nsIn K mainGlobals "LETTERS_AND_FIGURES" = some (some (.str (Str.ofString "abcdefghijklmnopqrstuvwxyzABCDEFGHIJKLMNOPQRSTUVWXYZ0123456789") aqP)))
  {eqY : Tok} (e_FIGURES : W.nsIn K mainGlobals "FIGURES" = some (some (.str (Str.ofString "0123456789") eqY)))
  {hqM : Tok} (e_PLAIN : W.nsIn K mainGlobals "PLAIN" = some (some (.str (Str.ofString "abcdefghijklmnopqrstuvwxyzABCDEFGHIJKLMNOPQRSTUVWXYZ0123456789-_.") hqM)))
  {bqA : Tok} (e_FREE_IN_STEPS : W.nsIn K mainGlobals "FREE_IN_STEPS" = some (some (.str (Str.ofString "!$'()*,;@&=+") bqA)))
  {aq1 : Tok} (e_FREE_IN_QUESTIONS : W.nsIn K mainGlobals "FREE_IN_QUESTIONS" = some (some (.str (Str.ofString "!$'()*,;@+/?:") aq1)))
  {bqF : Tok} (e_FREE_IN_MARKS : W.nsIn K mainGlobals "FREE_IN_MARKS" = some (some (.str (Str.ofString "!$'()*,;@&=+/?:") bqF)))
  {bqW : Tok} (e_FIRST_NUMBER : W.nsIn K mainGlobals "FIRST_NUMBER" = some (some (.int 32 bqW)))
  {cqo : Tok} (e_LAST_NUMBER : W.nsIn K mainGlobals "LAST_NUMBER" = some (some (.int 126 cqo)))
  {bqi : Tok} (e_NUMBER_LEFT_OUT : W.nsIn K mainGlobals "NUMBER_LEFT_OUT" = some (some (.int 37 bqi)))
  {bqy : Tok} (e_SMALL_FIGURES : W.nsIn K mainGlobals "SMALL_FIGURES" = some (some (.str (Str.ofString "0123456789abcdef") bqy)))
  {bqE : Tok} (e_GREAT_FIGURES : W.nsIn K mainGlobals "GREAT_FIGURES" = some (some (.str (Str.ofString "0123456789ABCDEF") bqE)))
  {fqX : Tok} (e_SCHEME : W.nsIn K mainGlobals "SCHEME" = some (some (.int 0 fqX)))
  {iqb : Tok} (e_HOUSE : W.nsIn K mainGlobals "HOUSE" = some (some (.int 1 iqb)))
  {lqe : Tok} (e_DOOR : W.nsIn K mainGlobals "DOOR" = some (some (.int 2 lqe)))
  {oqi : Tok} (e_WAY : W.nsIn K mainGlobals "WAY" = some (some (.int 3 oqi)))
  {dqV : Tok} (e_QUESTION : W.nsIn K mainGlobals "QUESTION" = some (some (.int 4 dqV)))
  {lqM : Tok} (e_MARK : W.nsIn K mainGlobals "MARK" = some (some (.int 5 lqM)))
  {gqn : Tok} (e_ROOTED : W.nsIn K mainGlobals "ROOTED" = some (some (.int 0 gqn)))
  {iqa : Tok} (e_STEPS : W.nsIn K mainGlobals "STEPS" = some (some (.int 1 iqa)))
  {lqt : Tok} (e_ENDS : W.nsIn K mainGlobals "ENDS" = some (some (.int 2 lqt)))
  {bqs : Tok} (e_LONGEST_SCHEME : W.nsIn K mainGlobals "LONGEST_SCHEME" = some (some (.int 8 bqs)))
  {bqG : Tok} (e_LONGEST_HOUSE : W.nsIn K mainGlobals "LONGEST_HOUSE" = some (some (.int 60 bqG)))
  {cq6 : Tok} (e_LAST_DOOR : W.nsIn K mainGlobals "LAST_DOOR" = some (some (.int 65535 cq6)))
  {lqm : Tok} (e_STAY : W.nsIn K mainGlobals "STAY" = some (some (.str (Str.ofString ".") lqm)))
  {t_UP : Tok} (e_UP : W.nsIn K mainGlobals "UP" = some (some (.str (Str.ofString "..") t_UP)))
  {bqH : Tok} (e_FIRST_FIGURES : W.nsIn K mainGlobals "FIRST_FIGURES" = some (some (.str (Str.ofString "234567") bqH)))
  (z_all : W.nsIn K mainGlobals "all" = some none)
  (z_ord : W.nsIn K mainGlobals "ord" = some none)
  (z_len : W.nsIn K mainGlobals "len" = some none)
  (z_int : W.nsIn K mainGlobals "int" = some none)
  (z_isinstance : W.nsIn K mainGlobals "isinstance" = some none)
  (z_str : W.nsIn K mainGlobals "str" = some none)
  (z_range : W.nsIn K mainGlobals "range" = some none)
  (z_tuple : W.nsIn K mainGlobals "tuple" = some none)
  (z_ValueError : W.nsIn K mainGlobals "ValueError" = some none)
  (ex_NoBase : excInJ K eC_NoBase vErr vNew none = true)
  (ew1_WayError : W.typeIn K (.ref eC_WayError) = some (.type "type"))
  (ew2_WayError : W.subIn K (.ref eC_WayError) (.type "BaseException") = some true)
  (ew3_WayError : (W.clsIn K eC_WayError).isSome = true)
  (ew1_NoAddress : W.typeIn K (.ref eC_NoAddress) = some (.type "type"))
  (ew2_NoAddress : W.subIn K (.ref eC_NoAddress) (.type "BaseException") = some true)
  (ew3_NoAddress : (W.clsIn K eC_NoAddress).isSome = true)
  (el0_NoBase : W.findIn K (.ref eC_NoBase) "__getattribute__" = some (some (.builtin "BaseException.__getattribute__")))
  (el1_NoBase : W.findIn K (.ref eC_NoBase) "__class__" = some (some (.builtin "object.__class__")))
  (el2_NoBase : W.findIn K (.ref eC_NoBase) "__getattr__" = some none)
  (el3_NoBase : W.mroIn K eC_NoBase (.type "object") = some true)
  (el4_NoBase : W.mroIn K eC_NoBase (.type "BaseException") = some true)
  (el5_NoBase : (W.clsIn K eC_NoBase).isSome = true)
  (el0_NoAddress : W.findIn K (.ref eC_NoAddress) "__getattribute__" = some (some (.builtin "BaseException.__getattribute__")))
  (el1_NoAddress : W.findIn K (.ref eC_NoAddress) "__class__" = some (some (.builtin "object.__class__")))
  (el2_NoAddress : W.findIn K (.ref eC_NoAddress) "__getattr__" = some none)
  (el3_NoAddress : W.mroIn K eC_NoAddress (.type "object") = some true)
  (el4_NoAddress : W.mroIn K eC_NoAddress (.type "BaseException") = some true)
  (el5_NoAddress : (W.clsIn K eC_NoAddress).isSome = true)
  (ey_NoAddress : excInJ K eC_NoAddress vErr vNew (some (.ref f6)) = true)
  (ek_NoAddress : W.keepIn K (.ref eC_NoAddress) = true)
  (es_NoAddress : W.findIn K (.ref eC_NoAddress) "__setattr__" = some (some (.builtin "object.__setattr__")))
  (eo_NoAddress : overErr K eC_NoAddress = true)
  (eh_NoAddress : W.hasDictIn K eC_NoAddress = true)
  (ef_NoAddress_at : W.findIn K (.ref eC_NoAddress) "at" = some none)
  (eu_NoBase_WayError : W.subIn K (.ref eC_NoBase) (.ref eC_WayError) = some true)
  (eu_NoAddress_WayError : W.subIn K (.ref eC_NoAddress) (.ref eC_WayError) = some true)
  (eu_NoAddress_NoAddress : W.subIn K (.ref eC_NoAddress) (.ref eC_NoAddress) = some true)
  (ei_NoBase_NoBase : W.kitOne K (.ref eC_NoBase) (.ref eC_NoBase) = some true)
  (ei_NoAddress_NoBase : W.kitOne K (.ref eC_NoAddress) (.ref eC_NoBase) = some false)
  (ei_NoBase_ValueError : W.kitOne K (.ref eC_NoBase) (.type "ValueError") = some true)
  (ei_NoAddress_ValueError : W.kitOne K (.ref eC_NoAddress) (.type "ValueError") = some true)
  (ei_NoBase_NoAddress : W.kitOne K (.ref eC_NoBase) (.ref eC_NoAddress) = some false)
  (ei_NoAddress_NoAddress : W.kitOne K (.ref eC_NoAddress) (.ref eC_NoAddress) = some true)
  (ei_NoBase_NoPattern : W.kitOne K (.ref eC_NoBase) (.ref eC_NoPattern) = some false)
  (ei_NoAddress_NoPattern : W.kitOne K (.ref eC_NoAddress) (.ref eC_NoPattern) = some false)
  (ei_NoBase_NoValue : W.kitOne K (.ref eC_NoBase) (.ref eC_NoValue) = some false)
  (ei_NoAddress_NoValue : W.kitOne K (.ref eC_NoAddress) (.ref eC_NoValue) = some false)
  (ei_NoBase_NoName : W.kitOne K (.ref eC_NoBase) (.ref eC_NoName) = some false)
  (ei_NoAddress_NoName : W.kitOne K (.ref eC_NoAddress) (.ref eC_NoName) = some false)
  (ei_NoBase_NoRow : W.kitOne K (.ref eC_NoBase) (.ref eC_NoRow) = some false)
  (ei_NoAddress_NoRow : W.kitOne K (.ref eC_NoAddress) (.ref eC_NoRow) = some false)
  (pg_Cursor : W.plainGet K kC_Cursor Str.empty = true)
  (hd_Cursor : W.hasDictIn K kC_Cursor = true)
  (po_Cursor : W.plainOver K kC_Cursor = true)
  (sa_Cursor : W.findIn K (.ref kC_Cursor) "__setattr__" = some (some (.builtin "object.__setattr__")))
  (mk_Cursor : W.makesIn K kC_Cursor = true)
  (kc_Cursor : W.keepIn K (.ref kC_Cursor) = true)
  (nf_Cursor_text : W.findIn K (.ref kC_Cursor) "text" = some none)
  (nf_Cursor_place : W.findIn K (.ref kC_Cursor) "place" = some none)
  (pg_Desk : W.plainGet K kC_Desk Str.empty = true)
  (hd_Desk : W.hasDictIn K kC_Desk = true)
  (po_Desk : W.plainOver K kC_Desk = true)
  (sa_Desk : W.findIn K (.ref kC_Desk) "__setattr__" = some (some (.builtin "object.__setattr__")))
  (mk_Desk : W.makesIn K kC_Desk = true)
  (kc_Desk : W.keepIn K (.ref kC_Desk) = true)
  (nf_Desk_address : W.findIn K (.ref kC_Desk) "address" = some none)
  (nf_Desk_table : W.findIn K (.ref kC_Desk) "table" = some none)
  (kk : ((((W.keepIn K (.ref f6) && W.keepIn K (.ref f10)) && W.keepIn K (.ref f11)) && ((W.keepIn K (.ref f12) && W.keepIn K (.ref f13)) && W.keepIn K (.ref f26))) && (((W.keepIn K (.ref f43) && W.keepIn K (.ref f48)) && W.keepIn K (.ref f56)) && ((W.keepIn K (.ref f57) && W.keepIn K (.ref f58)) && W.keepIn K (.ref f59)))) = true)
  (cc : ((((W.codeIn K cd6 "NoAddress.__init__" && W.codeIn K cd10 "Cursor.__init__") && W.codeIn K cd11 "Cursor.at_end") && ((W.codeIn K cd12 "Cursor.take" && W.codeIn K cd13 "Cursor.passes") && W.codeIn K cd26 "Cursor.sees")) && (((W.codeIn K cd43 "taken_text" && W.codeIn K cd48 "taken_filled_text") && W.codeIn K cd56 "Desk.__init__") && ((W.codeIn K cd57 "Desk.goal_of" && W.codeIn K cd58 "Desk.go") && W.codeIn K cd59 "Desk.say"))) = true) :
  ∃ fd : FuncData, (∀ (s : Shared) (v : Value), BindsTo s fd ⟨[v], []⟩ [("_law_script", v)]) ∧ ∀ base : Heap, K.In base → base.Ns mainGlobals mg → FnOk l.prog w K mg base CX0 13 fa fd ["_law_script"] (mqU K) := by
 have e2 : d.f_law.a = fa := by have e := hfa.symm.trans d.f_law.m; cases e; rfl
 subst e2
 have M : ∀ {x : Str} {v : Value}, W.nsIn K mainGlobals x = some (some v) → mg x = some v := fun a => W.mg_of X Gl a
 simp only [Bool.and_eq_true] at kk cc
 obtain ⟨⟨⟨⟨ka6, ka10⟩, ka11⟩, ⟨⟨ka12, ka13⟩, ka26⟩⟩, ⟨⟨⟨ka43, ka48⟩, ka56⟩, ⟨⟨ka57, ka58⟩, ka59⟩⟩⟩ := kk
 obtain ⟨⟨⟨⟨ca6, ca10⟩, ca11⟩, ⟨⟨ca12, ca13⟩, ca26⟩⟩, ⟨⟨⟨ca43, ca48⟩, ca56⟩, ⟨⟨ca57, ca58⟩, ca59⟩⟩⟩ := cc
 have F6 := eqw (st := aqK) l6 ca6 ka6
 have F10 := eqw (st := aqY) l10 ca10 ka10
 have F11 := eqw (st := bqh) l11 ca11 ka11
 have F12 := eqw (st := bqQ) l12 ca12 ka12
 have F13 := eqw (st := bqj) l13 ca13 ka13
 have F26 := eqw (st := bqS) l26 ca26 ka26
 have F43 := oqM (st := dqx) l43 ca43 ka43
 have F48 := oqM (st := bql) l48 ca48 ka48
 have F56 := eqw (st := bqg) l56 ca56 ka56
 have F57 := eqw (st := bqw) l57 ca57 ka57
 have F58 := eqw (st := dqM) l58 ca58 ka58
 have F59 := eqw (st := cqZ) l59 ca59 ka59
 let g : G w K mg := {
  toD := d,
  bqe := f6, aq7 := _, cqS := F6,
  aqE := F6.binds (by walk_at "b2"),
  bqO := f10, bqx := _, dqK := F10,
  dqU := F10.binds (by walk_at "b2"),
  cqk := f11, bq0 := _, fqb := F11, cqN := ⟨a11, i11, F11.kp⟩,
  dqq := F11.binds (by walk_at "b1"),
  cqV := f12, cqC := _, fq9 := F12, bqv := ⟨a12, i12, F12.kp⟩,
  bqN := F12.binds (by walk_at "b1"),
  cqn := f13, bq3 := _, eqM := F13, aqw := ⟨a13, i13, F13.kp⟩,
  aqB := F13.binds (by walk_at "b2"),
  cqW := f26, cqE := _, fqQ := F26, bqV := ⟨a26, i26, F26.kp⟩,
  cqe := F26.binds (by walk_at "b2"),
  dqs := f43, cqi := _, gqW := T43, jqe := dt43_0, bqk := F43, bqI := M a43,
  gqT := F43.binds (ps := ["cursor", "free", "most"]) (ds := []) d43 fun _ _ _ _ _ _ us hl => by rw [List.append_nil] at hl; obtain ⟨x0, x1, x2, e⟩ := usl3 hl; subst e; exact ⟨_, rfl, rfl⟩,
  bqP := F43.binds (ps := ["cursor", "free", "most"]) (ds := [.none]) d43 fun _ _ _ _ _ _ us hl => by obtain ⟨x, y, rfl⟩ := oqc hl; exact ⟨_, rfl, rfl⟩,
  bqq := f48, aqS := _, dqn := T48, eqy := dt48_0, bqm := F48, bq4 := M a48,
  cq9 := F48.binds (ps := ["cursor", "free", "most"]) (ds := []) d48 fun _ _ _ _ _ _ us hl => by rw [List.append_nil] at hl; obtain ⟨x0, x1, x2, e⟩ := usl3 hl; subst e; exact ⟨_, rfl, rfl⟩,
  cqT := F48.binds (ps := ["cursor", "free", "most"]) (ds := [.none]) d48 fun _ _ _ _ _ _ us hl => by obtain ⟨x, y, rfl⟩ := oqc hl; exact ⟨_, rfl, rfl⟩,
  cqf := f56, bq2 := _, eqL := F56,
  bqz := F56.binds (by walk_at "b2"),
  cqx := f57, cqj := _, fqu := F57, dqp := ⟨a57, i57, F57.kp⟩,
  dqF := F57.binds (by walk_at "b2"),
  fq7 := f58, fql := _, lqB := F58, jqy := ⟨a58, i58, F58.kp⟩,
  lqL := F58.binds (by walk_at "b2"),
  fqm := f59, dq5 := _, jqD := F59, bq7 := ⟨a59, i59, F59.kp⟩,
  cqw := F59.binds (by walk_at "b2"),
  fq0 := qa0_NO_WAY, jq4 := W.mg_of X Gl e_NO_WAY, jq0 := fun H => (.tup (xs := [.bl false, .ref qa1_NO_WAY, .bl false]) (.inr ⟨_, _, _, y0_NO_WAY, rfl, rfl, (by show 3 ≤ sizeLine; decide), (.cons rfl (.cons rfl (.cons rfl .nil)))⟩) (.cons (.bl _) (.cons (.tup (xs := []) (.inr ⟨_, _, _, y1_NO_WAY, rfl, rfl, (by show 0 ≤ sizeLine; decide), .nil⟩) .nil) (.cons (.bl _) .nil)))),
  dqb := qa0_WITH_TEXT, fqI := W.mg_of X Gl e_WITH_TEXT, dqm := fun H => (.tup (xs := [.str (Str.ofString "go"), .str (Str.ofString "link"), .str (Str.ofString "add")]) (.inr ⟨_, _, _, y0_WITH_TEXT, rfl, rfl, (by show 3 ≤ sizeLine; decide), (.cons ⟨_, rfl⟩ (.cons ⟨_, rfl⟩ (.cons ⟨_, rfl⟩ .nil)))⟩) (.cons (.str _) (.cons (.str _) (.cons (.str _) .nil)))),
  bqX := qa_NAMES_BEHIND, dqB := W.mg_of X Gl e_NAMES_BEHIND, dqD := fun P h hI => PyProof.Rows.KTD.strTab_of_look P w hI yl_NAMES_BEHIND (by decide) yh_NAMES_BEHIND,
  iqo := iqo, lqP := W.mg_of X Gl e_SIGNS,
  eq6 := eq6, kqK := W.mg_of X Gl e_LETTERS,
  aqP := aqP, cqF := W.mg_of X Gl e_LETTERS_AND_FIGURES,
  eqY := eqY, iqp := W.mg_of X Gl e_FIGURES,
  hqM := hqM, lqQ := W.mg_of X Gl e_PLAIN,
  bqA := bqA, dqk := W.mg_of X Gl e_FREE_IN_STEPS,
  aq1 := aq1, bqo := W.mg_of X Gl e_FREE_IN_QUESTIONS,
  bqF := bqF, fqf := W.mg_of X Gl e_FREE_IN_MARKS,
  bqW := bqW, dqA := W.mg_of X Gl e_FIRST_NUMBER,
  cqo := cqo, gqi := W.mg_of X Gl e_LAST_NUMBER,
  bqi := bqi, cqv := W.mg_of X Gl e_NUMBER_LEFT_OUT,
  bqy := bqy, bqJ := W.mg_of X Gl e_SMALL_FIGURES,
  bqE := bqE, dqf := W.mg_of X Gl e_GREAT_FIGURES,
  fqX := fqX, fq4 := W.mg_of X Gl e_SCHEME,
  iqb := iqb, iqu := W.mg_of X Gl e_HOUSE,
  lqe := lqe, oqe := W.mg_of X Gl e_DOOR,
  oqi := oqi, lqv := W.mg_of X Gl e_WAY,
  dqV := dqV, cq4 := W.mg_of X Gl e_QUESTION,
  lqM := lqM, oqW := W.mg_of X Gl e_MARK,
  gqn := gqn, fqn := W.mg_of X Gl e_ROOTED,
  iqa := iqa, gqr := W.mg_of X Gl e_STEPS,
  lqt := lqt, kq0 := W.mg_of X Gl e_ENDS,
  bqs := bqs, eqj := W.mg_of X Gl e_LONGEST_SCHEME,
  bqG := bqG, eqF := W.mg_of X Gl e_LONGEST_HOUSE,
  cq6 := cq6, hqV := W.mg_of X Gl e_LAST_DOOR,
  lqm := lqm, mqL := W.mg_of X Gl e_STAY,
  t_UP := t_UP, c_UP := W.mg_of X Gl e_UP,
  bqH := bqH, eqW := W.mg_of X Gl e_FIRST_FIGURES,
  tq1 := W.mg_none_of X Gl z_all,
  tqD := W.mg_none_of X Gl z_ord,
  fqo := W.mg_none_of X Gl z_len,
  pqV := W.mg_none_of X Gl z_int,
  aqL := W.mg_none_of X Gl z_isinstance,
  nq5 := W.mg_none_of X Gl z_str,
  eqI := W.mg_none_of X Gl z_range,
  gqs := W.mg_none_of X Gl z_tuple,
  gq5 := W.mg_none_of X Gl z_ValueError,
  bqd := eC_NoBase, jq5 := W.mg_of X Gl en_NoBase,
  aqg := eC_NoAddress, bqb := W.mg_of X Gl en_NoAddress,
  iqg := eC_NoRow, oqh := W.mg_of X Gl en_NoRow,
  fqZ := eC_NoName, mqJ := W.mg_of X Gl en_NoName,
  eqD := eC_NoValue, lqF := W.mg_of X Gl en_NoValue,
  dqa := eC_NoPattern, iqI := W.mg_of X Gl en_NoPattern,
  dqR := eC_WayError, jqo := W.mg_of X Gl en_WayError,
  mqS := ex_NoBase,
  jqm := ⟨ew1_WayError, ew2_WayError, ew3_WayError⟩,
  fqH := ⟨ew1_NoAddress, ew2_NoAddress, ew3_NoAddress⟩,
  dqy := ⟨el0_NoBase, el1_NoBase, el2_NoBase, el3_NoBase, el4_NoBase, el5_NoBase⟩,
  mqj := ⟨el0_NoAddress, el1_NoAddress, el2_NoAddress, el3_NoAddress, el4_NoAddress, el5_NoAddress⟩,
  bq6 := ⟨ey_NoAddress, i6, ek_NoAddress⟩,
  eq3 := ⟨es_NoAddress, eo_NoAddress, ef_NoAddress_at, eh_NoAddress⟩,
  dqd := ⟨⟨el0_NoAddress, el1_NoAddress, el2_NoAddress, el3_NoAddress, el4_NoAddress, el5_NoAddress⟩, ef_NoAddress_at, eh_NoAddress⟩,
  dqN := eu_NoBase_WayError,
  fqp := eu_NoAddress_WayError,
  bqB := eu_NoAddress_NoAddress,
  eq1 := ei_NoBase_NoBase,
  fqU := ei_NoAddress_NoBase,
  dqo := ei_NoBase_ValueError,
  eqx := ei_NoAddress_ValueError,
  dqv := ei_NoBase_NoAddress,
  eqN := ei_NoAddress_NoAddress,
  dqt := ei_NoBase_NoPattern,
  eqz := ei_NoAddress_NoPattern,
  eqh := ei_NoBase_NoValue,
  fqJ := ei_NoAddress_NoValue,
  fqd := ei_NoBase_NoName,
  fq8 := ei_NoAddress_NoName,
  fqr := ei_NoBase_NoRow,
  gqz := ei_NoAddress_NoRow,
  aqr := kC_Cursor, aqi := ⟨pg_Cursor, hd_Cursor, po_Cursor, sa_Cursor⟩, mq7 := W.mg_of X Gl aC_Cursor,
  aqX := nf_Cursor_text,
  aqo := nf_Cursor_place,
  mqV := ⟨mk_Cursor, a10, i10, kc_Cursor⟩,
  bqC := kC_Desk, bqL := ⟨pg_Desk, hd_Desk, po_Desk, sa_Desk⟩, kqG := W.mg_of X Gl aC_Desk,
  aq9 := nf_Desk_address,
  gq9 := nf_Desk_table,
  lqJ := ⟨mk_Desk, a56, i56, kc_Desk⟩ }
 refine ⟨d.f_law.fd, fun s v => ?_, fun base _ _ => tqU g⟩
 obtain ⟨_, _, _, _, _, _, _, _, _, e, _⟩ := d.f_law.F.ex
 rw [e]
 exact .of_eq rfl
theorem walk {l : PySem.W.OpenLaw} {q : Program} {loose : List Str} {XP : (Str → Option Value) → Heap → Prop} {YP : World → Heap → Prop} {d : DefRec} {K : Params → W.Frag} (hn : l.most = some 63) (hdf : d.params.defaults = [])
  (hY : ∀ (w : World) (h : Heap), YP w h → (K w.params).In h)
  (F : ∀ (w : World) (mg : Str → Option Value) (fa : Addr) (h : Heap), (K w.params).In h → h.Ns mainGlobals mg → mg d.name = some (.ref fa) →
   ∃ fd : FuncData, (∀ (s : Shared) (u : Value), BindsTo s fd ⟨[u], []⟩ [("_law_script", u)]) ∧ ∀ base : Heap, (K w.params).In base → base.Ns mainGlobals mg → FnOk l.prog w (K w.params) mg base CX0 13 fa fd ["_law_script"] (mqU (K w.params))) :
  PySem.W.WalkO q loose XP YP l.row.toRowW d [] (fun f vs => PySem.call f vs) :=
 L2.rqQ (n := 63) (k := 13) (x := "_law_script") (CX := fun _ => CX0) (sp := fun w => mqU (K w.params)) hn (by decide) hdf ⟨rfl, by decide, by decide⟩ hY F (fun _ _ a ns hl _ hS => ⟨a, ns, rfl, hS, hl, fun _ => rfl⟩) fun _ _ _ _ _ z => z
end Wm
theorem PySem.W.Fast.tw16672615487544495380 : True := trivial
theorem PySem.W.Fast.tw1430012942772405775 : True := trivial
theorem PySem.W.Fast.tw2485230991360347976 : True := trivial
theorem PySem.W.Fast.tw15795141871152777338 : True := trivial
theorem PySem.W.Fast.tw2289428050931445983 : True := trivial
theorem PySem.W.Fast.tw17410689176983925026 : True := trivial
theorem PySem.W.Fast.tw6004590848722972381 : True := trivial
theorem PySem.W.Fast.tw9904568651006967561 : True := trivial
theorem PySem.W.Fast.tw9774138058177264497 : True := trivial
theorem PySem.W.Fast.tw384525924486624910 : True := trivial
theorem PySem.W.Fast.tw9719453288495241526 : True := trivial
theorem PySem.W.Fast.tw17171850183956364441 : True := trivial
theorem PySem.W.Fast.tw6772100133299327529 : True := trivial
theorem PySem.W.Fast.tw6649338486404729135 : True := trivial
theorem PySem.W.Fast.tw13597698437260947028 : True := trivial
theorem PySem.W.Fast.tw11584787897173554252 : True := trivial
theorem PySem.W.Fast.tw7945196779951855454 : True := trivial
theorem PySem.W.Fast.tw9523616330291596296 : True := trivial
theorem PySem.W.Fast.tw1203730005875513984 : True := trivial
theorem PySem.W.Fast.tw3166485068749105161 : True := trivial
theorem PySem.W.Fast.tw16510043961005207094 : True := trivial
theorem PySem.W.Fast.tw15328240771040563242 : True := trivial
theorem PySem.W.Fast.tw9131716220701520938 : True := trivial
theorem PySem.W.Fast.tw15484909853524140330 : True := trivial
theorem PySem.W.Fast.tw16922263745733766108 : True := trivial
theorem PySem.W.Fast.tw5572721602939631212 : True := trivial
theorem PySem.W.Fast.tw3941438828807180614 : True := trivial
theorem PySem.W.Fast.tw11203938889015951973 : True := trivial
theorem PySem.W.Fast.tw10464015040189889895 : True := trivial
theorem PySem.W.Fast.tw11637634442033361962 : True := trivial
theorem PySem.W.Fast.tw8355548828638643430 : True := trivial
theorem PySem.W.Fast.tw7698547580093278561 : True := trivial
theorem PySem.W.Fast.tw15643777310858984915 : True := trivial
theorem PySem.W.Fast.tw3576640585255444169 : True := trivial
theorem PySem.W.Fast.tw8012580870724762558 : True := trivial
theorem PySem.W.Fast.tw656316653519048109 : True := trivial
theorem PySem.W.Fast.tw6075773545488012792 : True := trivial
theorem PySem.W.Fast.tw12285788493841445141 : True := trivial
theorem PySem.W.Fast.tw11130988093813352855 : True := trivial
theorem PySem.W.Fast.tw12883071724429056493 : True := trivial
theorem PySem.W.Fast.tw7117500005597083329 : True := trivial
theorem PySem.W.Fast.tw4754203193912094052 : True := trivial
theorem PySem.W.Fast.tw475921007801706880 : True := trivial
theorem PySem.W.Fast.tw72927395890932803 : True := trivial
theorem PySem.W.Fast.tw18228875328245461297 : True := trivial
theorem PySem.W.Fast.tw3367211419722179502 : True := trivial
theorem PySem.W.Fast.tw498510987230239847 : True := trivial
theorem PySem.W.Fast.tw5464260678363894963 : True := trivial
theorem PySem.W.Fast.tw13016195455993226508 : True := trivial
theorem PySem.W.Fast.tw13056833404264135555 : True := trivial
theorem PySem.W.Fast.tw2735749152232373290 : True := trivial
theorem PySem.W.Fast.tw15818045087502538934 : True := trivial
theorem PySem.W.Fast.tw10518988637477027863 : True := trivial
theorem PySem.W.Fast.tw1695673485137454032 : True := trivial
theorem PySem.W.Fast.tw7460352233391427430 : True := trivial
theorem PySem.W.Fast.tw13384970522621653861 : True := trivial
theorem PySem.W.Fast.tw310028108924786309 : True := trivial
theorem PySem.W.Fast.tw10833096040434248547 : True := trivial
theorem PySem.W.Fast.tw7336213255085423812 : True := trivial
theorem PySem.W.Fast.tw11294485081556404508 : True := trivial
theorem PySem.W.Fast.tw7665263804374468284 : True := trivial
theorem PySem.W.Fast.tw10332776653381159422 : True := trivial
theorem PySem.W.Fast.tw11563423757373632426 : True := trivial
theorem PySem.W.Fast.tw6948630305266712929 : True := trivial
theorem PySem.W.Fast.tw816375813644551736 : True := trivial
theorem PySem.W.Fast.tw15233205653533144425 : True := trivial
theorem PySem.W.Fast.tw17352368284241104936 : True := trivial
theorem PySem.W.Fast.tw1738710900771582053 : True := trivial
theorem PySem.W.Fast.tw14223000346763855716 : True := trivial
theorem PySem.W.Fast.tw9916724694356792061 : True := trivial
theorem PySem.W.Fast.tw12900613831434792127 : True := trivial
theorem PySem.W.Fast.tw8471357584593814353 : True := trivial
theorem PySem.W.Fast.tw8320382526463591886 : True := trivial
theorem PySem.W.Fast.tw3508442583338493184 : True := trivial
theorem PySem.W.Fast.tw2649479649160063926 : True := trivial
theorem PySem.W.Fast.tw13641307004898959339 : True := trivial
theorem PySem.W.Fast.tw12433409768096919685 : True := trivial
theorem PySem.W.Fast.tw7537203261062034007 : True := trivial
theorem PySem.W.Fast.tw14248266923964138140 : True := trivial
theorem PySem.W.Fast.tw10957314660175801963 : True := trivial
theorem PySem.W.Fast.tw7351683809187140436 : True := trivial
theorem PySem.W.Fast.tw5659724019469467416 : True := trivial
theorem PySem.W.Fast.tw4371564449874687073 : True := trivial
theorem PySem.W.Fast.tw15781780916262617238 : True := trivial
theorem PySem.W.Fast.tw15766227515463540305 : True := trivial
theorem PySem.W.Fast.tw16443225792189005444 : True := trivial
theorem PySem.W.Fast.tw5842503139883351724 : True := trivial
theorem PySem.W.Fast.tw9905083039234414255 : True := trivial
theorem PySem.W.Fast.tw7647295194800474160 : True := trivial
theorem PySem.W.Fast.tw11079389273088924906 : True := trivial
theorem PySem.W.Fast.tw8830615840399950075 : True := trivial
theorem PySem.W.Fast.tw11453000077657619755 : True := trivial
theorem PySem.W.Fast.tw3535809848034937163 : True := trivial
theorem PySem.W.Fast.tw1920990874955776187 : True := trivial
theorem PySem.W.Fast.tw9849577602208655357 : True := trivial
theorem PySem.W.Fast.tw18353013412935307101 : True := trivial
theorem PySem.W.Fast.tw6397378765225430321 : True := trivial
theorem PySem.W.Fast.tw6547710375064844402 : True := trivial
theorem PySem.W.Fast.tw9434052615525568665 : True := trivial
theorem PySem.W.Fast.tw13587238924974909371 : True := trivial
theorem PySem.W.Fast.tw6766928536882548973 : True := trivial
theorem PySem.W.Fast.tw11083417407385984023 : True := trivial
theorem PySem.W.Fast.tw9954347490513513228 : True := trivial
theorem PySem.W.Fast.tw17440481527559249747 : True := trivial
theorem PySem.W.Fast.tw9979150460727339902 : True := trivial
theorem PySem.W.Fast.tw3793611214668403926 : True := trivial
theorem PySem.W.Fast.tw8320165523791441973 : True := trivial
theorem PySem.W.Fast.tw4228783622072516982 : True := trivial
theorem PySem.W.Fast.tw11341368244377479807 : True := trivial
theorem PySem.W.Fast.tw5397540898864969799 : True := trivial
theorem PySem.W.Fast.tw11571142890328175620 : True := trivial
theorem PySem.W.Fast.tw8492127505533079202 : True := trivial
theorem PySem.W.Fast.tw14918894785456206365 : True := trivial
theorem PySem.W.Fast.tw14824071871021227389 : True := trivial
theorem PySem.W.Fast.tw15400886212500763434 : True := trivial
theorem PySem.W.Fast.tw7376610656047171769 : True := trivial
theorem PySem.W.Fast.tw4576668809784239454 : True := trivial
theorem PySem.W.Fast.tw13437171094326750549 : True := trivial
theorem PySem.W.Fast.tw9404658160892164759 : True := trivial
theorem PySem.W.Fast.tw8314852847498639222 : True := trivial
theorem PySem.W.Fast.tw5540335910517494603 : True := trivial
theorem PySem.W.Fast.tw17263334524824808716 : True := trivial
theorem PySem.W.Fast.tw2921167650156856450 : True := trivial
theorem PySem.W.Fast.tw14970470649357158968 : True := trivial
theorem PySem.W.Fast.tw17409365992518407502 : True := trivial
theorem PySem.W.Fast.tw17030966759577115329 : True := trivial
theorem PySem.W.Fast.tw14180083782378632543 : True := trivial
theorem PySem.W.Fast.tw18249422939129878557 : True := trivial
theorem PySem.W.Fast.tw13405141868160282160 : True := trivial
theorem PySem.W.Fast.tw4991998755203984705 : True := trivial
theorem PySem.W.Fast.tw17144639068689797541 : True := trivial
theorem PySem.W.Fast.tw3090152144587302033 : True := trivial
theorem PySem.W.Fast.tw3095718686136644882 : True := trivial
theorem PySem.W.Fast.tw10173571106892155208 : True := trivial
theorem PySem.W.Fast.tw8659493615288697784 : True := trivial
theorem PySem.W.Fast.tw12107737975567355380 : True := trivial
theorem PySem.W.Fast.tw17624886968147500301 : True := trivial
theorem PySem.W.Fast.tw6776304740748675243 : True := trivial
theorem PySem.W.Fast.tw12692801084596353036 : True := trivial
theorem PySem.W.Fast.tw4828296902705837402 : True := trivial
theorem PySem.W.Fast.tw10724377506924383167 : True := trivial
theorem PySem.W.Fast.tw3046595385372922041 : True := trivial
theorem PySem.W.Fast.tw8463528175331578846 : True := trivial
theorem PySem.W.Fast.tw9205161006281691254 : True := trivial
theorem PySem.W.Fast.tw16694438642489944602 : True := trivial
theorem PySem.W.Fast.tw15658094300445470362 : True := trivial
theorem PySem.W.Fast.tw2362847494871966755 : True := trivial
theorem PySem.W.Fast.tw6455401104950217536 : True := trivial
theorem PySem.W.Fast.tw1282943560340726097 : True := trivial
theorem PySem.W.Fast.tw8827170531510631285 : True := trivial
theorem PySem.W.Fast.tw6336481199144189847 : True := trivial
theorem PySem.W.Fast.tw14029520122661197056 : True := trivial
theorem PySem.W.Fast.tw6430567736950499295 : True := trivial
theorem PySem.W.Fast.tw2755785631245581211 : True := trivial
theorem PySem.W.Fast.tw7635664516389232784 : True := trivial
theorem PySem.W.Fast.tw2097277358686282435 : True := trivial
theorem PySem.W.Fast.tw10350869927657353032 : True := trivial
theorem PySem.W.Fast.tw18179531722126609664 : True := trivial
theorem PySem.W.Fast.tw8294524981219195608 : True := trivial
theorem PySem.W.Fast.tw5273090594023843487 : True := trivial
theorem PySem.W.Fast.tw863256356756083177 : True := trivial
theorem PySem.W.Fast.tw7455089161928762089 : True := trivial
theorem PySem.W.Fast.tw7279657577424550264 : True := trivial
theorem PySem.W.Fast.tw3903584914321741375 : True := trivial
theorem PySem.W.Fast.tw13854407929941778038 : True := trivial
theorem PySem.W.Fast.tw14624472998496773823 : True := trivial
theorem PySem.W.Fast.tw10143892415043931757 : True := trivial
theorem PySem.W.Fast.tw15406800831666450503 : True := trivial
theorem PySem.W.Fast.tw5542105862884327894 : True := trivial
theorem PySem.W.Fast.tw10971427628205175107 : True := trivial
theorem PySem.W.Fast.tw7672668919503750421 : True := trivial
theorem PySem.W.Fast.tw7675376495449495436 : True := trivial
theorem PySem.W.Fast.tw17619936965156842856 : True := trivial
theorem PySem.W.Fast.tw6103261221302032871 : True := trivial
theorem PySem.W.Fast.tw6191101554710080141 : True := trivial
theorem PySem.W.Fast.tw2902007253262357231 : True := trivial
theorem PySem.W.Fast.tw15210200062850462923 : True := trivial
theorem PySem.W.Fast.tw10891882803561616062 : True := trivial
theorem PySem.W.Fast.tw16164568230041501364 : True := trivial
theorem PySem.W.Fast.tw14089611410422640119 : True := trivial
theorem PySem.W.Fast.tw12327455809434737521 : True := trivial
theorem PySem.W.Fast.tw12307464233430131893 : True := trivial
theorem PySem.W.Fast.tw7245062116571052233 : True := trivial
theorem PySem.W.Fast.tw3315429169171039467 : True := trivial
theorem PySem.W.Fast.tw12896585951105433980 : True := trivial
theorem PySem.W.Fast.tw9192316077883378728 : True := trivial
theorem PySem.W.Fast.tw9322176774105103897 : True := trivial
theorem PySem.W.Fast.tw6558739292770057437 : True := trivial
theorem PySem.W.Fast.tw15079638446823168846 : True := trivial
theorem PySem.W.Fast.tw16772330783614382986 : True := trivial
theorem PySem.W.Fast.tw6474084775894270871 : True := trivial
theorem PySem.W.Fast.tw9241781675126747377 : True := trivial
theorem PySem.W.Fast.tw6576522037974286632 : True := trivial
theorem PySem.W.Fast.tw4379270103638110154 : True := trivial
theorem PySem.W.Fast.tw10770414421722919693 : True := trivial
theorem PySem.W.Fast.tw14452725450572116861 : True := trivial
theorem PySem.W.Fast.tw12643326967422668296 : True := trivial
theorem PySem.W.Fast.tw11185933350384176911 : True := trivial
theorem PySem.W.Fast.tw15687964445423735653 : True := trivial
theorem PySem.W.Fast.tw10592242567129178920 : True := trivial
theorem PySem.W.Fast.tw11440488000021110691 : True := trivial
theorem PySem.W.Fast.tw6981143155205393683 : True := trivial
theorem PySem.W.Fast.tw14216251157171683840 : True := trivial
theorem PySem.W.Fast.tw18057608278876003834 : True := trivial
theorem PySem.W.Fast.tw12774914586471529225 : True := trivial
theorem PySem.W.Fast.tw13816098891785033725 : True := trivial
theorem PySem.W.Fast.tw6796800106701420815 : True := trivial
theorem PySem.W.Fast.tw15908728746430364662 : True := trivial
theorem PySem.W.Fast.tw1727691581760134295 : True := trivial
theorem PySem.W.Fast.tw14783507476812918925 : True := trivial
theorem PySem.W.Fast.tw6486936367741327765 : True := trivial
theorem PySem.W.Fast.tw10488448383571693182 : True := trivial
theorem PySem.W.Fast.tw2584234634999670866 : True := trivial
theorem PySem.W.Fast.tw9378221287729897562 : True := trivial
theorem PySem.W.Fast.tw14093667738244270109 : True := trivial
theorem PySem.W.Fast.tw5067389896495860808 : True := trivial
theorem PySem.W.Fast.tw2434373232097993109 : True := trivial
theorem PySem.W.Fast.tw10280795801694873089 : True := trivial
theorem PySem.W.Fast.tw12027563889895823499 : True := trivial
theorem PySem.W.Fast.tw6099771642087323133 : True := trivial
theorem PySem.W.Fast.tw10335894916001362537 : True := trivial
theorem PySem.W.Fast.tw11845672957519993344 : True := trivial
theorem PySem.W.Fast.tw1928653120348989705 : True := trivial
theorem PySem.W.Fast.tw7527135466425593941 : True := trivial
theorem PySem.W.Fast.tw2113109997489007942 : True := trivial
theorem PySem.W.Fast.tw8783802024936815954 : True := trivial
theorem PySem.W.Fast.tw11373166981921672409 : True := trivial
theorem PySem.W.Fast.tw15243864424463380038 : True := trivial
theorem PySem.W.Fast.tw4974153246561391225 : True := trivial
theorem PySem.W.Fast.tw1093584943924309922 : True := trivial
theorem PySem.W.Fast.tw1570450756698183883 : True := trivial
theorem PySem.W.Fast.tw1706284334157394672 : True := trivial
theorem PySem.W.Fast.tw6541667142746634589 : True := trivial
theorem PySem.W.Fast.tw2697712801861599875 : True := trivial
theorem PySem.W.Fast.tw6235778608897505538 : True := trivial
theorem PySem.W.Fast.tw7624918294574776783 : True := trivial
theorem PySem.W.Fast.tw2529718003252602551 : True := trivial
theorem PySem.W.Fast.tw12555951156717931759 : True := trivial
theorem PySem.W.Fast.tw13681937104648045414 : True := trivial
theorem PySem.W.Fast.tw9742190874833706975 : True := trivial
theorem PySem.W.Fast.tw7047493623806567472 : True := trivial
theorem PySem.W.Fast.tw13486187527123665632 : True := trivial
theorem PySem.W.Fast.tw12321189940766946782 : True := trivial
theorem PySem.W.Fast.tw3260106554794938735 : True := trivial
theorem PySem.W.Fast.tw16019263927246029552 : True := trivial
theorem PySem.W.Fast.tw16109743041604271802 : True := trivial
theorem PySem.W.Fast.tw14663130136702102530 : True := trivial
theorem PySem.W.Fast.tw15423142458953485355 : True := trivial
theorem PySem.W.Fast.tw6045234330493980752 : True := trivial
theorem PySem.W.Fast.tw6281097899521760989 : True := trivial
theorem PySem.W.Fast.tw1839799946082891664 : True := trivial
theorem PySem.W.Fast.tw7548895731593325503 : True := trivial
theorem PySem.W.Fast.tw6105864248566762773 : True := trivial
theorem PySem.W.Fast.tw2986621024380611661 : True := trivial
theorem PySem.W.Fast.tw18108982672368225990 : True := trivial
theorem PySem.W.Fast.tw16495873786936872574 : True := trivial
theorem PySem.W.Fast.tw17237885585398633352 : True := trivial
theorem PySem.W.Fast.tw15663839128360563798 : True := trivial
theorem PySem.W.Fast.tw10333029102332806273 : True := trivial
theorem PySem.W.Fast.tw5752547336048822203 : True := trivial
theorem PySem.W.Fast.tw17109683073959228874 : True := trivial
theorem PySem.W.Fast.tw6684715095544366095 : True := trivial
theorem PySem.W.Fast.tw2525005875082414458 : True := trivial
theorem PySem.W.Fast.tw4567308153902365654 : True := trivial
theorem PySem.W.Fast.tw17336745556545160955 : True := trivial
theorem PySem.W.Fast.tw14107894367620558993 : True := trivial
theorem PySem.W.Fast.tw17424206624719784056 : True := trivial
theorem PySem.W.Fast.tw16303081852917336096 : True := trivial
theorem PySem.W.Fast.tw1678287262679499578 : True := trivial
theorem PySem.W.Fast.tw7214340785404048907 : True := trivial
open PySem PySem.W PyProof.Rows
set_option maxRecDepth 100000 in
set_option maxHeartbeats 0 in
theorem PySem.Challenge.cw_waymark_k84_a_desk_goes_holds : PySem.Challenge.rw_waymark_k84_a_desk_goes.Holds := by
 w_on; o_law; k_head; (case hw => w_witness2)
 k_fill
 refine Wm.walk (l := PySem.Challenge.rw_waymark_k84_a_desk_goes) rfl rfl (fun w h Y => PySem.W.kIn_of Y) ?F
 case F =>
  intro w mg fa h KX G hmg
  refine' Wm.uqI (dt43_0 := 0) (dt48_0 := 0) KX G hmg ?d ?aC_Cursor ?aC_Desk ?en_NoBase ?en_NoAddress ?en_NoRow ?en_NoName ?en_NoValue ?en_NoPattern ?en_WayError ?a6 ?i6 ?l6 ?a10 ?i10 ?l10 ?a11 ?i11 ?l11 ?a12 ?i12 ?l12 ?a13 ?i13 ?l13 ?a26 ?i26 ?l26 ?a43 ?l43 ?d43 ?a48 ?l48 ?d48 ?a56 ?i56 ?l56 ?a57 ?i57 ?l57 ?a58 ?i58 ?l58 ?a59 ?i59 ?l59 ?e_NO_WAY ?y0_NO_WAY ?y1_NO_WAY ?e_WITH_TEXT ?y0_WITH_TEXT ?e_NAMES_BEHIND ?yl_NAMES_BEHIND ?yh_NAMES_BEHIND ?e_SIGNS ?e_LETTERS ?e_LETTERS_AND_FIGURES ?e_FIGURES ?e_PLAIN ?e_FREE_IN_STEPS ?e_FREE_IN_QUESTIONS ?e_FREE_IN_MARKS ?e_FIRST_NUMBER ?e_LAST_NUMBER ?e_NUMBER_LEFT_OUT ?e_SMALL_FIGURES ?e_GREAT_FIGURES ?e_SCHEME ?e_HOUSE ?e_DOOR ?e_WAY ?e_QUESTION ?e_MARK ?e_ROOTED ?e_STEPS ?e_ENDS ?e_LONGEST_SCHEME ?e_LONGEST_HOUSE ?e_LAST_DOOR ?e_STAY ?e_UP ?e_FIRST_FIGURES ?z_all ?z_ord ?z_len ?z_int ?z_isinstance ?z_str ?z_range ?z_tuple ?z_ValueError ?ex_NoBase ?ew1_WayError ?ew2_WayError ?ew3_WayError ?ew1_NoAddress ?ew2_NoAddress ?ew3_NoAddress ?el0_NoBase ?el1_NoBase ?el2_NoBase ?el3_NoBase ?el4_NoBase ?el5_NoBase ?el0_NoAddress ?el1_NoAddress ?el2_NoAddress ?el3_NoAddress ?el4_NoAddress ?el5_NoAddress ?ey_NoAddress ?ek_NoAddress ?es_NoAddress ?eo_NoAddress ?eh_NoAddress ?ef_NoAddress_at ?eu_NoBase_WayError ?eu_NoAddress_WayError ?eu_NoAddress_NoAddress ?ei_NoBase_NoBase ?ei_NoAddress_NoBase ?ei_NoBase_ValueError ?ei_NoAddress_ValueError ?ei_NoBase_NoAddress ?ei_NoAddress_NoAddress ?ei_NoBase_NoPattern ?ei_NoAddress_NoPattern ?ei_NoBase_NoValue ?ei_NoAddress_NoValue ?ei_NoBase_NoName ?ei_NoAddress_NoName ?ei_NoBase_NoRow ?ei_NoAddress_NoRow ?pg_Cursor ?hd_Cursor ?po_Cursor ?sa_Cursor ?mk_Cursor ?kc_Cursor ?nf_Cursor_text ?nf_Cursor_place ?pg_Desk ?hd_Desk ?po_Desk ?sa_Desk ?mk_Desk ?kc_Desk ?nf_Desk_address ?nf_Desk_table ?kk ?cc
  case d =>
   constructor
   all_goals
    refine' L2.vql KX G ?a ?l ?c ?k ?b
    (case a | l => k_is)
    (case c | k => first | k_is | with_unfolding_all kernel_rfl | with_unfolding_all rfl)
    case b =>
     intro _ _ _ _ _ _ us hl
     first
     | (obtain ⟨_, e⟩ := Wm.usl1 hl; subst e; rfl)
     | (obtain ⟨_, _, e⟩ := Wm.usl2 hl; subst e; rfl)
     | (obtain ⟨_, _, _, e⟩ := Wm.usl3 hl; subst e; rfl)
  (case aC_Cursor | aC_Desk => k_is)
  (case en_NoBase | en_NoAddress | en_NoRow | en_NoName | en_NoValue | en_NoPattern | en_WayError => first | k_is | kit_is | with_unfolding_all kernel_rfl | with_unfolding_all rfl)
  (case a6 | i6 | l6 | a10 | i10 | l10 | a11 | i11 | l11 | a12 | i12 | l12 | a13 | i13 | l13 | a26 | i26 | l26 | a43 | l43 | d43 | a48 | l48 | d48 | a56 | i56 | l56 | a57 | i57 | l57 | a58 | i58 | l58 | a59 | i59 | l59 | e_NO_WAY | y0_NO_WAY | y1_NO_WAY | e_WITH_TEXT | y0_WITH_TEXT | e_NAMES_BEHIND => k_is)
  (case yl_NAMES_BEHIND | yh_NAMES_BEHIND => first | k_is | with_unfolding_all kernel_rfl | with_unfolding_all rfl)
  (case e_SIGNS | e_LETTERS | e_LETTERS_AND_FIGURES | e_FIGURES | e_PLAIN | e_FREE_IN_STEPS | e_FREE_IN_QUESTIONS | e_FREE_IN_MARKS | e_FIRST_NUMBER | e_LAST_NUMBER | e_NUMBER_LEFT_OUT | e_SMALL_FIGURES | e_GREAT_FIGURES | e_SCHEME | e_HOUSE | e_DOOR | e_WAY | e_QUESTION | e_MARK | e_ROOTED | e_STEPS | e_ENDS | e_LONGEST_SCHEME | e_LONGEST_HOUSE | e_LAST_DOOR | e_STAY | e_UP | e_FIRST_FIGURES | z_all | z_ord | z_len | z_int | z_isinstance | z_str | z_range | z_tuple | z_ValueError => k_is)
  (case ex_NoBase | ew1_WayError | ew2_WayError | ew3_WayError | ew1_NoAddress | ew2_NoAddress | ew3_NoAddress | el0_NoBase | el1_NoBase | el2_NoBase | el3_NoBase | el4_NoBase | el5_NoBase | el0_NoAddress | el1_NoAddress | el2_NoAddress | el3_NoAddress | el4_NoAddress | el5_NoAddress | ey_NoAddress | ek_NoAddress | es_NoAddress | eo_NoAddress | eh_NoAddress | ef_NoAddress_at | eu_NoBase_WayError | eu_NoAddress_WayError | eu_NoAddress_NoAddress | ei_NoBase_NoBase | ei_NoAddress_NoBase | ei_NoBase_ValueError | ei_NoAddress_ValueError | ei_NoBase_NoAddress | ei_NoAddress_NoAddress | ei_NoBase_NoPattern | ei_NoAddress_NoPattern | ei_NoBase_NoValue | ei_NoAddress_NoValue | ei_NoBase_NoName | ei_NoAddress_NoName | ei_NoBase_NoRow | ei_NoAddress_NoRow => first | k_is | kit_is | with_unfolding_all kernel_rfl | with_unfolding_all rfl)
  (case pg_Cursor | hd_Cursor | po_Cursor | sa_Cursor | mk_Cursor | kc_Cursor | nf_Cursor_text | nf_Cursor_place | pg_Desk | hd_Desk | po_Desk | sa_Desk | mk_Desk | kc_Desk | nf_Desk_address | nf_Desk_table => k_is)
  (case kk | cc => first | k_is | with_unfolding_all kernel_rfl | with_unfolding_all rfl)
