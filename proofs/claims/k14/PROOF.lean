import PyProof.Rows.All
import Wide.All
import OpenK.AllK
import Wide.FinOn
import Lean
import PyProof.EqAt
import PyProof.EqKinds
import PyProof.TupleCall
import PySem.Challenge.RW_waymark_k14_beginnings_of_texts
set_option Elab.async false
set_option linter.all false
set_option maxRecDepth 100000
namespace L2
open PySem PySem.Spec PyProof.Rows
abbrev Key := Sum Int Str
def keyIs : Key → Value → Bool
 | .inl k, v => Value.isInt k v
 | .inr x, v => Value.isStrOf x v
def keyH (w : World) : Key → Int
 | .inl k => hashInt k
 | .inr x => hashStr w x
theorem bqx : ∀ {k : Key} {v : Value}, keyIs k v = true → (∃ i t, k = Sum.inl i ∧ v = Value.int i t) ∨ (∃ x t, k = Sum.inr x ∧ v = Value.str x t)
 | .inl i, v, h => by
  obtain ⟨t, e⟩ := Value.isInt_shape (k := i) (v := v) h
  exact .inl ⟨i, t, rfl, e⟩
 | .inr x, v, h => by
  obtain ⟨t, e⟩ := Value.isStrOf_shape (x := x) (v := v) h
  exact .inr ⟨x, t, rfl, e⟩
theorem vqW (a b : Int) : decide ((Sum.inl a : Key) = Sum.inl b) = (a == b) := by
 by_cases e : a = b
 ·subst e; simp
 ·have h : ¬ (Sum.inl a : Key) = Sum.inl b := fun q => e (Sum.inl.inj q)
  rw [decide_eq_false h]
  exact (beq_eq_false_iff_ne.mpr e).symm
theorem vql (a b : Str) : decide ((Sum.inr a : Key) = Sum.inr b) = decide (a = b) := by
 by_cases e : a = b
 ·subst e; simp
 ·have h : ¬ (Sum.inr a : Key) = Sum.inr b := fun q => e (Sum.inr.inj q)
  rw [decide_eq_false h, decide_eq_false e]
theorem vqZ (a : Int) (b : Str) : decide ((Sum.inl a : Key) = Sum.inr b) = false := decide_eq_false (fun q => nomatch q)
theorem vq8 (a : Str) (b : Int) : decide ((Sum.inr a : Key) = Sum.inl b) = false := decide_eq_false (fun q => nomatch q)
def mixKind (prog : Program) (w : World) : PySem.KeyKind prog w Key where
 is := keyIs
 hash := keyH w
 inj := fun v a b ha hb => by
  rcases bqx ha with ⟨i, t, rfl, rfl⟩ | ⟨x, t, rfl, rfl⟩
  ·rcases bqx hb with ⟨j, u, rfl, e⟩ | ⟨y, u, rfl, e⟩
   ·injection e with e1 _; rw [e1]
   ·exact nomatch e
  ·rcases bqx hb with ⟨j, u, rfl, e⟩ | ⟨y, u, rfl, e⟩
   ·exact nomatch e
   ·injection e with e1 _; rw [e1]
 byValue := fun k v h => by
  rcases bqx h with ⟨i, t, rfl, rfl⟩ | ⟨x, t, rfl, rfl⟩ <;> rfl
 pyHash := fun hv h => by
  rcases bqx hv with ⟨i, t, rfl, rfl⟩ | ⟨x, t, rfl, rfl⟩
  ·exact wpAny_pyHash_int h
  ·exact wpAny_pyHash_str h
 eqBool := fun hu hv h => by
  rcases bqx hu with ⟨i, t, rfl, rfl⟩ | ⟨x, t, rfl, rfl⟩
  ·rcases bqx hv with ⟨j, u, rfl, rfl⟩ | ⟨y, u, rfl, rfl⟩
   ·rw [vqW] at h; exact wpAny_eqBool_int h
   ·rw [vqZ] at h; exact SeqAt.EqAt.int_str i t y u _ _ _ _ h
  ·rcases bqx hv with ⟨j, u, rfl, rfl⟩ | ⟨y, u, rfl, rfl⟩
   ·rw [vq8] at h; exact SeqAt.EqAt.str_int x t j u _ _ _ _ h
   ·rw [vql] at h; exact wpAny_eqBool_str h
 «strs» := fun k x t v h => by
  rcases bqx h with ⟨i, u, rfl, e⟩ | ⟨y, u, rfl, e⟩
  ·exact nomatch e
  ·injection e with e1 _
   subst e1
   cases v <;> rfl
end L2
namespace L2
open PySem PySem.Spec PyProof.Rows
inductive V where
 | non | bl (b : Bool) | int (i : Int) | str (x : Str) | byt (b : Array UInt8) | flt (b : UInt64) | ref (a : Addr) | ty (n : String)
 deriving DecidableEq
def RelV : V → Value → Prop
 | .non, u => u = Value.none
 | .bl b, u => u = Value.bool b
 | .int i, u => ∃ t, u = Value.int i t
 | .str x, u => ∃ t, u = Value.str x t
 | .byt b, u => ∃ t, u = Value.bytes b t
 | .flt b, u => ∃ t, u = Value.float b t
 | .ref a, u => u = Value.ref a
 | .ty n, u => u = Value.type n
abbrev Vals : List V → List Value → Prop := Paired RelV
theorem Vals.length {xs : List V} {us : List Value} (r : Vals xs us) : xs.length = us.length := Paired.length r
theorem Vals.get : ∀ {xs : List V} {us : List Value} {i : Nat} {x : V}, Vals xs us → xs[i]? = some x → ∃ u, us[i]? = some u ∧ RelV x u
 | _, _, _, _, .nil, e => by simp at e
 | _, _, 0, _, .cons r _, e => by simp at e; subst e; exact ⟨_, rfl, r⟩
 | _, _, i + 1, x, .cons _ t, e => by
  obtain ⟨u, h1, h2⟩ := Vals.get (i := i) (x := x) t (by simpa using e)
  exact ⟨u, by simpa using h1, h2⟩
theorem Vals.set {x : V} {u : Value} (r : RelV x u) : ∀ {xs : List V} {us : List Value} (i : Nat), Vals xs us → Vals (xs.set i x) (us.set i u)
 | _, _, _, .nil => .nil
 | _, _, 0, .cons _ t => .cons r t
 | _, _, i + 1, .cons q t => .cons q (Vals.set r i t)
theorem Vals.append : ∀ {xs ys : List V} {us ws : List Value}, Vals xs us → Vals ys ws → Vals (xs ++ ys) (us ++ ws)
 | _, _, _, _, .nil, s => s
 | _, _, _, _, .cons r t, s => .cons r (Vals.append t s)
theorem Vals.take : ∀ {xs : List V} {us : List Value} (n : Nat), Vals xs us → Vals (xs.take n) (us.take n)
 | _, _, 0, _ => .nil
 | _, _, _ + 1, .nil => .nil
 | _, _, n + 1, .cons r t => .cons r (Vals.take n t)
theorem Vals.drop : ∀ {xs : List V} {us : List Value} (n : Nat), Vals xs us → Vals (xs.drop n) (us.drop n)
 | _, _, 0, r => r
 | _, _, _ + 1, .nil => .nil
 | _, _, n + 1, .cons _ t => Vals.drop n t
def RelO : Option V → Option Value → Prop
 | some v, some u => RelV v u
 | none, none => True
 | _, _ => False
def KV {κ : Type} : List (κ × V) → List (κ × Value) → Prop := Paired fun (p : κ × V) (q : κ × Value) => p.1 = q.1 ∧ RelV p.2 q.2
def kV : Key → V
 | .inl i => .int i
 | .inr x => .str x
inductive HO where
 | lst (xs : List V)
 | tup (xs : List V)
 | dK (kvs : List (Key × V)) | dT (kvs : List (List Key × V))
 | set (S : Int → Bool) (n : Nat)
 | ins (C dx : Addr) (fs : List (Str × V))
 | own (x : Addr)
 | xd (fs : List (Str × V))
 | met (f x : Addr)
 | rng (lo hi : Int)
 | frz (o : Obj) (u : HO)
 | tbl (ps : Array Value)
 | ext (φ : Heap → Prop)
abbrev Hp := Addr → Option HO
def upd (H : Hp) (a : Addr) (o : HO) : Hp := fun b => if b = a then some o else H b
theorem aqg {H : Hp} {a : Addr} {o : HO} : upd H a o a = some o := by unfold upd; rw [if_pos rfl]
theorem aqv {H : Hp} {a b : Addr} {o : HO} (h : b ≠ a) : upd H a o b = H b := by unfold upd; rw [if_neg h]
theorem qqV {H : Hp} {a : Addr} {o u : HO} : upd (upd H a o) a u = upd H a u := by
 funext b; unfold upd; split <;> rfl
theorem tq5 {H : Hp} {a b : Addr} {o u : HO} (h : H a = some o) (h' : H b = some u) (d : o ≠ u) : a ≠ b := by
 intro e; subst e; rw [h] at h'; exact d (Option.some.inj h')
theorem aql {H : Hp} {a b : Addr} {o : HO} (h : H a = some o) (h' : H b = none) : a ≠ b := by
 intro e; subst e; rw [h] at h'; cases h'
section
variable (P : Program) (w : World)
def ObjOk (H : Hp) (h : Heap) (a : Addr) : HO → Prop
 | .lst xs => xs.length ≤ sizeLine ∧ ∃ (its : List Value) (n : Nat), Vals xs its ∧ h.get? a = some { cls := .type "list", data := .seq its.toArray n }
 | .tup xs => xs.length ≤ sizeLine ∧ ∃ its : List Value, Vals xs its ∧ IsTup h a its.toArray
 | .dK kvs => kvs.length ≤ sizeLine ∧ (a == sysModules) = false ∧ ∃ vs, KV kvs vs ∧ h.DictOf (mixKind P w) a vs
 | .dT kvs => kvs.length ≤ sizeLine ∧ (a == sysModules) = false ∧ ∃ xs : List (List Key × Addr × Value),
   Paired (fun (p : List Key × V) (q : List Key × Addr × Value) => p.1 = q.1 ∧ H q.2.1 = some (.tup (p.1.map kV)) ∧ RelV p.2 q.2.2) kvs xs ∧
   ∃ o es ep, h.get? a = some o ∧ o.ExactDict ∧ o.data = .dict es ep ∧ es.toList = xs.map (entryOfKey (tupleKind (mixKind P w))) ∧ (xs.map (·.1)).Nodup
 | .set S n => h.SetOf (intKind P w) a S n
 | .ins C dx fs => H dx = some (.own a) ∧ fs.length ≤ 1000 ∧ dx ≠ a ∧ h.get? a = some (PySem.W.instObj C dx) ∧
   ∃ mA, h.Ns1 dx mA ∧ (∀ f, RelO (fs.lookup f) (mA f)) ∧ PySem.Within mA (fs.map (·.1))
 | .own _ => ∃ o, h.get? a = some o
 | .xd fs => ∃ mA, h.Ns1 a mA ∧ ∀ f, RelO (fs.lookup f) (mA f)
 | .rng lo hi => ∃ t u v, h.get? a = some { cls := .type "range", data := .fields #[.int lo t, .int hi u, .int 1 v] }
 | .frz o u => h.get? a = some o ∧ ObjOk H h a u
 | .tbl ps => h.get? a = some { cls := .none, data := .fields ps }
 | .met f x => h.get? a = some (PySem.W.methodObj (.ref f) (.ref x))
 | .ext φ => φ h ∧ (∃ o, h.get? a = some o) ∧ ∀ h1 h2 : Heap, φ h1 → (∀ o, h1.get? a = some o → h2.get? a = some o) → φ h2
def HOk (H : Hp) (h : Heap) : Prop := ∀ a o, H a = some o → ObjOk P w H h a o
end
section
variable {P : Program} {w : World} {H H' : Hp} {h h' : Heap} {a : Addr} {o : HO}
theorem ObjOk.lt (x : ObjOk P w H h a o) : a < h.objs.size := by
 cases o with
 | lst xs => obtain ⟨_, _, _, _, e⟩ := x; exact Heap.lt_size e
 | tup xs => obtain ⟨_, _, _, p⟩ := x; exact p.lt
 | dK kvs => obtain ⟨_, _, _, _, o, _, _, e, _⟩ := x; exact Heap.lt_size e
 | dT kvs => obtain ⟨_, _, _, _, o, _, _, e, _⟩ := x; exact Heap.lt_size e
 | set S n => obtain ⟨o, _, _, _, e, _⟩ := x; exact Heap.lt_size e
 | ins C dx fs => obtain ⟨_, _, _, e, _⟩ := x; exact Heap.lt_size e
 | own y => obtain ⟨_, e⟩ := x; exact Heap.lt_size e
 | xd fs => obtain ⟨_, ⟨_, _, _, e, _⟩, _⟩ := x; exact Heap.lt_size e
 | rng lo hi => obtain ⟨_, _, _, e⟩ := x; exact Heap.lt_size e
 | frz ob u => obtain ⟨e, _⟩ := x; exact Heap.lt_size e
 | tbl ps => exact Heap.lt_size (show h.get? a = some _ from x)
 | met f y => exact Heap.lt_size (show h.get? a = some _ from x)
 | ext φ => obtain ⟨_, ⟨_, e⟩, _⟩ := x; exact Heap.lt_size e
theorem Paired.mapP {α β : Type} {F G : α → β → Prop} : ∀ {l₁ : List α} {l₂ : List β}, Paired F l₁ l₂ → (∀ a b, F a b → G a b) → Paired G l₁ l₂
 | _, _, .nil, _ => .nil
 | _, _, .cons r t, f => .cons (f _ _ r) (Paired.mapP t f)
theorem ObjOk.stay (x : ObjOk P w H h a o) (k : ∀ b u, (b = a ∨ H b = some (.own a)) → h.get? b = some u → h'.get? b = some u)
  (ho : ∀ b, H b = some (.own a) → H' b = some (.own a)) (ht : ∀ b xs, H b = some (.tup xs) → H' b = some (.tup xs)) : ObjOk P w H' h' a o := by
 induction o with
 | lst xs => obtain ⟨z, its, n, r, e⟩ := x; exact ⟨z, its, n, r, k _ _ (.inl rfl) e⟩
 | tup xs => obtain ⟨z, its, r, ob, e, c⟩ := x; exact ⟨z, its, r, ob, k _ _ (.inl rfl) e, c⟩
 | dK kvs => obtain ⟨z, y, vs, r, ob, es, ep, e, c⟩ := x; exact ⟨z, y, vs, r, ob, es, ep, k _ _ (.inl rfl) e, c⟩
 | dT kvs =>
  obtain ⟨z, y, xs, r, ob, es, ep, e, c⟩ := x
  exact ⟨z, y, xs, Paired.mapP r fun p q z => ⟨z.1, ht _ _ z.2.1, z.2.2⟩, ob, es, ep, k _ _ (.inl rfl) e, c⟩
 | set S n => obtain ⟨ob, es, ep, t, e, c⟩ := x; exact ⟨ob, es, ep, t, k _ _ (.inl rfl) e, c⟩
 | ins C dx fs =>
  obtain ⟨d, z, ne, e, mA, ⟨od, es, ep, e2, c⟩, r⟩ := x
  exact ⟨ho _ d, z, ne, k _ _ (.inl rfl) e, mA, ⟨od, es, ep, k _ _ (.inr d) e2, c⟩, r⟩
 | own y => obtain ⟨ob, e⟩ := x; exact ⟨ob, k _ _ (.inl rfl) e⟩
 | xd fs => obtain ⟨mA, ⟨od, es, ep, e, c⟩, r⟩ := x; exact ⟨mA, ⟨od, es, ep, k _ _ (.inl rfl) e, c⟩, r⟩
 | rng lo hi => obtain ⟨t, u, v, e⟩ := x; exact ⟨t, u, v, k _ _ (.inl rfl) e⟩
 | frz ob u ih => obtain ⟨e, q⟩ := x; exact ⟨k _ _ (.inl rfl) e, ih q⟩
 | tbl ps =>
  have e : h.get? a = some { cls := .none, data := .fields ps } := x
  show h'.get? a = some { cls := .none, data := .fields ps }
  exact k a _ (.inl rfl) e
 | met f y =>
  have e : h.get? a = some (PySem.W.methodObj (.ref f) (.ref y)) := x
  show h'.get? a = some (PySem.W.methodObj (.ref f) (.ref y))
  exact k a _ (.inl rfl) e
 | ext φ => obtain ⟨p, ⟨o, e⟩, st⟩ := x; exact ⟨st _ _ p fun o q => k _ _ (.inl rfl) q, ⟨o, k _ _ (.inl rfl) e⟩, st⟩
theorem HOk.lt (x : HOk P w H h) (e : H a = some o) : a < h.objs.size := (x a o e).lt
theorem HOk.fresh (x : HOk P w H h) (e : h.objs.size ≤ a) : H a = none := by
 cases q : H a with
 | none => rfl
 | some u => exact absurd (Nat.lt_of_lt_of_le (x.lt q) e) (Nat.lt_irrefl _)
theorem HOk.kept (x : HOk P w H h) (k : ∀ b u, h.get? b = some u → h'.get? b = some u) : HOk P w H h' := fun a o e =>
 (x a o e).stay (fun b u _ q => k b u q) (fun _ q => q) fun _ _ q => q
theorem HOk.laid (x : HOk P w H h) (k : ∀ b u, h.get? b = some u → h'.get? b = some u) (hp : h.objs.size ≤ a) (new : ObjOk P w (upd H a o) h' a o) : HOk P w (upd H a o) h' := fun b u e => by
 have hn := x.fresh hp
 by_cases hb : b = a
 ·subst hb; rw [aqg] at e; cases e; exact new
 ·rw [aqv hb] at e
  exact (x b u e).stay (fun c v _ q => k c v q) (fun c q => by rw [aqv (aql q hn)]; exact q) fun c xs q => by rw [aqv (aql q hn)]; exact q
end
def Rd (H : Hp) (a : Addr) (u : HO) : Prop := H a = some u ∨ ∃ o, H a = some (.frz o u)
theorem Rd.ok {P : Program} {w : World} {H : Hp} {h : Heap} {a : Addr} {u : HO} (r : Rd H a u) (x : HOk P w H h) : ObjOk P w H h a u := by
 rcases r with r | ⟨o, r⟩
 ·exact x a u r
 ·obtain ⟨_, q⟩ := x a _ r
  exact q
def Mut : Option HO → Prop
 | some (.lst _) => True
 | some (.dK _) => True
 | some (.dT _) => True
 | some (.set _ _) => True
 | some (.ins _ _ _) => True
 | some (.ext _) => True
 | _ => False
section
variable {P : Program} {w : World} {H : Hp} {h h' : Heap} {x e : Addr} {o' : HO}
theorem HOk.write (ok : HOk P w H h) (mu : Mut (H x)) (he : e = x ∨ H e = some (.own x)) (k : ∀ b u, b ≠ e → h.get? b = some u → h'.get? b = some u) (heo : ∃ u, h'.get? e = some u)
  (new : ObjOk P w (upd H x o') h' x o') : HOk P w (upd H x o') h' := fun b u q => by
 have nown : ∀ c y, H c = some (.own y) → c ≠ x := fun c y r z => by subst z; rw [r] at mu; exact mu
 have ntup : ∀ c xs, H c = some (.tup xs) → c ≠ x := fun c xs r z => by subst z; rw [r] at mu; exact mu
 by_cases hb : b = x
 ·subst hb; rw [aqg] at q; cases q; exact new
 ·rw [aqv hb] at q
  by_cases hbe : b = e
  ·have q' : H b = some (.own x) := by
    rcases he with z | z
    ·exact absurd (hbe.trans z) hb
    ·rw [hbe]; exact z
   rw [q] at q'; cases q'
   obtain ⟨v, hv⟩ := heo
   exact ⟨v, by rw [hbe]; exact hv⟩
  ·refine (ok b u q).stay (fun c v hc r => k c v ?_ r) (fun c r => by rw [aqv (nown c b r)]; exact r) fun c xs r => by rw [aqv (ntup c xs r)]; exact r
   rcases hc with rfl | hc
   ·exact hbe
   ·rintro rfl
    rcases he with z | z
    ·exact nown c b hc z
    ·rw [hc] at z; cases z; exact hb rfl
end
structure Un (fs ex : List Addr) (H H' : Hp) (h h' : Heap) : Prop where
 keep : ∀ b o, h.get? b = some o → H b = none → b ∉ fs → b ∉ ex → h'.get? b = some o
 slot : ∀ b o, h.get? b = some o → H b = none → b ∈ fs → b ∉ ex → ∃ sl, h'.get? b = some { o with slots := sl }
 free : ∀ b o, h.get? b = some o → H b = none → b ∉ ex → H' b = none
 there : ∀ b o, h.get? b = some o → b ∉ ex → ∃ o', h'.get? b = some o'
 tups : ∀ b xs, H b = some (.tup xs) → H' b = some (.tup xs)
 frzs : ∀ b o u, H b = some (.frz o u) → H' b = some (.frz o u)
 tbls : ∀ b ps, H b = some (.tbl ps) → ∃ more, H' b = some (.tbl (ps ++ more))
section
variable {fs fs' ex ex' : List Addr} {H H1 H2 : Hp} {h h1 h2 h' : Heap} {a x e : Addr} {o : HO}
theorem Un.any (u : Un fs ex H H1 h h1) {b : Addr} {ob : Obj} (q : h.get? b = some ob) (n : H b = none) (hx : b ∉ ex) : ∃ sl, h1.get? b = some { ob with slots := sl } := by
 by_cases hb : b ∈ fs
 ·exact u.slot b ob q n hb hx
 ·exact ⟨ob.slots, u.keep b ob q n hb hx⟩
theorem Un.kept (k : ∀ b u, h.get? b = some u → h'.get? b = some u) : Un fs ex H H h h' :=
 ⟨fun b ob q _ _ _ => k b ob q, fun b ob q _ _ _ => ⟨ob.slots, k b ob q⟩, fun _ _ _ n _ => n, fun b ob q _ => ⟨ob, k b ob q⟩, fun _ _ q => q, fun _ _ _ q => q, fun _ ps q => ⟨#[], by rw [q]; simp⟩⟩
theorem Un.refl : Un fs ex H H h h := Un.kept fun _ _ q => q
theorem Un.laid (k : ∀ b u, h.get? b = some u → h'.get? b = some u) (hp : h.objs.size ≤ a) (hn : H a = none) : Un fs ex H (upd H a o) h h' where
 keep := fun b u q _ _ _ => k b u q
 slot := fun b u q _ _ _ => ⟨u.slots, k b u q⟩
 free := fun b u q n _ => by rw [aqv (Nat.ne_of_lt (Nat.lt_of_lt_of_le (Heap.lt_size q) hp))]; exact n
 there := fun b u q _ => ⟨u, k b u q⟩
 tups := fun b xs q => by rw [aqv (aql q hn)]; exact q
 frzs := fun b u xs q => by rw [aqv (aql q hn)]; exact q
 tbls := fun b ps q => ⟨#[], by rw [aqv (aql q hn), q]; simp⟩
theorem Un.write (mu : Mut (H x)) (he : e = x ∨ H e = some (.own x)) (k : ∀ b u, b ≠ e → h.get? b = some u → h'.get? b = some u) (heo : ∃ u, h'.get? e = some u) : Un fs ex H (upd H x o) h h' := by
 have hx : ∀ b, H b = none → b ≠ x := fun b n z => by subst z; rw [n] at mu; exact mu
 have hb : ∀ b, H b = none → b ≠ e := fun b n z => by
  subst z
  rcases he with r | r
  ·exact hx b n r
  ·rw [n] at r; cases r
 have hm : ∀ b u, H b = some u → ¬ Mut (some u) → b ≠ x := fun b u q nm z => by subst z; rw [q] at mu; exact nm mu
 refine ⟨fun b u q n _ _ => k b u (hb b n) q, fun b u q n _ _ => ⟨u.slots, k b u (hb b n) q⟩, fun b u q n _ => by rw [aqv (hx b n)]; exact n, fun b u q _ => ?_,
  fun b xs q => by rw [aqv (hm b _ q fun z => z)]; exact q, fun b u xs q => by rw [aqv (hm b _ q fun z => z)]; exact q, fun b ps q => ⟨#[], by rw [aqv (hm b _ q fun z => z), q]; simp⟩⟩
 by_cases hbe : b = e
 ·subst hbe; exact heo
 ·exact ⟨u, k b u hbe q⟩
end
def trk (h : Heap) (H : Hp) : List Addr := (List.range h.objs.size).filter fun a => (H a).isSome
def hidT (h : Heap) (H : Hp) : Heap := PySem.W.hideAll h (trk h H)
theorem qqo (h : Heap) (H : Hp) : (hidT h H).objs.size = h.objs.size := PySem.W.hideAll_size _ _
theorem rqt {h : Heap} {H : Hp} {b : Addr} {o : Obj} (e : h.get? b = some o) (n : H b = none) : (hidT h H).get? b = some o :=
 PySem.W.hideAll_get _ e fun hm => by
  have q : (H b).isSome = true := (List.mem_filter.mp hm).2
  rw [n] at q; simp at q
theorem uqw {h : Heap} {H : Hp} {b : Addr} {o : Obj} (e : (hidT h H).get? b = some o) : h.get? b = some o ∧ H b = none := by
 have e' : h.get? b = some o := PySem.W.of_hideAll (trk h H) e
 refine ⟨e', ?_⟩
 cases q : H b with
 | none => rfl
 | some x =>
  have hm : b ∈ trk h H := List.mem_filter.mpr ⟨List.mem_range.mpr (Heap.lt_size e'), by simp [q]⟩
  have z : (hidT h H).get? b = none := PySem.W.hideAll_none (trk h H) hm
  rw [z] at e; cases e
def allNews (g h : Heap) (L : Addr) : List (Addr × Obj) := (List.range h.objs.size).filterMap fun a => if a = L ∨ (g.get? a).isSome = true then none else (h.get? a).map fun o => (a, o)
def rest (g h : Heap) (L d : Addr) : List (Addr × Obj) := (allNews g h L).filter fun p => decide (p.1 ≠ d)
end L2
namespace L2
open PySem PySem.Spec PyProof.Rows
structure Mod (K : PySem.W.Frag) (mg : Str → Option Value) (base : Heap) : Prop where
 kin : K.In base
 glob : base.Ns mainGlobals mg
 blt : ∃ mb, base.Ns builtinsNs mb ∧ ∀ x : Str, x ≠ "__name__" → mb x = bootBuiltins x
 nolimit : base.NoLimit
structure Cx where
 prog : Program
 w : World
 K : PySem.W.Frag
 mg : Str → Option Value
 base : Heap
 A : Around
 N : List Str
 s₀ : Shared
 H₀ : Hp
 env : Env
 outer : List Env
 stack : List Env
 ex : List Addr
 fn : Str → Bool
 calm : Bool
 pn : List (Addr × Obj)
 xe : Value → Shared → Prop
def frs (l : List Env) : List Addr := l.filterMap (·.frame)
abbrev Cx.fs (X : Cx) : List Addr := frs X.outer
def Vis (sc : Scope) (x : Str) : Prop := sc.names.lookup x = some .local ∨ sc.names.lookup x = some .cell ∨ sc.names.lookup x = some .free
def Loc (sc : Scope) (x : Str) : Prop := sc.names.lookup x = some .local ∨ sc.names.lookup x = some .cell
def Look (env : Env) (h : Heap) (m : Str → Option Value) (x : Str) (u : Value) : Prop :=
 (env.kindOf x = some .local ∧ m x = some u) ∨ ((env.kindOf x = some .cell ∨ env.kindOf x = some .free) ∧ ∃ c, env.cells.lookup x = some c ∧ h.IsCell c (some u))
structure Cx.Ok (X : Cx) : Prop where
 mod : Mod X.K X.mg X.base
 kind : X.env.scope.kind = .function
 glob : X.env.globals = mainGlobals
 blt : X.env.builtins = builtinsNs
 above : X.s₀.heap.objs.size ≤ X.env.locals
 inj : ∀ x y c, X.env.cells.lookup x = some c → X.env.cells.lookup y = some c → x = y
 has : ∀ x, (X.env.kindOf x = some .cell ∨ X.env.kindOf x = some .free) → ∃ c, X.env.cells.lookup x = some c
 cab : ∀ x c, X.fn x = true → X.env.cells.lookup x = some c → X.s₀.heap.objs.size ≤ c
 hd : X.calm = true → X.A.handled = none
 frames : X.A.frames = some X.stack
 stk : X.stack = X.outer ∨ (X.stack = X.env :: X.outer ∧ X.env.frame = some X.env.locals)
 exf : ∀ b ∈ X.ex, b ≠ X.env.locals ∧ ∀ x c, X.env.cells.lookup x = some c → c ≠ b
 bs : ∀ b o, X.base.get? b = some o → X.s₀.heap.get? b = some o ∧ X.H₀ b = none
 bsz : X.base.objs.size ≤ X.s₀.heap.objs.size
 noex : ∀ b o, X.base.get? b = some o → b ∉ X.ex
 exfs : ∀ b ∈ X.ex, b ∉ X.fs
 funs : X.s₀.heap.FunFrames X.base X.outer
 frf : ∀ b ∈ X.fs, X.H₀ b = none
structure Inv (X : Cx) (pins : List (Addr × Obj)) (σ : List (Option V)) (H : Hp) (s : Shared) : Prop where
 ok : X.Ok
 os : s.os = X.s₀.os
 bare : AllBare s.gens
 base : Un X.fs X.ex X.H₀ H X.s₀.heap s.heap
 loc : ∃ m, s.heap.Ns X.env.locals m ∧ ∀ (i : Nat) (x : Str) (v : V), X.N[i]? = some x → σ[i]? = some (some v) → Vis X.env.scope x → ∃ u, RelV v u ∧ Look X.env s.heap m x u
 cell : ∀ x c, X.env.cells.lookup x = some c → ∃ v, s.heap.IsCell c v
 free : H X.env.locals = none
 freeC : ∀ x c, X.env.cells.lookup x = some c → H c = none
 pin : ∀ p ∈ X.pn ++ pins, s.heap.get? p.1 = some p.2 ∧ H p.1 = none ∧ p.1 ≠ X.env.locals ∧ p.1 ∉ X.fs ∧ ∀ v, p.2.data ≠ .cell v
 hok : HOk X.prog X.w H s.heap
 len : σ.length = X.N.length
section
variable {X : Cx} {pins : List (Addr × Obj)} {σ : List (Option V)} {H H' : Hp} {s : Shared} {h' : Heap}
theorem Cx.Ok.nofr (ok : X.Ok) {b : Addr} {o : Obj} (e : X.base.get? b = some o) : b ∉ X.fs := fun hb => by
 have := (ok.funs.mem hb).1
 rw [e] at this; cases this
theorem Inv.bs (I : Inv X pins σ H s) : ∀ b o, X.base.get? b = some o → s.heap.get? b = some o ∧ H b = none := fun b o e =>
 ⟨I.base.keep b o (I.ok.bs b o e).1 (I.ok.bs b o e).2 (I.ok.nofr e) (I.ok.noex b o e), I.base.free b o (I.ok.bs b o e).1 (I.ok.bs b o e).2 (I.ok.noex b o e)⟩
theorem Inv.bk (I : Inv X pins σ H s) : ∀ b o, X.base.get? b = some o → s.heap.get? b = some o := fun b o e => (I.bs b o e).1
theorem Inv.mod (I : Inv X pins σ H s) : Mod X.K X.mg X.base := I.ok.mod
theorem Inv.kIn (I : Inv X pins σ H s) : X.K.In s.heap := I.ok.mod.kin.keeps I.bk
theorem Inv.lt (I : Inv X pins σ H s) : X.env.locals < s.heap.objs.size := let ⟨_, hn, _⟩ := I.loc; hn.lt
theorem Inv.sz (I : Inv X pins σ H s) : X.s₀.heap.objs.size ≤ s.heap.objs.size := Nat.le_trans I.ok.above (Nat.le_of_lt I.lt)
theorem Inv.nofs (I : Inv X pins σ H s) {a : Addr} (h : s.heap.objs.size ≤ a) : a ∉ X.fs := fun hb => by
 obtain ⟨_, o, ho, _⟩ := I.ok.funs.mem hb
 exact absurd (Nat.lt_of_lt_of_le (Heap.lt_size ho) (Nat.le_trans I.sz h)) (Nat.lt_irrefl _)
theorem Inv.cne (I : Inv X pins σ H s) : ∀ x c, X.env.cells.lookup x = some c → c ≠ X.env.locals := fun x c e z => by
 obtain ⟨v, o, ho, hd⟩ := I.cell x c e
 obtain ⟨m, ⟨o', es, ep, ho', hd', _⟩, _⟩ := I.loc
 rw [z, ho'] at ho; cases ho; rw [hd'] at hd; cases hd
theorem Inv.funs (I : Inv X pins σ H s) : s.heap.FunFrames X.base X.outer := by
 have all : ∀ (l : List Env), (∀ b ∈ frs l, b ∈ X.fs) → X.s₀.heap.FunFrames X.base l → s.heap.FunFrames X.base l := by
  intro l
  induction l with
  | nil => intro _ _; trivial
  | cons env r ih =>
   intro hs hl
   obtain ⟨hk, ⟨L, o, hf, hn, ho, hd⟩, hr⟩ := hl
   have hL : L ∈ X.fs := hs L (by unfold frs; rw [List.filterMap_cons, hf]; exact List.mem_cons_self)
   obtain ⟨sl, e⟩ := I.base.slot L o ho (I.ok.frf L hL) hL fun z => I.ok.exfs L z hL
   exact ⟨hk, ⟨L, _, hf, hn, e, hd⟩, ih (fun b hb => hs b (by unfold frs; rw [List.filterMap_cons, hf]; exact List.mem_cons_of_mem _ hb)) hr⟩
 exact all X.outer (fun _ hb => hb) I.ok.funs
theorem Inv.stack (I : Inv X pins σ H s) : s.heap.FunFrames X.base X.stack := by
 rcases I.ok.stk with e | ⟨e, hf⟩
 ·rw [e]; exact I.funs
 ·rw [e]
  obtain ⟨m, hn, _⟩ := I.loc
  refine .cons (by rw [I.ok.kind]; decide) hf hn ?_ I.funs
  exact Heap.get?_none_of_le (Nat.le_trans I.ok.bsz I.ok.above)
theorem Inv.stkSub (I : Inv X pins σ H s) : ∀ b ∈ frs X.stack, b ∈ X.env.locals :: X.fs := fun b hb => by
 rcases I.ok.stk with e | ⟨e, hf⟩
 ·rw [e] at hb; exact List.mem_cons_of_mem _ hb
 ·rw [e] at hb
  unfold frs at hb
  rw [List.filterMap_cons, hf] at hb
  exact hb
theorem Inv.stkFree (I : Inv X pins σ H s) : ∀ b ∈ frs X.stack, H b = none := fun b hb => by
 rcases List.mem_cons.mp (I.stkSub b hb) with e | hb
 ·rw [e]; exact I.free
 ·obtain ⟨_, o, ho, _⟩ := I.ok.funs.mem hb
  exact I.base.free b o ho (I.ok.frf b hb) fun z => I.ok.exfs b z hb
theorem Inv.step {g' : Array GenState} {t' : Nat} {d' : Drawn} {ch : List Addr} (I : Inv X pins σ H s)
  (hch : ∀ b ∈ ch, (b ∈ X.ex ∨ X.s₀.heap.objs.size ≤ b) ∧ b ≠ X.env.locals ∧ (∀ x c, X.env.cells.lookup x = some c → c ≠ b) ∧ ∀ p ∈ X.pn ++ pins, p.1 ≠ b)
  (keep : ∀ b o, b ≠ X.env.locals → b ∉ X.fs → b ∉ ch → s.heap.get? b = some o → H b = none → h'.get? b = some o)
  (slot : ∀ b o, b ≠ X.env.locals → b ∈ X.fs → b ∉ ch → s.heap.get? b = some o → H b = none → ∃ sl, h'.get? b = some { o with slots := sl }) (free : ∀ b o, b ∉ ch → s.heap.get? b = some o → H b = none → H' b = none)
  (there : ∀ b o, b ∉ ch → s.heap.get? b = some o → ∃ o', h'.get? b = some o')
  (tups : ∀ b xs, H b = some (.tup xs) → H' b = some (.tup xs)) (frzs : ∀ b o u, H b = some (.frz o u) → H' b = some (.frz o u)) (tbls : ∀ b ps, H b = some (.tbl ps) → ∃ more, H' b = some (.tbl (ps ++ more)))
  (ns : ∀ m, s.heap.Ns X.env.locals m → h'.Ns X.env.locals m) (hok : HOk X.prog X.w H' h') (hg : AllBare g') :
  Inv X pins σ H' { s with heap := h', gens := g', drawn := d', toks := t' } := by
 have neL : ∀ b o, X.s₀.heap.get? b = some o → b ≠ X.env.locals := fun b o e => Nat.ne_of_lt (Nat.lt_of_lt_of_le (Heap.lt_size e) I.ok.above)
 have neC : ∀ b o, X.s₀.heap.get? b = some o → b ∉ X.ex → b ∉ ch := fun b o e hx hb => by
  rcases (hch b hb).1 with z | z
  ·exact hx z
  ·exact absurd (Nat.lt_of_lt_of_le (Heap.lt_size e) z) (Nat.lt_irrefl _)
 have cellK : ∀ x c, X.env.cells.lookup x = some c → ∀ v, s.heap.IsCell c v → h'.IsCell c v := fun x c e v ⟨o, ho, hd⟩ => by
  have nch : c ∉ ch := fun z => (hch c z).2.2.1 x c e rfl
  by_cases hc : c ∈ X.fs
  ·obtain ⟨sl, q⟩ := slot c o (I.cne x c e) hc nch ho (I.freeC x c e)
   exact ⟨_, q, hd⟩
  ·exact ⟨o, keep c o (I.cne x c e) hc nch ho (I.freeC x c e), hd⟩
 refine ⟨I.ok, I.os, hg, ⟨fun b o e n hb hx => ?_, fun b o e n hb hx => ?_, fun b o e n hx => ?_, fun b o e hx => ?_, fun b xs e => tups b xs (I.base.tups b xs e), fun b o xs e => frzs b o xs (I.base.frzs b o xs e), fun b ps e => ?_⟩, ?_, fun x c e => ?_, ?_, fun x c e => ?_, fun p hp => ?_, hok, I.len⟩
 ·exact keep b o (neL b o e) hb (neC b o e hx) (I.base.keep b o e n hb hx) (I.base.free b o e n hx)
 ·obtain ⟨sl, e1⟩ := I.base.slot b o e n hb hx
  obtain ⟨sl', e2⟩ := slot b _ (neL b o e) hb (neC b o e hx) e1 (I.base.free b o e n hx)
  exact ⟨sl', e2⟩
 ·obtain ⟨o', e1⟩ := I.base.there b o e hx
  exact free b o' (neC b o e hx) e1 (I.base.free b o e n hx)
 ·obtain ⟨o', e1⟩ := I.base.there b o e hx
  exact there b o' (neC b o e hx) e1
 ·obtain ⟨m1, e1⟩ := I.base.tbls b ps e
  obtain ⟨m2, e2⟩ := tbls b _ e1
  exact ⟨m1 ++ m2, by rw [e2, Array.append_assoc]⟩
 ·obtain ⟨m, hn, hl⟩ := I.loc
  refine ⟨m, ns m hn, fun i x v e1 e2 e3 => ?_⟩
  obtain ⟨u, r, l⟩ := hl i x v e1 e2 e3
  refine ⟨u, r, ?_⟩
  rcases l with l | ⟨k, c, e, z⟩
  ·exact .inl l
  ·exact .inr ⟨k, c, e, cellK x c e _ z⟩
 ·obtain ⟨v, z⟩ := I.cell x c e
  exact ⟨v, cellK x c e v z⟩
 ·obtain ⟨m, ⟨o, _, _, ho, _⟩, _⟩ := I.loc
  exact free _ o (fun z => (hch _ z).2.1 rfl) ho I.free
 ·obtain ⟨v, o, ho, hd⟩ := I.cell x c e
  exact free c o (fun z => (hch c z).2.2.1 x c e rfl) ho (I.freeC x c e)
 ·obtain ⟨e, n, ne, nf, d⟩ := I.pin p hp
  have nch : p.1 ∉ ch := fun z => (hch p.1 z).2.2.2 p hp rfl
  exact ⟨keep p.1 p.2 ne nf nch e n, free p.1 p.2 nch e n, ne, nf, d⟩
theorem Inv.un {t' : Nat} (I : Inv X pins σ H s) (u : Un X.fs [] H H' s.heap h') (hok : HOk X.prog X.w H' h') : Inv X pins σ H' { s with heap := h', toks := t' } := by
 obtain ⟨m, ⟨o, es, ep, ho, r⟩, _⟩ := id I.loc
 obtain ⟨sl, hL⟩ := u.any ho I.free (by simp)
 exact I.step (g' := s.gens) (d' := s.drawn) (ch := []) (fun _ z => nomatch z) (fun b o _ hb _ e n => u.keep b o e n hb (by simp)) (fun b o _ hb _ e n => u.slot b o e n hb (by simp)) (fun b o _ e n => u.free b o e n (by simp)) (fun b o _ e => u.there b o e (by simp)) u.tups u.frzs u.tbls (fun m' hm => by
  obtain ⟨o', es', ep', ho', r'⟩ := hm
  rw [ho] at ho'; cases ho'
  exact ⟨_, es', ep', hL, r'⟩) hok I.bare
theorem Inv.call {g' : Array GenState} {t' : Nat} {d' : Drawn} {ch : List Addr} (I : Inv X pins σ H s) (u : Un (frs X.stack) ch H H' s.heap h') (hok : HOk X.prog X.w H' h') (hg : AllBare g')
  (hch : ∀ b ∈ ch, (b ∈ X.ex ∨ X.s₀.heap.objs.size ≤ b) ∧ b ≠ X.env.locals ∧ (∀ x c, X.env.cells.lookup x = some c → c ≠ b) ∧ ∀ p ∈ X.pn ++ pins, p.1 ≠ b) :
  Inv X pins σ H' { s with heap := h', gens := g', drawn := d', toks := t' } := by
 obtain ⟨m, ⟨o, es, ep, ho, r⟩, _⟩ := id I.loc
 obtain ⟨sl, hL⟩ := u.any ho I.free fun z => (hch _ z).2.1 rfl
 exact I.step (ch := ch) hch (fun b o hL hb hc e n => u.keep b o e n (fun z => (List.mem_cons.mp (I.stkSub b z)).elim hL hb) hc) (fun b o _ _ hc e n => u.any e n hc) (fun b o hc e n => u.free b o e n hc) (fun b o hc e => u.there b o e hc) u.tups u.frzs u.tbls (fun m' hm => by
  obtain ⟨o', es', ep', ho', r'⟩ := hm
  rw [ho] at ho'; cases ho'
  exact ⟨_, es', ep', hL, r'⟩) hok hg
theorem Inv.turned {t' : Nat} {it : Addr} (I : Inv X pins σ H s) (k : ∀ b o, b ≠ it → s.heap.get? b = some o → h'.get? b = some o) (hn : H it = none) (hL : it ≠ X.env.locals)
  (h1 : it ∈ X.ex ∨ X.s₀.heap.objs.size ≤ it) (h2 : ∀ x c, X.env.cells.lookup x = some c → c ≠ it) (h3 : ∀ p ∈ X.pn ++ pins, p.1 ≠ it) : Inv X pins σ H { s with heap := h', toks := t' } := by
 have nit : ∀ b u, H b = some u → b ≠ it := fun b u e z => by rw [z, hn] at e; cases e
 refine I.step (g' := s.gens) (d' := s.drawn) (ch := [it]) (fun b hb => ?_) (fun b o _ _ hc e _ => k b o (fun z => hc (by simp [z])) e) (fun b o _ _ hc e _ => ⟨o.slots, k b o (fun z => hc (by simp [z])) e⟩) (fun _ _ _ _ n => n)
  (fun b o hc e => ⟨o, k b o (fun z => hc (by simp [z])) e⟩) (fun _ _ e => e) (fun _ _ _ e => e) (fun b ps e => ⟨#[], by rw [e]; simp⟩) (fun m hm => ?_) (fun b u e => ?_) I.bare
 ·have e : b = it := by simpa using hb
  subst e
  exact ⟨h1, hL, h2, h3⟩
 ·obtain ⟨o, es, ep, ho, r⟩ := hm
  exact ⟨o, es, ep, k _ o (Ne.symm hL) ho, r⟩
 ·refine (I.hok b u e).stay (fun c v hc q => k c v ?_ q) (fun _ q => q) fun _ _ q => q
  rcases hc with z | z
  ·rw [z]; exact nit b u e
  ·exact nit c _ z
theorem Inv.tok (I : Inv X pins σ H s) (t : Nat) : Inv X pins σ H { s with toks := t } := I.un (h' := s.heap) (t' := t) Un.refl I.hok
theorem Inv.kept {t' : Nat} (I : Inv X pins σ H s) (k : ∀ b u, s.heap.get? b = some u → h'.get? b = some u) : Inv X pins σ H { s with heap := h', toks := t' } := I.un (Un.kept k) (I.hok.kept k)
theorem Inv.laid {a : Addr} {o : HO} {t' : Nat} (I : Inv X pins σ H s) (k : ∀ b u, s.heap.get? b = some u → h'.get? b = some u) (hp : s.heap.objs.size ≤ a) (new : ObjOk X.prog X.w (upd H a o) h' a o) :
  Inv X pins σ (upd H a o) { s with heap := h', toks := t' } := I.un (Un.laid k hp (I.hok.fresh hp)) (I.hok.laid k hp new)
theorem Inv.write {x e : Addr} {o : HO} {t' : Nat} (I : Inv X pins σ H s) (mu : Mut (H x)) (he : e = x ∨ H e = some (.own x)) (k : ∀ b u, b ≠ e → s.heap.get? b = some u → h'.get? b = some u) (heo : ∃ u, h'.get? e = some u)
  (new : ObjOk X.prog X.w (upd H x o) h' x o) : Inv X pins σ (upd H x o) { s with heap := h', toks := t' } := I.un (Un.write mu he k heo) (I.hok.write mu he k heo new)
theorem Inv.pins_of {pins' : List (Addr × Obj)} (I : Inv X pins σ H s) (h : ∀ p ∈ pins', s.heap.get? p.1 = some p.2 ∧ H p.1 = none ∧ p.1 ≠ X.env.locals ∧ p.1 ∉ X.fs ∧ ∀ v, p.2.data ≠ .cell v) : Inv X pins' σ H s :=
 ⟨I.ok, I.os, I.bare, I.base, I.loc, I.cell, I.free, I.freeC, fun p hp => (List.mem_append.mp hp).elim (fun z => I.pin p (List.mem_append_left _ z)) (h p), I.hok, I.len⟩
theorem lq3 {N : List Str} (hN : N.Nodup) {i j : Nat} {x : Str} (a : N[i]? = some x) (b : N[j]? = some x) : i = j := by
 obtain ⟨h1, e1⟩ := List.getElem?_eq_some_iff.mp a
 obtain ⟨h2, e2⟩ := List.getElem?_eq_some_iff.mp b
 exact (List.getElem_inj hN).mp (e1.trans e2.symm)
theorem qqC {M : Model} {A : Around} {E : Value → Shared → Prop} {i : Nat} {x : Str} {v : V} {u : Value} {Q : Unit → Shared → Prop} (I : Inv X pins σ H s) (hN : X.N.Nodup) (hi : X.N[i]? = some x) (hx : Loc X.env.scope x) (r : RelV v u)
  (h : ∀ s', Inv X pins (σ.set i (some v)) H s' → (∃ a, Heap.SameBut a s.heap s'.heap ∧ (a = X.env.locals ∨ X.env.cells.lookup x = some a)) → Q () s') (hf : X.fn x = true ∨ X.env.scope.names.lookup x = some .local := by first | exact .inl rfl | exact .inr rfl | assumption) : wpAny M A (storeName X.env x u) Q E s := by
 obtain ⟨m, hn, hl⟩ := id I.loc
 have hcls : (X.env.scope.kind == .class || (X.env.scope.kind == .module && X.env.locals != X.env.globals)) = false := by rw [I.ok.kind]; rfl
 have hiσ : i < σ.length := by rw [I.len]; exact (List.getElem?_eq_some_iff.mp hi).1
 have cne := I.cne
 have tracked : ∀ {a : Addr} {h' : Heap}, (∃ o, s.heap.get? a = some o ∧ H a = none) → Heap.SameBut a s.heap h' → HOk X.prog X.w H h' := fun {a h'} ha hs b ob e => by
  obtain ⟨_, _, hfree⟩ := ha
  refine (I.hok b ob e).stay (fun c w' hc q => (hs.2 c ?_).trans q) (fun _ q => q) fun _ _ q => q
  rintro rfl
  rcases hc with rfl | hc
  ·rw [hfree] at e; cases e
  ·rw [hfree] at hc; cases hc
 rcases hx with hk | hk
 ·refine wpAny_storeName_local hk hn (fun h' hn' hs => ?_) hcls
  obtain ⟨oL, _, _, hoL, _⟩ := id hn
  refine h _ ⟨I.ok, I.os, I.bare, ⟨fun b o e n hb hx => ?_, fun b o e n hb hx => ?_, I.base.free, fun b o e hx => ?_, I.base.tups, I.base.frzs, I.base.tbls⟩, ⟨_, hn', fun j y v' e1 e2 e3 => ?_⟩, fun y c e => ?_, I.free, I.freeC, fun p hp => ?_, tracked ⟨oL, hoL, I.free⟩ hs, by simpa using I.len⟩ ⟨_, hs, .inl rfl⟩
  ·exact (hs.2 b (Nat.ne_of_lt (Nat.lt_of_lt_of_le (Heap.lt_size e) I.ok.above))).trans (I.base.keep b o e n hb hx)
  ·obtain ⟨sl, e1⟩ := I.base.slot b o e n hb hx
   exact ⟨sl, (hs.2 b (Nat.ne_of_lt (Nat.lt_of_lt_of_le (Heap.lt_size e) I.ok.above))).trans e1⟩
  ·obtain ⟨o', e1⟩ := I.base.there b o e hx
   exact ⟨o', (hs.2 b (Nat.ne_of_lt (Nat.lt_of_lt_of_le (Heap.lt_size e) I.ok.above))).trans e1⟩
  ·by_cases hj : j = i
   ·subst hj
    rw [hi] at e1; cases e1
    rw [List.getElem?_set_self hiσ] at e2
    cases e2
    exact ⟨u, r, .inl ⟨hk, by simp⟩⟩
   ·rw [List.getElem?_set_ne (Ne.symm hj)] at e2
    obtain ⟨u', r', q⟩ := hl j y v' e1 e2 e3
    refine ⟨u', r', ?_⟩
    rcases q with ⟨k, e⟩ | ⟨k, c, e, z⟩
    ·refine .inl ⟨k, ?_⟩
     have : y ≠ x := fun e => hj (lq3 hN e1 (e ▸ hi))
     simp [this, e]
    ·exact .inr ⟨k, c, e, z.sameBut hs (cne y c e)⟩
  ·obtain ⟨w', z⟩ := I.cell y c e
   exact ⟨w', z.sameBut hs (cne y c e)⟩
  ·obtain ⟨e, n, ne, nf, d⟩ := I.pin p hp
   exact ⟨(hs.2 p.1 ne).trans e, n, ne, nf, d⟩
 ·have hfn : X.fn x = true := by
   rcases hf with z | z
   ·exact z
   ·rw [z] at hk; cases hk
  obtain ⟨c, hc⟩ := I.ok.has x (.inl hk)
  obtain ⟨w', z⟩ := I.cell x c hc
  refine wpAny_storeName_cell I.ok.kind hk hc z (fun h' hc' hs => ?_)
  obtain ⟨oc, hoc, hocd⟩ := id z
  refine h { s with heap := h' } ⟨I.ok, I.os, I.bare, ⟨fun b o e n hb hx => ?_, fun b o e n hb hx => ?_, I.base.free, fun b o e hx => ?_, I.base.tups, I.base.frzs, I.base.tbls⟩, ⟨m, hn.sameBut hs (Ne.symm (cne x c hc)), fun j y v' e1 e2 e3 => ?_⟩, fun y c' e => ?_, I.free, I.freeC, fun p hp => ?_, tracked ⟨oc, hoc, I.freeC x c hc⟩ hs, by simpa using I.len⟩ ⟨c, hs, .inr hc⟩
  ·exact (hs.2 b (Nat.ne_of_lt (Nat.lt_of_lt_of_le (Heap.lt_size e) (I.ok.cab x c hfn hc)))).trans (I.base.keep b o e n hb hx)
  ·obtain ⟨sl, e1⟩ := I.base.slot b o e n hb hx
   exact ⟨sl, (hs.2 b (Nat.ne_of_lt (Nat.lt_of_lt_of_le (Heap.lt_size e) (I.ok.cab x c hfn hc)))).trans e1⟩
  ·obtain ⟨o', e1⟩ := I.base.there b o e hx
   exact ⟨o', (hs.2 b (Nat.ne_of_lt (Nat.lt_of_lt_of_le (Heap.lt_size e) (I.ok.cab x c hfn hc)))).trans e1⟩
  ·by_cases hj : j = i
   ·subst hj
    rw [hi] at e1; cases e1
    rw [List.getElem?_set_self hiσ] at e2
    cases e2
    exact ⟨u, r, .inr ⟨.inl hk, c, hc, hc'⟩⟩
   ·rw [List.getElem?_set_ne (Ne.symm hj)] at e2
    obtain ⟨u', r', q⟩ := hl j y v' e1 e2 e3
    refine ⟨u', r', ?_⟩
    rcases q with q | ⟨k, c', e, z'⟩
    ·exact .inl q
    ·refine .inr ⟨k, c', e, z'.sameBut hs ?_⟩
     rintro rfl
     exact hj (lq3 hN e1 (I.ok.inj _ _ _ e hc ▸ hi))
  ·by_cases hcc : c' = c
   ·subst hcc; exact ⟨_, hc'⟩
   ·obtain ⟨w2, z2⟩ := I.cell y c' e
    exact ⟨w2, z2.sameBut hs hcc⟩
  ·obtain ⟨e, n, ne, nf, d⟩ := I.pin p hp
   refine ⟨(hs.2 p.1 ?_).trans e, n, ne, nf, d⟩
   intro q
   rw [q, hoc] at e
   have q' : oc = p.2 := Option.some.inj e
   exact d w' (by rw [← q']; exact hocd)
theorem jqn {M : Model} {A : Around} {E : Value → Shared → Prop} {i : Nat} {x : Str} {v : V} {u : Value} {Q : Unit → Shared → Prop} (I : Inv X pins σ H s) (hN : X.N.Nodup) (hi : X.N[i]? = some x) (hx : Loc X.env.scope x) (r : RelV v u)
  (h : ∀ s', Inv X pins (σ.set i (some v)) H s' → Q () s') (hf : X.fn x = true ∨ X.env.scope.names.lookup x = some .local := by first | exact .inl rfl | exact .inr rfl | assumption) : wpAny M A (storeName X.env x u) Q E s :=
 qqC I hN hi hx r (fun s' I' _ => h s' I') hf
theorem Inv.call' {s' : Shared} {ch : List Addr} (I : Inv X pins σ H s) (ho : s'.os = s.os) (u : Un (frs X.stack) ch H H' s.heap s'.heap) (hok : HOk X.prog X.w H' s'.heap) (hg : AllBare s'.gens)
  (hch : ∀ b ∈ ch, (b ∈ X.ex ∨ X.s₀.heap.objs.size ≤ b) ∧ b ≠ X.env.locals ∧ (∀ x c, X.env.cells.lookup x = some c → c ≠ b) ∧ ∀ p ∈ X.pn ++ pins, p.1 ≠ b) : Inv X pins σ H' s' := by
 obtain ⟨h', g', d', t', o'⟩ := s'
 have e : o' = s.os := ho
 subst e
 exact I.call (g' := g') (t' := t') (d' := d') u hok hg hch
end
abbrev XK := Value → Option Addr → Hp → Prop
abbrev St := List (Option V)
abbrev VK := V → Hp → Prop
abbrev TE := St → Hp → VK → Prop
abbrev TT := St → Hp → (Bool → Hp → Prop) → Prop
abbrev TA := St → Hp → (List V → Hp → Prop) → Prop
structure Ends where
 nx : St → Hp → Prop
 rt : VK
 bk : St → Hp → Prop := fun _ _ => False
 ct : St → Hp → Prop := fun _ _ => False
abbrev TS := Ends → St → Hp → Prop
def EP (X : Cx) (pins : List (Addr × Obj)) (σ : St) (Q : VK) (u : Value) (s' : Shared) : Prop := ∃ v H', Inv X pins σ H' s' ∧ RelV v u ∧ Q v H'
def TP (X : Cx) (pins : List (Addr × Obj)) (σ : St) (Q : Bool → Hp → Prop) (b : Bool) (s' : Shared) : Prop := ∃ H', Inv X pins σ H' s' ∧ Q b H'
def AP (X : Cx) (pins : List (Addr × Obj)) (σ : St) (Q : List V → Hp → Prop) (us : List Value) (s' : Shared) : Prop := ∃ vs H', Inv X pins σ H' s' ∧ Vals vs us ∧ Q vs H'
def SP (X : Cx) (pins : List (Addr × Obj)) (D : Ends) (f : Flow) (s' : Shared) : Prop :=
 match f with
 | .next => ∃ σ' H', Inv X pins σ' H' s' ∧ D.nx σ' H'
 | .brk => ∃ σ' H', Inv X pins σ' H' s' ∧ D.bk σ' H'
 | .cont => ∃ σ' H', Inv X pins σ' H' s' ∧ D.ct σ' H'
 | .ret u => ∃ v σ' H', Inv X pins σ' H' s' ∧ RelV v u ∧ D.rt v H'
def PE (X : Cx) (e : Expr) (t : TE) : Prop :=
 ∀ (pins : List (Addr × Obj)) (s : Shared) (σ : St) (H : Hp) (Q : VK), Inv X pins σ H s → t σ H Q → wpAny (model X.prog X.w) X.A (eval e X.env) (EP X pins σ Q) X.xe s
def PT (X : Cx) (e : Expr) (t : TT) : Prop :=
 ∀ (pins : List (Addr × Obj)) (s : Shared) (σ : St) (H : Hp) (Q : Bool → Hp → Prop), Inv X pins σ H s → t σ H Q → wpAny (model X.prog X.w) X.A (isTrue e X.env (eval e X.env)) (TP X pins σ Q) X.xe s
def PW (X : Cx) (e : Expr) (t : TT) : Prop :=
 ∀ (whole : Sem Value) (pins : List (Addr × Obj)) (s : Shared) (σ : St) (H : Hp) (Q : Bool → Hp → Prop), Inv X pins σ H s → t σ H Q → wpAny (model X.prog X.w) X.A (isTrue e X.env whole) (TP X pins σ Q) X.xe s
theorem PW.pt {X : Cx} {e : Expr} {t : TT} (h : PW X e t) : PT X e t := h _
def PA (X : Cx) (es : List Expr) (t : TA) : Prop :=
 ∀ (pos : Pos) (pins : List (Addr × Obj)) (s : Shared) (σ : St) (H : Hp) (Q : List V → Hp → Prop), Inv X pins σ H s → t σ H Q → wpAny (model X.prog X.w) X.A (spliced (backTo pos (starEach es X.env))) (AP X pins σ Q) X.xe s
def PS (X : Cx) (st : Stmt) (t : TS) : Prop :=
 ∀ (pins : List (Addr × Obj)) (s : Shared) (σ : St) (H : Hp) (D : Ends), Inv X pins σ H s → t D σ H → wpAny (model X.prog X.w) X.A (exec st X.env) (SP X pins D) X.xe s
def PSs (X : Cx) (st : List Stmt) (t : TS) : Prop :=
 ∀ (pins : List (Addr × Obj)) (s : Shared) (σ : St) (H : Hp) (D : Ends), Inv X pins σ H s → t D σ H → wpAny (model X.prog X.w) X.A (execs st X.env) (SP X pins D) X.xe s
theorem thn {α : Type} {t : Sem α} {Q Q' : α → Shared → Prop} {M : Model} {A : Around} {E : Value → Shared → Prop} {s : Shared} (h : wpAny M A t Q E s) (hQ : ∀ a s, Q a s → Q' a s) : wpAny M A t Q' E s := wpAny_mono h hQ fun _ _ x => x
end L2
namespace L2
open PySem PySem.Spec PyProof.Rows
section
variable {X : Cx}
theorem bin {a b : Expr} {ta tb : TE} (ha : PE X a ta) (hb : PE X b tb) {pins : List (Addr × Obj)} {s : Shared} {σ : St} {H : Hp} {R : V → V → Hp → Prop} (I : Inv X pins σ H s) (h : ta σ H fun x H1 => tb σ H1 fun y H2 => R x y H2)
  {α : Type} {Q : α → Shared → Prop} {f : Value → Value → Sem α}
  (hf : ∀ v u s2 x y H2, Inv X pins σ H2 s2 → RelV x v → RelV y u → R x y H2 → wpAny (model X.prog X.w) X.A (f v u) Q X.xe s2) :
  wpAny (model X.prog X.w) X.A (eval a X.env) (fun v s₁ => wpAny (model X.prog X.w) X.A (eval b X.env) (fun u s₂ => wpAny (model X.prog X.w) X.A (f v u) Q X.xe s₂) X.xe s₁) X.xe s := by
 refine thn (ha pins s σ H _ I h) fun v s1 ⟨x, H1, I1, r1, q1⟩ => ?_
 refine thn (hb pins s1 σ H1 _ I1 q1) fun u s2 ⟨y, H2, I2, r2, q2⟩ => ?_
 exact hf v u s2 x y H2 I2 r1 r2 q2
def tVar (i : Nat) : TE := fun σ H Q => ∃ v, σ[i]? = some (some v) ∧ Q v H
def tC (v : V) : TE := fun _ H Q => Q v H
theorem wql {i : Nat} {x : Str} {pos : Pos} (hN : X.N[i]? = some x) (hv : Vis X.env.scope x) (hd : (x == ("__debug__" : Str)) = false := by decide) (hcd : (x == ("__classdict__" : Str)) = false := by decide) : PE X (.Name x pos) (tVar i) := by
 intro pins s σ H Q I h
 obtain ⟨v, e, h⟩ := h
 obtain ⟨m, hn, hl⟩ := I.loc
 obtain ⟨u, r, l⟩ := hl i x v hN e hv
 have fin : EP X pins σ Q u s := ⟨v, H, I, r, h⟩
 rcases l with ⟨hk, hm⟩ | ⟨hk, c, hc, hcell⟩
 ·exact wpAny_Name (wpAny_loadName_local I.ok.kind hk hn hm fin) hd
 ·rcases hk with hk | hk
  ·exact wpAny_Name (wpAny_loadName_cell I.ok.kind hk hc hcell fin) hd
  ·exact wpAny_Name (wpAny_loadName_free I.ok.kind hk hc hcell fin hcd) hd
theorem aqf {i j pos} : PE X (.Constant (.int i) j pos) (tC (.int i)) := fun _ _ _ H _ I h => wpAny_Constant_int ⟨.int i, H, I.tok _, ⟨_, rfl⟩, h⟩
theorem lqZ {b j pos} : PE X (.Constant (.bool b) j pos) (tC (.bl b)) := fun _ _ _ H _ I h => Constant_bool ⟨.bl b, H, I, rfl, h⟩
theorem aqX {j pos} : PE X (.Constant .none j pos) (tC .non) := fun _ _ _ H _ I h => Constant_none ⟨.non, H, I, rfl, h⟩
theorem aqs {x j pos} : PE X (.Constant (.str x) j pos) (tC (.str x)) := fun _ _ _ H _ I h => Calls.Constant_str ⟨.str x, H, I.tok _, ⟨_, rfl⟩, h⟩
def Gl (X : Cx) (x : Str) : Prop := X.env.kindOf x = some .globalImplicit
theorem gqs {E : Value → Shared → Prop} {pins : List (Addr × Obj)} {s : Shared} {σ : St} {H : Hp} {x : Str} {u : Value} {pos : Pos} {Q : Value → Shared → Prop} (I : Inv X pins σ H s) (hg : Gl X x) (hm : X.mg x = some u) (h : Q u s)
  (hd : (x == ("__debug__" : Str)) = false := by decide) : wpAny (model X.prog X.w) X.A (eval (.Name x pos) X.env) Q E s :=
 Calls.Name_function_global I.ok.kind hg (Calls.loadGlobal_global (by rw [I.ok.glob]; exact I.mod.glob.keeps I.bk) hm h) hd
theorem oqO {E : Value → Shared → Prop} {pins : List (Addr × Obj)} {s : Shared} {σ : St} {H : Hp} {x : Str} {u : Value} {pos : Pos} {Q : Value → Shared → Prop} (I : Inv X pins σ H s) (hg : Gl X x) (hm : X.mg x = none) (hv : bootBuiltins x = some u) (h : Q u s)
  (hn : x ≠ "__name__" := by decide) (hd : (x == ("__debug__" : Str)) = false := by decide) : wpAny (model X.prog X.w) X.A (eval (.Name x pos) X.env) Q E s := by
 obtain ⟨mb, h1, h2⟩ := I.mod.blt
 exact Calls.Name_function_global I.ok.kind hg (Calls.loadGlobal_builtin (by rw [I.ok.glob]; exact I.mod.glob.keeps I.bk) hm (by rw [I.ok.blt]; exact h1.keeps I.bk) ((h2 x hn).trans hv) h) hd
theorem aqB {x : Str} {v : V} {u : Value} {pos : Pos} (hg : Gl X x) (hm : X.mg x = some u) (r : RelV v u) (hd : (x == ("__debug__" : Str)) = false := by decide) : PE X (.Name x pos) (tC v) :=
 fun _ _ _ H _ I h => gqs I hg hm ⟨v, H, I, r, h⟩ hd
theorem jqx {x : Str} {v : V} {u : Value} {pos : Pos} (hg : Gl X x) (hm : X.mg x = none) (hv : bootBuiltins x = some u) (r : RelV v u) (hn : x ≠ "__name__" := by decide) (hd : (x == ("__debug__" : Str)) = false := by decide) : PE X (.Name x pos) (tC v) :=
 fun _ _ _ H _ I h => oqO I hg hm hv ⟨v, H, I, r, h⟩ hn hd
variable {a b : Expr} {ta tb : TE} {pos : Pos}
def PC (X : Cx) (op : CmpOp) (a b : Expr) (t : TE) : Prop :=
 ∀ (pins : List (Addr × Obj)) (s : Shared) (σ : St) (H : Hp) (Q : VK), Inv X pins σ H s → t σ H Q →
  wpAny (model X.prog X.w) X.A (eval a X.env) (fun v s₁ => wpAny (model X.prog X.w) X.A (eval b X.env) (fun u s₂ => wpAny (model X.prog X.w) X.A (compareOp op v u) (EP X pins σ Q) X.xe s₂) X.xe s₁) X.xe s
def tB (t : TE) : TT := fun σ H Q => t σ H fun x H1 => ∃ c, x = .bl c ∧ Q c H1
theorem xqE {op : CmpOp} {t : TE} (h : PC X op a b t) (h1 : behindInMarks op b = false := by first | exact nobehind _ (by decide) (by decide) | rfl) : PT X (.Compare a [op] [b] pos) (tB t) := by
 intro pins s σ H Q I hw
 refine wpAny_isTrue_Compare1 (thn (h pins s σ H _ I hw) fun v s1 h1 => thn h1 fun u s2 h2 => thn h2 fun c s3 ⟨x, H1, I1, r1, q1⟩ => ?_) h1
 obtain ⟨d, rfl, q⟩ := q1
 cases r1
 exact wpAny_truthy_bool ⟨H1, I1, q⟩
theorem bqr {e : Expr} {t : TE} (h : PE X e t) (he : ∀ whole, isTrue e X.env whole = (do let v ← whole; standAt e.pos; holding [v] (truthy v)) := by intro _; rfl) : PT X e (tB t) := by
 intro pins s σ H Q I hw
 refine isTrue_plain (thn (h pins s σ H _ I hw) fun v s1 ⟨x, H1, I1, r1, q1⟩ => ?_) (he _)
 obtain ⟨d, rfl, q⟩ := q1
 cases r1
 exact wpAny_truthy_bool ⟨H1, I1, q⟩
variable {tA tB' : TT} {rest : List Expr}
def tAnd (t u : TT) : TT := fun σ H Q => t σ H fun c H1 => if c = true then u σ H1 Q else Q false H1
def tOr (t u : TT) : TT := fun σ H Q => t σ H fun c H1 => if c = true then Q true H1 else u σ H1 Q
def tNot (t : TT) : TT := fun σ H Q => t σ H fun c H1 => Q (!c) H1
theorem fq8 (ha : PT X a tA) : PW X (.BoolOp .And [a] pos) tA := by
 intro wh pins s σ H Q I h
 refine isTrue_and (thn (ha pins s σ H Q I h) fun c s1 e => ?_)
 cases c with
 | true => exact isTrue_and_nil e
 | false => exact e
theorem jqK (ha : PT X a tA) : PW X (.BoolOp .Or [a] pos) tA := by
 intro wh pins s σ H Q I h
 refine isTrue_or (thn (ha pins s σ H Q I h) fun c s1 e => ?_)
 cases c with
 | false => exact isTrue_or_nil e
 | true => exact e
theorem hqc (ha : PT X a tA) (hb : PW X (.BoolOp .And (b :: rest) pos) tB') : PW X (.BoolOp .And (a :: b :: rest) pos) (tAnd tA tB') := by
 intro wh pins s σ H Q I h
 refine isTrue_and (thn (ha pins s σ H _ I h) fun c s1 ⟨H1, I1, q1⟩ => ?_)
 cases c with
 | true => exact hb wh pins s1 σ H1 Q I1 q1
 | false => exact ⟨H1, I1, q1⟩
theorem lq0 (ha : PT X a tA) (hb : PW X (.BoolOp .Or (b :: rest) pos) tB') : PW X (.BoolOp .Or (a :: b :: rest) pos) (tOr tA tB') := by
 intro wh pins s σ H Q I h
 refine isTrue_or (thn (ha pins s σ H _ I h) fun c s1 ⟨H1, I1, q1⟩ => ?_)
 cases c with
 | true => exact ⟨H1, I1, q1⟩
 | false => exact hb wh pins s1 σ H1 Q I1 q1
theorem eq6 (ha : PT X a tA) : PT X (.UnaryOp .Not a pos) (tNot tA) := by
 intro pins s σ H Q I h
 exact isTrue_not (ha pins s σ H (fun c H1 => Q (!c) H1) I h)
def tAndV (ta tb : TE) : TE := fun σ H Q => ta σ H fun x H1 => ∃ c, x = .bl c ∧ if c = true then tb σ H1 Q else Q (.bl false) H1
def tOrV (ta tb : TE) : TE := fun σ H Q => ta σ H fun x H1 => ∃ c, x = .bl c ∧ if c = true then Q (.bl true) H1 else tb σ H1 Q
def tNotV (ta : TE) : TE := fun σ H Q => ta σ H fun x H1 => ∃ c, x = .bl c ∧ Q (.bl (!c)) H1
theorem hqQ {op} {t : TE} (h : PE X a t) : PE X (.BoolOp op [a] pos) t := fun pins s σ H Q I hw => BoolOp_one (h pins s σ H Q I hw)
theorem hqN (ha : PE X a ta) (hb : PE X (.BoolOp .And (b :: rest) pos) tb) : PE X (.BoolOp .And (a :: b :: rest) pos) (tAndV ta tb) := by
 intro pins s σ H Q I h
 refine BoolOp_and (thn (ha pins s σ H _ I h) fun v s1 ⟨x, H1, I1, r1, q1⟩ => ?_)
 obtain ⟨c, rfl, q1⟩ := q1
 cases r1
 refine wpAny_truthy_bool ?_
 cases c with
 | true => exact hb pins s1 σ H1 Q I1 q1
 | false => exact ⟨.bl false, H1, I1, rfl, q1⟩
theorem rqS (ha : PE X a ta) (hb : PE X (.BoolOp .Or (b :: rest) pos) tb) : PE X (.BoolOp .Or (a :: b :: rest) pos) (tOrV ta tb) := by
 intro pins s σ H Q I h
 refine BoolOp_or (thn (ha pins s σ H _ I h) fun v s1 ⟨x, H1, I1, r1, q1⟩ => ?_)
 obtain ⟨c, rfl, q1⟩ := q1
 cases r1
 refine wpAny_truthy_bool ?_
 cases c with
 | false => exact hb pins s1 σ H1 Q I1 q1
 | true => exact ⟨.bl true, H1, I1, rfl, q1⟩
theorem qqu (ha : PE X a ta) : PE X (.UnaryOp .Not a pos) (tNotV ta) := by
 intro pins s σ H Q I h
 refine UnaryOp_ (thn (ha pins s σ H _ I h) fun v s1 ⟨x, H1, I1, r1, q1⟩ => ?_)
 obtain ⟨c, rfl, q1⟩ := q1
 cases r1
 exact not_of (wpAny_truthy_bool ⟨.bl (!c), H1, I1, rfl, q1⟩)
def tIf (t : TT) (ta tb : TE) : TE := fun σ H Q => t σ H fun c H1 => if c = true then ta σ H1 Q else tb σ H1 Q
theorem cq6 {c : Expr} (hc : PT X c tA) (ha : PE X a ta) (hb : PE X b tb) : PE X (.IfExp c a b pos) (tIf tA ta tb) := by
 intro pins s σ H Q I h
 refine wpAny_IfExp (thn (hc pins s σ H _ I h) fun d s1 ⟨H1, I1, q1⟩ => ?_)
 cases d with
 | true => exact ha pins s1 σ H1 Q I1 q1
 | false => exact hb pins s1 σ H1 Q I1 q1
end
end L2
namespace L2
open PySem PySem.Spec PyProof.Rows
def SqL (K : PySem.W.Frag) (H : Hp) (a : Addr) (xs : List V) : Prop :=
 Rd H a (.lst xs) ∨
  ∃ (o : Obj) (its : Array Value) (n : Nat), K.lookup a = some o ∧ o.cls = .type "list" ∧ o.dict = none ∧ o.data = .seq its n ∧ its.size ≤ sizeLine ∧ Vals xs its.toList
def SqT (K : PySem.W.Frag) (H : Hp) (a : Addr) (xs : List V) : Prop :=
 Rd H a (.tup xs) ∨
  ∃ (o : Obj) (its : Array Value) (n : Nat), K.lookup a = some o ∧ o.cls = .type "tuple" ∧ o.data = .seq its n ∧ its.size ≤ sizeLine ∧ Vals xs its.toList
def absV : Value → Option V
 | .none => some .non
 | .bool b => some (.bl b)
 | .int i _ => some (.int i)
 | .str x _ => some (.str x)
 | .bytes b _ => some (.byt b)
 | .float b _ => some (.flt b)
 | .ref a => some (.ref a)
 | .type n => some (.ty n)
 | _ => none
theorem RelV.abs {x : V} {u : Value} (r : RelV x u) : absV u = some x := by
 cases x with
 | non => cases r; rfl
 | bl _ => cases r; rfl
 | int _ => obtain ⟨t, rfl⟩ := r; rfl
 | str _ => obtain ⟨t, rfl⟩ := r; rfl
 | byt _ => obtain ⟨t, rfl⟩ := r; rfl
 | flt _ => obtain ⟨t, rfl⟩ := r; rfl
 | ref _ => cases r; rfl
 | ty _ => cases r; rfl
theorem RelV.inj {x y : V} {u : Value} (r : RelV x u) (q : RelV y u) : x = y := Option.some.inj (r.abs.symm.trans q.abs)
theorem Vals.inj : ∀ {xs ys : List V} {us : List Value}, Vals xs us → Vals ys us → xs = ys
 | _, _, _, .nil, .nil => rfl
 | _, _, _, .cons r t, .cons r' t' => by rw [r.inj r', Vals.inj t t']
section
variable {X : Cx} {pins : List (Addr × Obj)} {σ : St} {H : Hp} {s : Shared} {a : Addr} {xs ys : List V}
theorem SqL.of {K : PySem.W.Frag} (h : H a = some (.lst xs)) : SqL K H a xs := .inl (.inl h)
theorem SqT.of {K : PySem.W.Frag} (h : H a = some (.tup xs)) : SqT K H a xs := .inl (.inl h)
theorem Inv.list (I : Inv X pins σ H s) (h : SqL X.K H a xs) : ∃ its : List Value, Vals xs its ∧ PlainL s.heap a its.toArray ∧ xs.length ≤ sizeLine := by
 rcases h with h | ⟨o, its, n, hk, hc, hd, hs, hz, r⟩
 ·obtain ⟨z, its, n, r, e⟩ := h.ok I.hok
  exact ⟨its, r, ⟨_, n, e, rfl, rfl, rfl⟩, z⟩
 ·refine ⟨its.toList, r, ⟨o, n, I.kIn a o hk, hc, hd, by simpa using hs⟩, ?_⟩
  have e := r.length
  simp only [Array.length_toList] at e
  omega
theorem Inv.tuple (I : Inv X pins σ H s) (h : SqT X.K H a xs) : ∃ its : List Value, Vals xs its ∧ IsTup s.heap a its.toArray ∧ xs.length ≤ sizeLine := by
 rcases h with h | ⟨o, its, n, hk, hc, hs, hz, r⟩
 ·obtain ⟨z, its, r, p⟩ := h.ok I.hok
  exact ⟨its, r, p, z⟩
 ·refine ⟨its.toList, r, ⟨o, I.kIn a o hk, hc, n, by simpa using hs⟩, ?_⟩
  have e := r.length
  simp only [Array.length_toList] at e
  omega
theorem Inv.list_inj (I : Inv X pins σ H s) (h : SqL X.K H a xs) (h' : SqL X.K H a ys) : xs = ys := by
 obtain ⟨its, r, ⟨o, n, e, _, _, d⟩, _⟩ := I.list h
 obtain ⟨its', r', ⟨o', n', e', _, _, d'⟩, _⟩ := I.list h'
 rw [e] at e'; cases e'
 rw [d] at d'
 injection d' with d1 _
 have : its = its' := by simpa using congrArg Array.toList d1
 subst this
 exact r.inj r'
theorem Inv.tuple_inj (I : Inv X pins σ H s) (h : SqT X.K H a xs) (h' : SqT X.K H a ys) : xs = ys := by
 obtain ⟨its, r, ⟨o, e, _, n, d⟩, _⟩ := I.tuple h
 obtain ⟨its', r', ⟨o', e', _, n', d'⟩, _⟩ := I.tuple h'
 rw [e] at e'; cases e'
 rw [d] at d'
 injection d' with d1 _
 have : its = its' := by simpa using congrArg Array.toList d1
 subst this
 exact r.inj r'
end
abbrev Cx.wish (X : Cx) (E : Value → Shared → Prop) : Cx := { X with xe := E }
abbrev Cx.nox (X : Cx) : Cx := X.wish fun _ _ => False
theorem Cx.Ok.wish {X : Cx} (ok : X.Ok) (E : Value → Shared → Prop) : (X.wish E).Ok :=
 ⟨ok.mod, ok.kind, ok.glob, ok.blt, ok.above, ok.inj, ok.has, ok.cab, ok.hd, ok.frames, ok.stk, ok.exf, ok.bs, ok.bsz, ok.noex, ok.exfs, ok.funs, ok.frf⟩
theorem Cx.Ok.unwish {X : Cx} {E : Value → Shared → Prop} (ok : (X.wish E).Ok) : X.Ok :=
 ⟨ok.mod, ok.kind, ok.glob, ok.blt, ok.above, ok.inj, ok.has, ok.cab, ok.hd, ok.frames, ok.stk, ok.exf, ok.bs, ok.bsz, ok.noex, ok.exfs, ok.funs, ok.frf⟩
section
variable {X : Cx} {pins : List (Addr × Obj)} {σ : St} {H : Hp} {s : Shared} {E : Value → Shared → Prop}
theorem Inv.wish (I : Inv X pins σ H s) (E : Value → Shared → Prop) : Inv (X.wish E) pins σ H s := ⟨I.ok.wish E, I.os, I.bare, I.base, I.loc, I.cell, I.free, I.freeC, I.pin, I.hok, I.len⟩
theorem Inv.unwish (I : Inv (X.wish E) pins σ H s) : Inv X pins σ H s := ⟨I.ok.unwish, I.os, I.bare, I.base, I.loc, I.cell, I.free, I.freeC, I.pin, I.hok, I.len⟩
theorem SP.unwish {D : Ends} {f : Flow} {s' : Shared} (h : SP (X.wish E) pins D f s') : SP X pins D f s' := by
 cases f with
 | next => obtain ⟨σ', H', I, q⟩ := h; exact ⟨σ', H', I.unwish, q⟩
 | brk => obtain ⟨σ', H', I, q⟩ := h; exact ⟨σ', H', I.unwish, q⟩
 | cont => obtain ⟨σ', H', I, q⟩ := h; exact ⟨σ', H', I.unwish, q⟩
 | ret u => obtain ⟨v, σ', H', I, r, q⟩ := h; exact ⟨v, σ', H', I.unwish, r, q⟩
theorem PSs.nox {st : List Stmt} {t : TS} (h : PSs X.nox st t) : PSs X st t := fun pins s σ H D I hw =>
 wpAny_mono (h pins s σ H D (I.wish _) hw) (fun _ _ q => q.unwish) fun _ _ z => False.elim z
end
section
variable {X : Cx} {st : Stmt} {rest : List Stmt} {t u : TS} {e : Expr} {te : TE} {pos : Pos}
def tNext : TS := fun D σ H => D.nx σ H
def tSeq (t u : TS) : TS := fun D σ H => t { D with nx := u D } σ H
theorem aqD : PSs X [] tNext := fun _ _ σ H _ I h => wpAny_execs_nil ⟨σ, H, I, h⟩
theorem aqc (h1 : PS X st t) (h2 : PSs X rest u) : PSs X (st :: rest) (tSeq t u) := by
 intro pins s σ H D I h
 refine wpAny_execs_cons (thn (h1 pins s σ H { D with nx := u D } I h) fun f s1 q => ?_)
 cases f with
 | next =>
  obtain ⟨σ', H', I', q⟩ := q
  exact h2 pins s1 σ' H' D I' q
 | ret v => exact q
 | brk => exact q
 | cont => exact q
theorem aqd (h1 : PS X st t) : PSs X [st] t := by
 intro pins s σ H D I h
 refine wpAny_execs_cons (thn (h1 pins s σ H D I h) fun f s1 q => ?_)
 cases f with
 | next => exact wpAny_execs_nil q
 | ret v => exact q
 | brk => exact q
 | cont => exact q
def tBreak : TS := fun D σ H => D.bk σ H
theorem Inv.quiet {pins : List (Addr × Obj)} {σ : St} {H : Hp} {s : Shared} (I : Inv X pins σ H s) : interactive X.env = false := by simp [interactive, I.ok.kind]
def tDrop (te : TE) : TS := fun D σ H => te σ H fun _ H1 => D.nx σ H1
theorem gqu (he : PE X e te) (hs : swapsWith e none pos.line X.env = pure false := by rfl) : PS X (.Expr e pos) (tDrop te) := by
 intro pins s σ H D I h
 exact wpAny_Expr_any (thn (he pins s σ H _ I h) fun v s1 ⟨x, H1, I1, r1, q1⟩ => ⟨σ, H1, I1, q1⟩) I.quiet hs
def tRet (te : TE) : TS := fun D σ H => te σ H D.rt
theorem aqx (he : PE X e te) : PS X (.Return (some e) pos) (tRet te) := by
 intro pins s σ H D I h
 exact wpAny_Return_some (thn (he pins s σ H _ I h) fun v s1 ⟨x, H1, I1, r1, q1⟩ => ⟨x, σ, H1, I1, r1, q1⟩)
def tIfS (c : TT) (t u : TS) : TS := fun D σ H => c σ H fun b H1 => if b = true then t D σ H1 else u D σ H1
theorem bqk {c : Expr} {a b : List Stmt} {tc : TT} (hc : PT X c tc) (ha : PSs X a t) (hb : PSs X b u) : PS X (.If c a b pos) (tIfS tc t u) := by
 intro pins s σ H D I h
 refine wpAny_If (thn (hc pins s σ H _ I h) fun d s1 ⟨H1, I1, q1⟩ => ?_)
 cases d with
 | true => exact ha pins s1 σ H1 D I1 q1
 | false => exact hb pins s1 σ H1 D I1 q1
def tNever : TS := fun _ _ _ => False
end
abbrev TG := V → St → Hp → (St → Hp → Prop) → Prop
abbrev TGs := List V → St → Hp → (St → Hp → Prop) → Prop
def PG (X : Cx) (target : Expr) (t : TG) : Prop :=
 ∀ (pins : List (Addr × Obj)) (s : Shared) (σ : St) (H : Hp) (v : V) (u : Value) (Q : St → Hp → Prop), Inv X pins σ H s → RelV v u → t v σ H Q →
  wpAny (model X.prog X.w) X.A (assign target X.env u) (fun _ s' => ∃ σ' H', Inv X pins σ' H' s' ∧ Q σ' H') X.xe s
def PGs (X : Cx) (ts : List Expr) (t : TGs) : Prop :=
 ∀ (pins : List (Addr × Obj)) (s : Shared) (σ : St) (H : Hp) (vs : List V) (us : List Value) (Q : St → Hp → Prop), Inv X pins σ H s → Vals vs us → t vs σ H Q →
  wpAny (model X.prog X.w) X.A (assignInOrder ((assignEach ts X.env).map (·.2)) us) (fun _ s' => ∃ σ' H', Inv X pins σ' H' s' ∧ Q σ' H') X.xe s
abbrev TSet := V → V → V → Hp → (Hp → Prop) → Prop
def PSet (X : Cx) (t : TSet) : Prop :=
 ∀ (pins : List (Addr × Obj)) (s : Shared) (σ : St) (H : Hp) (o i v : V) (ov iv u : Value) (Q : Hp → Prop), Inv X pins σ H s → RelV o ov → RelV i iv → RelV v u → t o i v H Q →
  wpAny (model X.prog X.w) X.A (setItem ov iv u) (fun _ s' => ∃ H', Inv X pins σ H' s' ∧ Q H') X.xe s
section
variable {X : Cx} {pos : Pos}
def gName (i : Nat) : TG := fun v σ H Q => Q (σ.set i (some v)) H
theorem bqN {i : Nat} {x : Str} (hN : X.N.Nodup) (hi : X.N[i]? = some x) (hx : Loc X.env.scope x) (hf : X.fn x = true ∨ X.env.scope.names.lookup x = some .local := by first | exact .inl rfl | exact .inr rfl | assumption) : PG X (.Name x pos) (gName i) := by
 intro pins s σ H v u Q I r h
 exact wpAny_assign_Name (jqn I hN hi hx r (fun s' I' => ⟨_, H, I', h⟩) hf)
def gNil : TGs := fun vs σ H Q => vs = [] ∧ Q σ H
def gCons (t : TG) (u : TGs) : TGs := fun vs σ H Q => ∃ v r, vs = v :: r ∧ t v σ H fun σ' H' => u r σ' H' Q
theorem nqA : PGs X [] gNil := by
 intro pins s σ H vs us Q I r h
 obtain ⟨e, h⟩ := h
 subst e
 cases r
 exact assignInOrder_nil ⟨σ, H, I, h⟩
theorem dqf {e : Expr} {es : List Expr} {t : TG} {u : TGs} (h1 : PG X e t) (h2 : PGs X es u)
  (hs : (assignEach (e :: es) X.env).map (·.2) = assign e X.env :: (assignEach es X.env).map (·.2) := by rfl) : PGs X (e :: es) (gCons t u) := by
 intro pins s σ H vs us Q I r h
 obtain ⟨v, vr, e1, h⟩ := h
 subst e1
 cases r with
 | cons r rr =>
  rw [hs]
  refine assignInOrder_cons (thn (h1 pins s σ H _ _ _ I r h) fun _ s1 ⟨σ1, H1, I1, q1⟩ => ?_)
  exact h2 pins s1 σ1 H1 _ _ Q I1 rr q1
def gTup (K : PySem.W.Frag) (n : Nat) (t : TGs) : TG := fun v σ H Q => ∃ a xs, v = .ref a ∧ SqT K H a xs ∧ xs.length = n ∧ t xs σ H Q
theorem tqf {es : List Expr} {k : Nat} {t : TGs} {n : Nat} (hc : X.calm = true) (h : PGs X es t)
  (hn : (assignEach es X.env).length = n := by rfl) (hst : (assignEach es X.env).findIdx? (·.1) = none := by rfl) : PG X (.Tuple es k pos) (gTup X.K n t) := by
 intro pins s σ H v u Q I r hw
 obtain ⟨a, xs, e1, hq, hl, hw⟩ := hw
 subst e1
 cases r
 obtain ⟨its, rv, ht, hz⟩ := I.tuple hq
 refine assign_Tuple_tuple (I.ok.hd hc) ht (by simp [hn, ← hl, rv.length]) hst fun h' hx => ?_
 have I1 : Inv X pins σ H { s with heap := h' } := I.kept (t' := s.toks) fun b o e => hx b o (Nat.ne_of_lt (Heap.lt_size e)) e
 exact h pins _ σ H xs _ Q I1 (by simpa using rv) hw
def gSub (to ti : TE) (t : TSet) : TG := fun v σ H Q => to σ H fun o H1 => ti σ H1 fun i H2 => t o i v H2 fun H3 => Q σ H3
theorem sq2 {o i : Expr} {to ti : TE} {t : TSet} (ho : PE X o to) (hi : PE X i ti) (hs : PSet X t)
  (ha : ∀ v, assign (.Subscript o i pos) X.env v = (do
   let ov ← holding [v] (eval o X.env)
   let iv ← holding [v, ov] (eval i X.env)
   standAt pos
   holding [v, ov, iv] (setItem ov iv v)
   release [v, ov, iv] []) := by intro _; rfl) : PG X (.Subscript o i pos) (gSub to ti t) := by
 intro pins s σ H v u Q I r h
 rw [ha]
 refine wpAny_bind (wpAny_holding (thn (ho pins s σ H _ I h) fun ov s1 ⟨x, H1, I1, r1, q1⟩ => ?_))
 refine wpAny_bind (wpAny_holding (thn (hi pins s1 σ H1 _ I1 q1) fun iv s2 ⟨y, H2, I2, r2, q2⟩ => ?_))
 refine wpAny_bind (wpAny_standAt (wpAny_bind (wpAny_holding (thn (hs pins s2 σ H2 x y v ov iv u _ I2 r1 r2 r q2) fun _ s3 ⟨H3, I3, q3⟩ => ?_))))
 exact wpAny_release ⟨σ, H3, I3, q3⟩
def tAsg (te : TE) (g : TG) : TS := fun D σ H => te σ H fun x H1 => g x σ H1 D.nx
theorem oqr {tg e : Expr} {te : TE} {g : TG} (he : PE X e te) (hg : PG X tg g) (hs : swapsWithSole [tg] e pos.line X.env = pure false := by rfl) (hw : swappedStores [tg] e X.env = pure none := by rfl)
  (h1 : (assignEach [tg] X.env).map (·.2) = [assign tg X.env] := by rfl) : PS X (.Assign [tg] e pos) (tAsg te g) := by
 intro pins s σ H D I h
 refine wpAny_Assign_stores (thn (he pins s σ H _ I h) fun v s1 ⟨x, H1, I1, r1, q1⟩ => ?_) hs hw
 rw [h1]
 exact thn (hg pins s1 σ H1 x v _ I1 r1 q1) fun _ s2 q => q
theorem aqj {i : Nat} {x : Str} {e : Expr} {te : TE} {pos' : Pos} (hN : X.N.Nodup) (hi : X.N[i]? = some x) (hx : Loc X.env.scope x) (he : PE X e te) (hs : swapsWith e (some (.Name x pos')) pos.line X.env = pure false := by rfl) (hf : X.fn x = true ∨ X.env.scope.names.lookup x = some .local := by first | exact .inl rfl | exact .inr rfl | assumption) :
  PS X (.Assign [.Name x pos'] e pos) (tAsg te (gName i)) := by
 intro pins s σ H D I h
 refine wpAny_Assign_Name (thn (he pins s σ H _ I h) fun v s1 ⟨y, H1, I1, r1, q1⟩ => ?_) hs
 exact jqn I1 hN hi hx r1 (fun s2 I2 => ⟨_, H1, I2, q1⟩) hf
end
section
variable {X : Cx} {pos : Pos}
def tWhile (c : TT) (tb : TS) : TS := fun D σ H => ∃ W : Nat → St → Hp → Prop, (∃ m, W m σ H) ∧ ∀ m σ H, W m σ H →
 c σ H fun b H1 => if b = true then ∃ N : St → Hp → Prop, (∀ σ' H', N σ' H' → ∃ m', m' < m ∧ W m' σ' H') ∧ tb { D with nx := N, ct := N, bk := D.nx } σ H1 else D.nx σ H1
theorem jqs {c : Expr} {body : List Stmt} {tc : TT} {tb : TS} (hp : PassesOwn (model X.prog X.w) X.A X.env X.xe) (hc : PT X c tc) (hb : PSs X body tb) : PS X (.While c body [] pos) (tWhile tc tb) := by
 intro pins s σ H D I h
 obtain ⟨W, ⟨m0, w0⟩, turn⟩ := h
 refine wpAny_While (codeAny_whileLoop (fun n s' => ∃ σ' H', Inv X pins σ' H' s' ∧ W n σ' H') ?_ m0 ⟨σ, H, I, w0⟩)
 rintro n s1 ⟨σ1, H1, I1, w1⟩
 refine wpAny_passesOwn hp (thn (hc pins s1 σ1 H1 _ I1 (turn n σ1 H1 w1)) fun b s2 ⟨H2, I2, q2⟩ => ?_)
 cases b with
 | true =>
  obtain ⟨N, hN, q2⟩ := q2
  rw [if_pos rfl]
  refine wpAny_passesOwn hp (thn (hb pins s2 σ1 H2 _ I2 q2) fun f s3 q3 => ?_)
  cases f with
  | next =>
   obtain ⟨σ3, H3, I3, n3⟩ := q3
   obtain ⟨m', hm, w3⟩ := hN σ3 H3 n3
   exact ⟨m', hm, σ3, H3, I3, w3⟩
  | cont =>
   obtain ⟨σ3, H3, I3, n3⟩ := q3
   obtain ⟨m', hm, w3⟩ := hN σ3 H3 n3
   exact ⟨m', hm, σ3, H3, I3, w3⟩
  | brk => exact q3
  | ret v => exact q3
 | false =>
  rw [if_neg Bool.false_ne_true]
  exact wpAny_execs_nil ⟨σ1, H2, I2, q2⟩
end
structure It where
 go : Nat → Hp → Prop
 yld : Nat → Hp → V → Hp → Prop
 stop : Nat → Hp → Prop
def FpOk (X : Cx) (pins : List (Addr × Obj)) (H : Hp) (b : Addr) : Prop :=
 H b = none ∧ b ≠ X.env.locals ∧ b ∉ X.fs ∧ (b ∈ X.ex ∨ X.s₀.heap.objs.size ≤ b) ∧ (∀ x c, X.env.cells.lookup x = some c → c ≠ b) ∧ ∀ p ∈ X.pn ++ pins, p.1 ≠ b
theorem Inv.fpOk {X : Cx} {pins : List (Addr × Obj)} {σ : St} {H H' : Hp} {s : Shared} {b : Addr} (I : Inv X pins σ H s) (hb : s.heap.objs.size ≤ b) (hn : H' b = none) : FpOk X pins H' b := by
 refine ⟨hn, Nat.ne_of_gt (Nat.lt_of_lt_of_le I.lt hb), I.nofs hb, .inr (Nat.le_trans I.sz hb), fun x c e z => ?_, fun p hp z => ?_⟩
 ·obtain ⟨v, q⟩ := I.cell x c e
  exact absurd (Nat.lt_of_lt_of_le q.lt (by rw [z]; exact hb)) (Nat.lt_irrefl _)
 ·exact absurd (Nat.lt_of_lt_of_le (Heap.lt_size (I.pin p hp).1) (by rw [z]; exact hb)) (Nat.lt_irrefl _)
structure Turn (P : Program) (w : World) (K : PySem.W.Frag) (tg : Expr) (J : It) (fp : List Addr) (it : Addr) (tn : Nat → Heap → Prop) : Prop where
 mem : it ∈ fp
 obj : ∀ i h, tn i h → ∀ b ∈ fp, ∃ o, h.get? b = some o ∧ ∀ v, o.data ≠ .cell v
 keep : ∀ i h h', tn i h → (∀ b ∈ fp, ∀ o, h.get? b = some o → h'.get? b = some o) → tn i h'
 item : ∀ (X : Cx), X.prog = P → X.w = w → X.K = K → X.calm = true → ∀ (i : Nat) (pins : List (Addr × Obj)) (s : Shared) (σ : St) (H : Hp) (E : Value → Shared → Prop), Inv X pins σ H s → (∀ b ∈ fp, FpOk X pins H b) → tn i s.heap → J.go i H →
  wpAny (model P w) X.A (pyNext (.ref it)) (fun r s1 => ∃ u, r = some u ∧
   wpAny (model P w) X.A (letOwnedTupleGo tg (.ref it) u) (fun _ s2 => ∃ x H', Inv X pins σ H' s2 ∧ RelV x u ∧ J.yld i H x H' ∧ tn (i + 1) s2.heap ∧ ∀ b ∈ fp, H' b = none) E s1) E s
 done : ∀ (X : Cx), X.prog = P → X.w = w → X.K = K → X.calm = true → ∀ (i : Nat) (pins : List (Addr × Obj)) (s : Shared) (σ : St) (H : Hp) (E : Value → Shared → Prop), Inv X pins σ H s → (∀ b ∈ fp, FpOk X pins H b) → tn i s.heap → J.stop i H →
  wpAny (model P w) X.A (pyNext (.ref it)) (fun r s1 => r = none ∧ Inv X pins σ H s1) E s
 self : ∀ (A : Around) (i : Nat) (s : Shared) (Q : Value → Shared → Prop) (E : Value → Shared → Prop), tn i s.heap → Q (.ref it) s → wpAny (model P w) A (pyIter (.ref it)) Q E s
abbrev TI := St → Hp → (It → Hp → Prop) → Prop
def PIE (X : Cx) (pins : List (Addr × Obj)) (σ : St) (tg : Expr) (R : It → Hp → Prop) (itv : Value) (s2 : Shared) : Prop :=
 ∃ (it : Addr) (fp : List Addr) (tn : Nat → Heap → Prop) (J : It) (H' : Hp), itv = .ref it ∧ Inv X pins σ H' s2 ∧ Turn X.prog X.w X.K tg J fp it tn ∧ tn 0 s2.heap ∧ (∀ b ∈ fp, FpOk X pins H' b) ∧ R J H'
def PI (X : Cx) (tg iter : Expr) (wi : TI) : Prop :=
 ∀ (pins : List (Addr × Obj)) (s : Shared) (σ : St) (H : Hp) (R : It → Hp → Prop), Inv X pins σ H s → wi σ H R →
  wpAny (model X.prog X.w) X.A (eval iter X.env) (fun v s1 => wpAny (model X.prog X.w) X.A (pyIter v) (PIE X pins σ tg R) X.xe s1) X.xe s
theorem qqI {M : Model} {A : Around} {E : Value → Shared → Prop} {s : Shared} {tg : Expr} {it : Addr} {u : Value} {o : Obj} {n : String} {vs : Array Value} {Q : Unit → Shared → Prop} (ho : s.heap.get? it = some o) (hc : o.cls = .type n) (hd : o.data = .fields vs)
  (hn : ["enumerate", "zip", "dict_itemiterator", "dict_reverseitemiterator", "odict_iterator", "itertools.zip_longest", "itertools.pairwise"].contains n = false) (hQ : Q () s) : wpAny M A (letOwnedTupleGo tg (.ref it) u) Q E s := by
 unfold letOwnedTupleGo
 cases tg <;> first
  | exact wpAny_pure hQ
  | (cases u <;> first
    | exact wpAny_pure hQ
    | (refine wpAny_bind (wpAny_load ho ?_)
       rw [hc, hd]
       show wpAny M A (if (["enumerate", "zip", "dict_itemiterator", "dict_reverseitemiterator", "odict_iterator", "itertools.zip_longest", "itertools.pairwise"].contains n && vs[0]? == some (rawInt _)) = true then _ else _) Q E s
       rw [if_neg (by intro h; rw [hn, Bool.false_and] at h; cases h)]
       exact wpAny_pure hQ))
def Itl (K : PySem.W.Frag) (a : Addr) : It :=
 ⟨fun i H => ∃ xs x, SqL K H a xs ∧ xs[i]? = some x, fun i H x H' => H' = H ∧ ∀ xs, SqL K H a xs → xs[i]? = some x, fun i H => ∃ xs, SqL K H a xs ∧ xs.length ≤ i⟩
def Itt (K : PySem.W.Frag) (a : Addr) : It :=
 ⟨fun i H => ∃ xs x, SqT K H a xs ∧ xs[i]? = some x, fun i H x H' => H' = H ∧ ∀ xs, SqT K H a xs → xs[i]? = some x, fun i H => ∃ xs, SqT K H a xs ∧ xs.length ≤ i⟩
def Itr (lo : Int) (n : Nat) : It := ⟨fun i _ => i < n, fun i H x H' => H' = H ∧ x = .int (lo + i), fun i _ => n ≤ i⟩
theorem pqD {P : Program} {w : World} {K : PySem.W.Frag} {tg : Expr} (a it : Addr) : Turn P w K tg (Itl K a) [it] it (fun i h => h.IsListIter it a i) where
 mem := by simp
 obj := fun i h st b hb => by
  have e : b = it := by simpa using hb
  subst e
  obtain ⟨o, e, c, d⟩ := st
  exact ⟨o, e, fun v z => by rw [d] at z; cases z⟩
 keep := fun i h h' st k => st.at fun o e => k it (by simp) o e
 item := by
  intro X hP hw hK hc i pins s σ H E I hf st hg
  subst hP hw hK
  obtain ⟨xs, x, hq, hx⟩ := hg
  obtain ⟨its, rv, p, hz⟩ := I.list hq
  obtain ⟨u, hu, ru⟩ := rv.get hx
  obtain ⟨f0, f1, f2, f3, f4, f5⟩ := hf it (by simp)
  refine wpAny_pyNext_list_item st p.isList (x := u) (by simpa using hu) fun h' st' sb => ?_
  have I1 : Inv X pins σ H { s with heap := h' } := I.turned (t' := s.toks) (fun b o hb e => (sb.2 b hb).trans e) f0 f1 f3 f4 f5
  obtain ⟨o, e, c, d⟩ := id st'
  exact ⟨u, rfl, qqI (s := { s with heap := h' }) e c d (by decide) ⟨x, H, I1, ru, ⟨rfl, fun ys hy => by rw [I.list_inj hy hq]; exact hx⟩, st', fun b hb => (hf b hb).1⟩⟩
 done := by
  intro X hP hw hK hc i pins s σ H E I hf st hg
  subst hP hw hK
  obtain ⟨xs, hq, hx⟩ := hg
  obtain ⟨its, rv, p, hz⟩ := I.list hq
  obtain ⟨f0, f1, f2, f3, f4, f5⟩ := hf it (by simp)
  have hl := rv.length
  exact wpAny_pyNext_list_end (I.ok.hd hc) st p.isList (by simp; omega) fun h' eb => ⟨rfl, I.turned (t' := s.toks) (fun b o hb e => eb b o hb e) f0 f1 f3 f4 f5⟩
 self := fun _ _ _ _ _ st h => wpAny_pyIter_listiter st h
theorem oqW {P : Program} {w : World} {K : PySem.W.Frag} {tg : Expr} (a it : Addr) : Turn P w K tg (Itt K a) [it] it (fun i h => h.IsTupleIter it a i) where
 mem := by simp
 obj := fun i h st b hb => by
  have e : b = it := by simpa using hb
  subst e
  obtain ⟨o, e, c, d⟩ := st
  exact ⟨o, e, fun v z => by rw [d] at z; cases z⟩
 keep := fun i h h' st k => st.at fun o e => k it (by simp) o e
 item := by
  intro X hP hw hK hc i pins s σ H E I hf st hg
  subst hP hw hK
  obtain ⟨xs, x, hq, hx⟩ := hg
  obtain ⟨its, rv, p, hz⟩ := I.tuple hq
  obtain ⟨u, hu, ru⟩ := rv.get hx
  obtain ⟨f0, f1, f2, f3, f4, f5⟩ := hf it (by simp)
  refine wpAny_pyNext_tuple_item st (show s.heap.IsTuple a its.toArray from p) (x := u) (by simpa using hu) fun h' st' sb => ?_
  have I1 : Inv X pins σ H { s with heap := h' } := I.turned (t' := s.toks) (fun b o hb e => (sb.2 b hb).trans e) f0 f1 f3 f4 f5
  obtain ⟨o, e, c, d⟩ := id st'
  exact ⟨u, rfl, qqI (s := { s with heap := h' }) e c d (by decide) ⟨x, H, I1, ru, ⟨rfl, fun ys hy => by rw [I.tuple_inj hy hq]; exact hx⟩, st', fun b hb => (hf b hb).1⟩⟩
 done := by
  intro X hP hw hK hc i pins s σ H E I hf st hg
  subst hP hw hK
  obtain ⟨xs, hq, hx⟩ := hg
  obtain ⟨its, rv, p, hz⟩ := I.tuple hq
  obtain ⟨f0, f1, f2, f3, f4, f5⟩ := hf it (by simp)
  have hl := rv.length
  exact wpAny_pyNext_tuple_end (I.ok.hd hc) st (show s.heap.IsTuple a its.toArray from p) (by simp; omega) fun h' eb => ⟨rfl, I.turned (t' := s.toks) (fun b o hb e => eb b o hb e) f0 f1 f3 f4 f5⟩
 self := fun _ _ _ _ _ st h => wpAny_pyIter_tupleiter st h
theorem oqX {P : Program} {w : World} {K : PySem.W.Frag} {tg : Expr} (it : Addr) (lo : Int) (n : Nat) : Turn P w K tg (Itr lo n) [it] it (fun i h => IsRangeIter h it (lo + (i : Nat) * 1) ((n : Int) - (i : Nat)) 1) where
 mem := by simp
 obj := fun i h st b hb => by
  have e : b = it := by simpa using hb
  subst e
  exact ⟨_, st, fun v z => by
   have z' : Data.fields _ = Data.cell v := z
   cases z'⟩
 keep := fun i h h' st k => k it (by simp) _ st
 item := by
  intro X hP hw hK hc i pins s σ H E I hf st hg
  subst hP hw hK
  obtain ⟨f0, f1, f2, f3, f4, f5⟩ := hf it (by simp)
  have W := Walks.range (prog := X.prog) (w := X.w) (I.ok.hd hc) it lo 1 n
  refine W.item i s _ _ hg st fun v h' tk hv st' kk => ?_
  obtain ⟨t, rfl⟩ := hv
  have I1 : Inv X pins σ H { s with heap := h', toks := tk } := I.turned (fun b o hb e => kk b o (by simpa using hb) e) f0 f1 f3 f4 f5
  refine ⟨_, rfl, qqI (s := { s with heap := h', toks := tk }) (n := "range_iterator") st' rfl rfl (by decide) ⟨.int (lo + i), H, I1, ⟨t, ?_⟩, ⟨rfl, rfl⟩, st', fun b hb => (hf b hb).1⟩⟩
  rw [Int.mul_one]
 done := by
  intro X hP hw hK hc i pins s σ H E I hf st hg
  subst hP hw hK
  obtain ⟨f0, f1, f2, f3, f4, f5⟩ := hf it (by simp)
  exact wpAny_pyNext_range_end (I.ok.hd hc) st (by have : n ≤ i := hg; omega) fun h' eb => ⟨rfl, I.turned (t' := s.toks) (fun b o hb e => eb b o hb e) f0 f1 f3 f4 f5⟩
 self := fun _ _ _ _ _ st h => wpAny_pyIter_rangeiter st h
end L2
namespace L2
open PySem PySem.Spec PyProof.Rows
section
variable {X : Cx} {tg : Expr}
def iList (K : PySem.W.Frag) (tl : TE) : TI := fun σ H R => tl σ H fun x H1 => ∃ a, x = .ref a ∧ (∃ xs, SqL K H1 a xs) ∧ R (Itl K a) H1
def iTup (K : PySem.W.Frag) (tl : TE) : TI := fun σ H R => tl σ H fun x H1 => ∃ a, x = .ref a ∧ (∃ xs, SqT K H1 a xs) ∧ R (Itt K a) H1
theorem tqM {l : Expr} {tl : TE} (hl : PE X l tl) : PI X tg l (iList X.K tl) := by
 intro pins s σ H R I h
 refine thn (hl pins s σ H _ I h) fun v s1 ⟨x, H1, I1, r1, q1⟩ => ?_
 obtain ⟨a, e, ⟨xs, hq⟩, q⟩ := q1
 subst e
 cases r1
 obtain ⟨its, rv, p, hz⟩ := I1.list hq
 refine wpAny_pyIter_list p.isList ?_
 refine ⟨s1.heap.objs.size, [s1.heap.objs.size], _, _, H1, rfl, I1.kept (t' := s1.toks) fun b o e => Heap.get?_push_of_some _ e, pqD a _, ⟨_, Heap.get?_push_size _ rfl, rfl, rfl⟩, fun b hb => ?_, q⟩
 have e : b = s1.heap.objs.size := by simpa using hb
 subst e
 exact I1.fpOk (Nat.le_refl _) (I1.hok.fresh (Nat.le_refl _))
theorem vqo {l : Expr} {tl : TE} (hl : PE X l tl) : PI X tg l (iTup X.K tl) := by
 intro pins s σ H R I h
 refine thn (hl pins s σ H _ I h) fun v s1 ⟨x, H1, I1, r1, q1⟩ => ?_
 obtain ⟨a, e, ⟨xs, hq⟩, q⟩ := q1
 subst e
 cases r1
 obtain ⟨its, rv, p, hz⟩ := I1.tuple hq
 refine wpAny_pyIter_tuple (show s1.heap.IsTuple a its.toArray from p) ?_
 refine ⟨s1.heap.objs.size, [s1.heap.objs.size], _, _, H1, rfl, I1.kept (t' := s1.toks) fun b o e => Heap.get?_push_of_some _ e, oqW a _, ⟨_, Heap.get?_push_size _ rfl, rfl, rfl⟩, fun b hb => ?_, q⟩
 have e : b = s1.heap.objs.size := by simpa using hb
 subst e
 exact I1.fpOk (Nat.le_refl _) (I1.hok.fresh (Nat.le_refl _))
theorem rqQ {pins : List (Addr × Obj)} {σ : St} {H : Hp} {s : Shared} {R : It → Hp → Prop} {E : Value → Shared → Prop} {lo hi : Int} {t u v : Tok} {tk : Nat} (I : Inv X pins σ H s) (h1 : -(2 ^ 62) ≤ lo) (h2 : lo < 2 ^ 62) (h3 : -(2 ^ 62) ≤ hi) (h4 : hi < 2 ^ 62)
  (q : R (Itr lo (hi - lo).toNat) H) : wpAny (model X.prog X.w) X.A (pyIter (.ref s.heap.objs.size)) (PIE X pins σ tg R) E { s with heap := s.heap.push { cls := .type "range", data := .fields #[.int lo t, .int hi u, .int 1 v] }, toks := tk } := by
 refine wpAny_pyIter_range (IsRange.new ..) (small_one h1 h2 h3 h4) ?_
 have I1 : Inv X pins σ H { s with heap := s.heap.push { cls := .type "range", data := .fields #[.int lo t, .int hi u, .int 1 v] }, toks := tk } := I.kept fun b o e => Heap.get?_push_of_some _ e
 refine ⟨(s.heap.push { cls := .type "range", data := .fields #[.int lo t, .int hi u, .int 1 v] }).objs.size, [(s.heap.push { cls := .type "range", data := .fields #[.int lo t, .int hi u, .int 1 v] }).objs.size], _, _, H, rfl,
  I1.kept (t' := tk) fun b o e => Heap.get?_push_of_some _ e, oqX _ lo (hi - lo).toNat, ?_, fun b hb => ?_, q⟩
 ·have e1 : lo + ((0 : Nat) : Int) * 1 = lo := by simp
  have e2 : (((hi - lo).toNat : Nat) : Int) - ((0 : Nat) : Int) = Builtin.Range.rangeSize lo hi 1 := by rw [rangeSize_one]; split <;> omega
  show IsRangeIter _ _ (lo + ((0 : Nat) : Int) * 1) ((((hi - lo).toNat : Nat) : Int) - ((0 : Nat) : Int)) 1
  rw [e1, e2]
  exact Heap.get?_push_size _ rfl
 ·have e : b = (s.heap.push { cls := .type "range", data := .fields #[.int lo t, .int hi u, .int 1 v] }).objs.size := by simpa using hb
  subst e
  exact I1.fpOk (Nat.le_refl _) (I1.hok.fresh (Nat.le_refl _))
def iRng1 (ta : TA) : TI := fun σ H R => ta σ H fun vs H1 => ∃ j : Int, vs = [.int j] ∧ -(2 ^ 62) ≤ j ∧ j < 2 ^ 62 ∧ R (Itr 0 j.toNat) H1
theorem eqk {a : Expr} {ta : TA} {p pos : Pos} (hg : Gl X "range") (hm : X.mg "range" = none) (ha : PA X [a] ta) (hs : starEach [a] X.env = [(false, eval a X.env)] := by rfl) : PI X tg (.Call (.Name "range" p) [a] [] pos) (iRng1 ta) := by
 intro pins s σ H R I h
 refine Call_ (oqO I hg hm boot_range (PyProof.Rows.callWith_type1 (thn (ha pos pins s σ H _ I h) fun us s1 ⟨vs, H1, I1, r1, q1⟩ => ?_) hs rfl))
 obtain ⟨j, e, q1, q2, q⟩ := q1
 subst e
 cases r1 with
 | cons r rr =>
  cases rr
  obtain ⟨t, rfl⟩ := r
  exact call_range_1 (rqQ I1 (by omega) (by omega) q1 q2 (by simpa using q))
def tFor (wi : TI) (g : TG) (tb : TS) : TS := fun D σ H => wi σ H fun J H1 => ∃ W : Nat → Nat → St → Hp → Prop, (∃ m, W 0 m σ H1) ∧ ∀ i m σ H, W i m σ H →
 (J.stop i H ∧ D.nx σ H) ∨ (J.go i H ∧ ∃ N : St → Hp → Prop, (∀ σ' H', N σ' H' → ∃ m', m' < m ∧ W (i + 1) m' σ' H') ∧ ∀ x H', J.yld i H x H' → g x σ H' fun σ2 H2 => tb { D with nx := N, ct := N, bk := D.nx } σ2 H2)
def pinsAt (fp : List Addr) (h : Heap) : List (Addr × Obj) := fp.filterMap fun b => (h.get? b).map fun o => (b, o)
theorem eqg {fp : List Addr} {h : Heap} {b : Addr} {o : Obj} (hb : b ∈ fp) (e : h.get? b = some o) : (b, o) ∈ pinsAt fp h := List.mem_filterMap.mpr ⟨b, hb, by rw [e]; rfl⟩
theorem qqK {fp : List Addr} {h : Heap} {p : Addr × Obj} (hp : p ∈ pinsAt fp h) : p.1 ∈ fp ∧ h.get? p.1 = some p.2 := by
 obtain ⟨b, hb, e⟩ := List.mem_filterMap.mp hp
 cases q : h.get? b with
 | none => rw [q] at e; cases e
 | some o =>
  rw [q] at e
  have e' : (b, o) = p := Option.some.inj e
  subst e'
  exact ⟨hb, q⟩
theorem Inv.pinned {pins : List (Addr × Obj)} {σ : St} {H : Hp} {s : Shared} {fp : List Addr} (I : Inv X pins σ H s) (hf : ∀ b ∈ fp, FpOk X pins H b) (ho : ∀ b ∈ fp, ∃ o, s.heap.get? b = some o ∧ ∀ v, o.data ≠ .cell v) : Inv X (pins ++ pinsAt fp s.heap) σ H s :=
 I.pins_of fun p hp => (List.mem_append.mp hp).elim (fun z => I.pin p (List.mem_append_right _ z)) fun z => by
  obtain ⟨hb, e⟩ := qqK z
  obtain ⟨f0, f1, f2, _⟩ := hf p.1 hb
  obtain ⟨o, e', d⟩ := ho p.1 hb
  rw [e] at e'; cases e'
  exact ⟨e, f0, f1, f2, d⟩
theorem Inv.unpinned {pins pl : List (Addr × Obj)} {σ : St} {H : Hp} {s : Shared} (I : Inv X (pins ++ pl) σ H s) : Inv X pins σ H s := I.pins_of fun p hp => I.pin p (List.mem_append_right _ (List.mem_append_left _ hp))
theorem kqx {iter : Expr} {body : List Stmt} {wi : TI} {g : TG} {tb : TS} {pos : Pos} (hp : PassesOwn (model X.prog X.w) X.A X.env X.xe) (hc : X.calm = true) (hi : PI X tg iter wi) (hg : PG X tg g) (hb : PSs X body tb)
  (hs : ∀ x, foldedSetIterable iter X.env x = pure x := by intro _; rfl) : PS X (.For tg iter body [] pos) (tFor wi g tb) := by
 intro pins s σ H D I h
 refine wpAny_For (thn (hi pins s σ H _ I h) fun v s1 h1 => thn h1 fun itv s2 h2 => ?_) hs
 obtain ⟨it, fp, tn, J, H2, e, I2, T, st2, f2, W, ⟨m0, w0⟩, turn⟩ := h2
 subst e
 have stat : ∀ {H' : Hp}, (∀ b ∈ fp, H' b = none) → ∀ b ∈ fp, FpOk X pins H' b := fun hn b hb => ⟨hn b hb, (f2 b hb).2⟩
 refine codeAny_forLoop_any (fun n s' => ∃ i σ' H', Inv X pins σ' H' s' ∧ tn i s'.heap ∧ (∀ b ∈ fp, H' b = none) ∧ W i n σ' H') ?_ m0 ⟨0, σ, H2, I2, st2, fun b hb => (f2 b hb).1, w0⟩
 rintro n s3 ⟨i, σ3, H3, I3, st3, fr3, w3⟩
 rcases turn i n σ3 H3 w3 with ⟨stop, qn⟩ | ⟨go, N, hN, step⟩
 ·refine wpAny_passesOwn hp (thn (T.done X rfl rfl rfl hc i pins s3 σ3 H3 X.xe I3 (stat fr3) st3 stop) fun r s4 ⟨hr, I4⟩ => ?_)
  subst hr
  exact wpAny_execs_nil ⟨σ3, H3, I4, qn⟩
 ·refine wpAny_passesOwn hp (thn (T.item X rfl rfl rfl hc i pins s3 σ3 H3 X.xe I3 (stat fr3) st3 go) fun r s4 ⟨u, hr, h4⟩ => ?_)
  subst hr
  refine wpAny_passesOwn hp (thn h4 fun _ s5 ⟨x, H5, I5, r5, y5, st5, fr5⟩ => ?_)
  have I5' := I5.pinned (stat fr5) (T.obj _ _ st5)
  refine wpAny_passesOwn hp (thn (hg _ s5 σ3 H5 x u _ I5' r5 (step x H5 y5)) fun _ s6 ⟨σ6, H6, I6, q6⟩ => ?_)
  refine wpAny_passesOwn hp (thn (hb _ s6 σ6 H6 _ I6 q6) fun f s7 q7 => ?_)
  have again : ∀ {σ7 : St} {H7 : Hp}, Inv X (pins ++ pinsAt fp s5.heap) σ7 H7 s7 → N σ7 H7 → ∃ m, m < n ∧ ∃ i σ' H', Inv X pins σ' H' s7 ∧ tn i s7.heap ∧ (∀ b ∈ fp, H' b = none) ∧ W i m σ' H' := fun {σ7 H7} I7 n7 => by
   obtain ⟨m', hm, w7⟩ := hN σ7 H7 n7
   refine ⟨m', hm, i + 1, σ7, H7, I7.unpinned, T.keep _ _ _ st5 fun b hb o e => (I7.pin (b, o) (List.mem_append_right _ (List.mem_append_right _ (eqg hb e)))).1, fun b hb => ?_, w7⟩
   obtain ⟨o, e, d⟩ := T.obj _ _ st5 b hb
   exact (I7.pin (b, o) (List.mem_append_right _ (List.mem_append_right _ (eqg hb e)))).2.1
  cases f with
  | next => obtain ⟨σ7, H7, I7, n7⟩ := q7; exact again I7 n7
  | cont => obtain ⟨σ7, H7, I7, n7⟩ := q7; exact again I7 n7
  | brk => obtain ⟨σ7, H7, I7, q7⟩ := q7; exact ⟨σ7, H7, I7.unpinned, q7⟩
  | ret v => obtain ⟨x7, σ7, H7, I7, r7, q7⟩ := q7; exact ⟨x7, σ7, H7, I7.unpinned, r7, q7⟩
end
theorem sqk {K : PySem.W.Frag} {a : Addr} {xs : List V} {g : TG} {tb : TS} {D : Ends} {σ : St} {H : Hp} (Pv : Nat → St → Hp → Prop) (h0 : Pv 0 σ H) (hl : ∀ i σ H, i ≤ xs.length → Pv i σ H → SqL K H a xs)
  (hs : ∀ i x σ H, xs[i]? = some x → Pv i σ H → g x σ H fun σ2 H2 => tb { D with nx := Pv (i + 1), ct := Pv (i + 1), bk := D.nx } σ2 H2) (hd : ∀ σ H, Pv xs.length σ H → D.nx σ H) :
  ∃ W : Nat → Nat → St → Hp → Prop, (∃ m, W 0 m σ H) ∧ ∀ i m σ H, W i m σ H →
   ((Itl K a).stop i H ∧ D.nx σ H) ∨ ((Itl K a).go i H ∧ ∃ N : St → Hp → Prop, (∀ σ' H', N σ' H' → ∃ m', m' < m ∧ W (i + 1) m' σ' H') ∧ ∀ x H', (Itl K a).yld i H x H' → g x σ H' fun σ2 H2 => tb { D with nx := N, ct := N, bk := D.nx } σ2 H2) := by
 refine ⟨fun i m σ H => m = xs.length - i ∧ i ≤ xs.length ∧ Pv i σ H, ⟨xs.length, by simp, Nat.zero_le _, h0⟩, ?_⟩
 rintro i m σ H ⟨rfl, hi, p⟩
 have q := hl i σ H hi p
 by_cases hlt : i < xs.length
 ·refine .inr ⟨⟨xs, xs[i], q, by simp [hlt]⟩, Pv (i + 1), fun σ' H' p' => ⟨xs.length - (i + 1), by omega, rfl, hlt, p'⟩, fun x H' y => ?_⟩
  obtain ⟨e, y⟩ := y
  subst e
  exact hs i x σ _ (y xs q) p
 ·have e : i = xs.length := by omega
  subst e
  exact .inl ⟨⟨xs, q, Nat.le_refl _⟩, hd σ H p⟩
theorem pqF {lo : Int} {n : Nat} {g : TG} {tb : TS} {D : Ends} {σ : St} {H : Hp} (Pv : Nat → St → Hp → Prop) (h0 : Pv 0 σ H)
  (hs : ∀ i σ H, i < n → Pv i σ H → g (.int (lo + i)) σ H fun σ2 H2 => tb { D with nx := Pv (i + 1), ct := Pv (i + 1), bk := D.nx } σ2 H2) (hd : ∀ σ H, Pv n σ H → D.nx σ H) :
  ∃ W : Nat → Nat → St → Hp → Prop, (∃ m, W 0 m σ H) ∧ ∀ i m σ H, W i m σ H →
   ((Itr lo n).stop i H ∧ D.nx σ H) ∨ ((Itr lo n).go i H ∧ ∃ N : St → Hp → Prop, (∀ σ' H', N σ' H' → ∃ m', m' < m ∧ W (i + 1) m' σ' H') ∧ ∀ x H', (Itr lo n).yld i H x H' → g x σ H' fun σ2 H2 => tb { D with nx := N, ct := N, bk := D.nx } σ2 H2) := by
 refine ⟨fun i m σ H => m = n - i ∧ i ≤ n ∧ Pv i σ H, ⟨n, by simp, Nat.zero_le _, h0⟩, ?_⟩
 rintro i m σ H ⟨rfl, hi, p⟩
 by_cases hlt : i < n
 ·refine .inr ⟨hlt, Pv (i + 1), fun σ' H' p' => ⟨n - (i + 1), by omega, rfl, hlt, p'⟩, fun x H' y => ?_⟩
  obtain ⟨e, y⟩ := y
  subst e y
  exact hs i σ _ hlt p
 ·have e : i = n := by omega
  subst e
  exact .inl ⟨Nat.le_refl _, hd σ H p⟩
end L2
namespace L2
open PySem PySem.Spec PyProof.Rows
abbrev R2 := V → V → Hp → VK → Prop
def OpR (X : Cx) (f : Value → Value → Sem Value) (r : R2) : Prop :=
 ∀ (pins : List (Addr × Obj)) (s : Shared) (σ : St) (H : Hp) (x y : V) (v u : Value) (Q : VK), Inv X pins σ H s → RelV x v → RelV y u → r x y H Q →
  wpAny (model X.prog X.w) X.A (f v u) (EP X pins σ Q) X.xe s
def CallR (X : Cx) (f : Value) (r : List V → Hp → VK → Prop) : Prop :=
 ∀ (pins : List (Addr × Obj)) (s : Shared) (σ : St) (H : Hp) (xs : List V) (us : List Value) (Q : VK), Inv X pins σ H s → Vals xs us → r xs H Q →
  wpAny (model X.prog X.w) X.A (call f us) (EP X pins σ Q) X.xe s
def tOp (r : R2) (ta tb : TE) : TE := fun σ H Q => ta σ H fun x H1 => tb σ H1 fun y H2 => r x y H2 Q
def tUn (r : V → Hp → VK → Prop) (ta : TE) : TE := fun σ H Q => ta σ H fun x H1 => r x H1 Q
def rI (C : Int → Int → Prop) (g : Int → Int → V) : R2 := fun x y H Q => ∃ i j, x = .int i ∧ y = .int j ∧ C i j ∧ Q (g i j) H
def rI0 (g : Int → Int → V) : R2 := fun x y H Q => ∃ i j, x = .int i ∧ y = .int j ∧ Q (g i j) H
def rU (g : Int → V) : V → Hp → VK → Prop := fun x H Q => ∃ i, x = .int i ∧ Q (g i) H
section
variable {X : Cx} {a b c : Expr} {ta tb tc : TE} {pos : Pos}
theorem binT (ha : PE X a ta) (hb : PE X b tb) {pins : List (Addr × Obj)} {s : Shared} {σ : St} {H : Hp} {R : V → V → Hp → Prop} (I : Inv X pins σ H s)
  (h : ta σ H fun x H1 => tb σ H1 fun y H2 => R x y H2) {Q : Value → Shared → Prop} {f : Value → Value → Sem Value}
  (hf : ∀ v u s2 x y H2, Inv X pins σ H2 s2 → RelV x v → RelV y u → R x y H2 → wpAny (model X.prog X.w) X.A (f v u) Q X.xe s2) :
  wpAny (model X.prog X.w) X.A (eval a X.env) (fun v s₁ => wpAny (model X.prog X.w) X.A (eval b X.env) (fun u s₂ => wpAny (model X.prog X.w) X.A (f v u) Q X.xe s₂) X.xe s₁) X.xe s := by
 refine thn (ha pins s σ H _ I h) fun v s1 ⟨x, H1, I1, r1, q1⟩ => ?_
 refine thn (hb pins s1 σ H1 _ I1 q1) fun u s2 ⟨y, H2, I2, r2, q2⟩ => ?_
 exact hf v u s2 x y H2 I2 r1 r2 q2
theorem aqw {op : Operator} {r : R2} (ho : OpR X (binaryOp op) r) (ha : PE X a ta) (hb : PE X b tb) : PE X (.BinOp a op b pos) (tOp r ta tb) := by
 intro pins s σ H Q I h
 exact wpAny_BinOp (binT ha hb I h fun v u s2 x y H2 I2 rx ry q => ho pins s2 σ H2 x y v u Q I2 rx ry q)
theorem opI {f : Value → Value → Sem Value} {C : Int → Int → Prop} {g : Int → Int → Int}
  (rule : ∀ (i j : Int) (t u : Tok) (s : Shared) (Q : Value → Shared → Prop) (E : Value → Shared → Prop), C i j → Q (.int (g i j) s.toks) { s with toks := s.toks + 1 } → wpAny (model X.prog X.w) X.A (f (.int i t) (.int j u)) Q E s) :
  OpR X f (rI C fun i j => .int (g i j)) := by
 intro pins s σ H x y v u Q I rx ry h
 obtain ⟨i, j, rfl, rfl, hc, q⟩ := h
 obtain ⟨t, rfl⟩ := rx
 obtain ⟨t', rfl⟩ := ry
 exact rule i j t t' s _ _ hc ⟨.int (g i j), H, I.tok _, ⟨_, rfl⟩, q⟩
theorem opI0 {f : Value → Value → Sem Value} {g : Int → Int → Int}
  (rule : ∀ (i j : Int) (t u : Tok) (s : Shared) (Q : Value → Shared → Prop) (E : Value → Shared → Prop), Q (.int (g i j) s.toks) { s with toks := s.toks + 1 } → wpAny (model X.prog X.w) X.A (f (.int i t) (.int j u)) Q E s) :
  OpR X f (rI0 fun i j => .int (g i j)) := by
 intro pins s σ H x y v u Q I rx ry h
 obtain ⟨i, j, rfl, rfl, q⟩ := h
 obtain ⟨t, rfl⟩ := rx
 obtain ⟨t', rfl⟩ := ry
 exact rule i j t t' s _ _ ⟨.int (g i j), H, I.tok _, ⟨_, rfl⟩, q⟩
theorem opB0 {f : Value → Value → Sem Value} {g : Int → Int → Bool}
  (rule : ∀ (i j : Int) (t u : Tok) (s : Shared) (Q : Value → Shared → Prop) (E : Value → Shared → Prop), Q (.bool (g i j)) s → wpAny (model X.prog X.w) X.A (f (.int i t) (.int j u)) Q E s) :
  OpR X f (rI0 fun i j => .bl (g i j)) := by
 intro pins s σ H x y v u Q I rx ry h
 obtain ⟨i, j, rfl, rfl, q⟩ := h
 obtain ⟨t, rfl⟩ := rx
 obtain ⟨t', rfl⟩ := ry
 exact rule i j t t' s _ _ ⟨.bl (g i j), H, I, rfl, q⟩
def CDiv (i j : Int) : Prop := 0 < j ∧ j < 1073741824
def CPow (i j : Int) : Prop := 0 ≤ j ∧ j ≤ 1000000 ∧ i.natAbs < 2 ^ 64
def CMul (i j : Int) : Prop := (-(2 ^ 64) < i ∧ i < 2 ^ 64) ∨ (-(2 ^ 64) < j ∧ j < 2 ^ 64)
theorem CMul.ok {i j : Int} (h : CMul i j) : IntMulOk i j := by
 rcases h with ⟨h1, h2⟩ | ⟨h1, h2⟩
 ·exact .of_left (intBits_le_64 h1 h2)
 ·exact .of_right (intBits_le_64 h1 h2)
theorem vqR : OpR X (binaryOp .Add) (rI0 fun i j => .int (i + j)) := opI0 fun _ _ _ _ _ _ _ q => add_int q
theorem sqO : OpR X (binaryOp .Sub) (rI0 fun i j => .int (i - j)) := opI0 fun _ _ _ _ _ _ _ q => sub_int q
theorem wqY : OpR X (binaryOp .Mult) (rI CMul fun i j => .int (i * j)) := opI fun _ _ _ _ _ _ _ hc q => mul_int q hc.ok
theorem hqm : OpR X (binaryOp .FloorDiv) (rI CDiv fun i j => .int (i / j)) := opI fun i j _ _ _ _ _ hc q => by
 have h1 : (0 : Int) < j := hc.1
 have h2 : j < 1073741824 := hc.2
 exact floordiv_int (by omega) (by rw [Int.fdiv_eq_ediv_of_nonneg i (by omega)]; exact q) (.inl (PyProof.noPylong_small (by omega)))
theorem eqQ : OpR X (binaryOp .Mod) (rI (fun _ j => 0 < j) fun i j => .int (i % j)) := opI fun i j _ _ _ _ _ hc q => by
 have h1 : (0 : Int) < j := hc
 exact mod_int' (by omega) (by rw [Int.fmod_eq_emod_of_nonneg i (by omega)]; exact q)
theorem wq8 : OpR X (binaryOp .Pow) (rI CPow fun i j => .int (i ^ j.toNat)) := opI fun _ _ _ _ _ _ _ hc q => pow_int_small hc.1 hc.2.1 hc.2.2 q
end
def scal : V → V → Bool
 | .non, .non => true | .non, .int _ => true | .int _, .non => true | .non, .bl _ => true | .bl _, .non => true | .non, .str _ => true | .str _, .non => true
 | .int _, .int _ => true | .bl _, .bl _ => true | .str _, .str _ => true | .byt _, .byt _ => true
 | .int _, .str _ => true | .str _, .int _ => true | .bl _, .str _ => true | .str _, .bl _ => true
 | _, _ => false
def rEq : R2 := fun x y H Q => scal x y = true ∧ Q (.bl (decide (x = y))) H
def rNe : R2 := fun x y H Q => scal x y = true ∧ Q (.bl (!decide (x = y))) H
theorem pqx {i j : Int} : decide (V.int i = V.int j) = (i == j) := by
 rw [Bool.eq_iff_iff]
 simp
theorem tqb {i j : Bool} : decide (V.bl i = V.bl j) = (i == j) := by
 rw [Bool.eq_iff_iff]
 simp
theorem qq6 {i j : Str} : decide (V.str i = V.str j) = (i == j) := by
 rw [Bool.eq_iff_iff]
 simp
theorem qqW {i j : Array UInt8} : decide (V.byt i = V.byt j) = (i.toList == j.toList) := by
 rw [Bool.eq_iff_iff]
 cases i
 cases j
 simp
section
variable {X : Cx} {a b c : Expr} {ta tb tc : TE} {pos : Pos}
theorem aq2 {pins : List (Addr × Obj)} {σ : St} {H : Hp} {s : Shared} {Q : VK} {k k' : Bool} (I : Inv X pins σ H s) (q : Q (.bl k) H) (e : k = k') : EP X pins σ Q (.bool k') s := by
 subst e
 exact ⟨.bl k, H, I, rfl, q⟩
theorem fq5 : OpR X (compareOp .Eq) rEq := by
 intro pins s σ H x y v u Q I rx ry h
 obtain ⟨hs, q⟩ := h
 cases x with
 | non =>
  cases rx
  cases y with
  | non => cases ry; exact PySem.EqNone.eq_none_none (aq2 I q (by simp))
  | bl j => cases ry; exact PySem.EqNone.eq_none_bool (aq2 I q (by simp))
  | int j => obtain ⟨t', rfl⟩ := ry; exact PySem.EqNone.eq_none_int (aq2 I q (by simp))
  | str j => obtain ⟨t', rfl⟩ := ry; exact PySem.EqNone.eq_none_str (aq2 I q (by simp))
  | _ => exact absurd (show false = true from hs) Bool.false_ne_true
 | bl i =>
  cases rx
  cases y with
  | non => cases ry; exact PySem.EqNone.eq_bool_none (aq2 I q (by simp))
  | bl j => cases ry; exact eq_bool (aq2 I q tqb)
  | str j => obtain ⟨t', rfl⟩ := ry; exact PySem.EqMixed.eq_bool_str (aq2 I q (by simp))
  | _ => exact absurd (show false = true from hs) Bool.false_ne_true
 | int i =>
  obtain ⟨t, rfl⟩ := rx
  cases y with
  | non => cases ry; exact PySem.EqNone.eq_int_none (aq2 I q (by simp))
  | int j => obtain ⟨t', rfl⟩ := ry; exact eq_int (aq2 I q pqx)
  | str j => obtain ⟨t', rfl⟩ := ry; exact PySem.EqMixed.eq_int_str (aq2 I q (by simp))
  | _ => exact absurd (show false = true from hs) Bool.false_ne_true
 | str i =>
  obtain ⟨t, rfl⟩ := rx
  cases y with
  | non => cases ry; exact PySem.EqNone.eq_str_none (aq2 I q (by simp))
  | bl j => cases ry; exact PySem.EqMixed.eq_str_bool (aq2 I q (by simp))
  | int j => obtain ⟨t', rfl⟩ := ry; exact PySem.EqMixed.eq_str_int (aq2 I q (by simp))
  | str j => obtain ⟨t', rfl⟩ := ry; exact eq_str (aq2 I q qq6)
  | _ => exact absurd (show false = true from hs) Bool.false_ne_true
 | byt i =>
  obtain ⟨t, rfl⟩ := rx
  cases y with
  | byt j => obtain ⟨t', rfl⟩ := ry; exact PySem.W.eq_bytes (aq2 I q qqW)
  | _ => exact absurd (show false = true from hs) Bool.false_ne_true
 | _ => cases y <;> exact absurd (show false = true from hs) Bool.false_ne_true
theorem nqx : OpR X (compareOp .NotEq) rNe := by
 intro pins s σ H x y v u Q I rx ry h
 obtain ⟨hs, q⟩ := h
 cases x with
 | non =>
  cases rx
  cases y with
  | non => cases ry; exact PySem.EqNone.ne_none_none (aq2 I q (by simp))
  | bl j => cases ry; exact PySem.EqNone.ne_none_bool (aq2 I q (by simp))
  | int j => obtain ⟨t', rfl⟩ := ry; exact PySem.EqNone.ne_none_int (aq2 I q (by simp))
  | str j => obtain ⟨t', rfl⟩ := ry; exact PySem.EqNone.ne_none_str (aq2 I q (by simp))
  | _ => exact absurd (show false = true from hs) Bool.false_ne_true
 | bl i =>
  cases rx
  cases y with
  | non => cases ry; exact PySem.EqNone.ne_bool_none (aq2 I q (by simp))
  | bl j => cases ry; exact ne_bool (aq2 I q (congrArg not tqb))
  | str j => obtain ⟨t', rfl⟩ := ry; exact PySem.EqMixed.ne_bool_str (aq2 I q (by simp))
  | _ => exact absurd (show false = true from hs) Bool.false_ne_true
 | int i =>
  obtain ⟨t, rfl⟩ := rx
  cases y with
  | non => cases ry; exact PySem.EqNone.ne_int_none (aq2 I q (by simp))
  | int j => obtain ⟨t', rfl⟩ := ry; exact ne_int (aq2 I q (congrArg not pqx))
  | str j => obtain ⟨t', rfl⟩ := ry; exact PySem.EqMixed.ne_int_str (aq2 I q (by simp))
  | _ => exact absurd (show false = true from hs) Bool.false_ne_true
 | str i =>
  obtain ⟨t, rfl⟩ := rx
  cases y with
  | non => cases ry; exact PySem.EqNone.ne_str_none (aq2 I q (by simp))
  | bl j => cases ry; exact PySem.EqMixed.ne_str_bool (aq2 I q (by simp))
  | int j => obtain ⟨t', rfl⟩ := ry; exact PySem.EqMixed.ne_str_int (aq2 I q (by simp))
  | str j => obtain ⟨t', rfl⟩ := ry; exact ne_str (aq2 I q (congrArg not qq6))
  | _ => exact absurd (show false = true from hs) Bool.false_ne_true
 | byt i =>
  obtain ⟨t, rfl⟩ := rx
  cases y with
  | byt j => obtain ⟨t', rfl⟩ := ry; exact PySem.W.ne_bytes (aq2 I q (congrArg not qqW))
  | _ => exact absurd (show false = true from hs) Bool.false_ne_true
 | _ => cases y <;> exact absurd (show false = true from hs) Bool.false_ne_true
theorem qqN : OpR X (compareOp .Lt) (rI0 fun i j => .bl (decide (i < j))) := opB0 fun _ _ _ _ _ _ _ q => lt_int q
theorem xqy : OpR X (compareOp .LtE) (rI0 fun i j => .bl (decide (i ≤ j))) := opB0 fun _ _ _ _ _ _ _ q => le_int q
theorem kqb : OpR X (compareOp .Gt) (rI0 fun i j => .bl (decide (j < i))) := opB0 fun _ _ _ _ _ _ _ q => gt_int q
theorem pqW : OpR X (compareOp .In) (fun x y H Q => ∃ i j, x = .str i ∧ y = .str j ∧ Q (.bl (!(Builtin.Str.occurrences j i 0 j.length 1).isEmpty)) H) := by
 intro pins s σ H x y v u Q I rx ry h
 obtain ⟨i, j, rfl, rfl, q⟩ := h
 obtain ⟨t, rfl⟩ := rx
 obtain ⟨t', rfl⟩ := ry
 exact in_str (aq2 I q rfl)
theorem wqv : OpR X (compareOp .Is) (fun x y H Q => y = .non ∧ Q (.bl (decide (x = .non))) H) := by
 intro pins s σ H x y v u Q I rx ry h
 obtain ⟨rfl, q⟩ := h
 cases ry
 refine is_none_gen (aq2 I q ?_)
 cases x <;> first
  | (cases rx; rfl)
  | (obtain ⟨t, rfl⟩ := rx; rfl)
theorem uqf : OpR X (compareOp .IsNot) (fun x y H Q => y = .non ∧ Q (.bl (!decide (x = .non))) H) := by
 intro pins s σ H x y v u Q I rx ry h
 obtain ⟨rfl, q⟩ := h
 cases ry
 refine isnot_none_gen (aq2 I q ?_)
 cases x <;> first
  | (cases rx; rfl)
  | (obtain ⟨t, rfl⟩ := rx; rfl)
theorem nomark (b : Expr) {op : CmpOp} (h : op ≠ .In := by decide) (h2 : op ≠ .NotIn := by decide) : behindInMarks op b = false := by
 have e1 : (op == CmpOp.In) = false := by cases op <;> first | rfl | exact absurd rfl h
 have e2 : (op == CmpOp.NotIn) = false := by cases op <;> first | rfl | exact absurd rfl h2
 cases b <;> simp [behindInMarks, e1, e2]
theorem bqa {op : CmpOp} {r : R2} (ho : OpR X (compareOp op) r) (ha : PE X a ta) (hb : PE X b tb) (hm : behindInMarks op b = false) : PE X (.Compare a [op] [b] pos) (tOp r ta tb) := by
 intro pins s σ H Q I h
 exact wpAny_Compare1 (binT ha hb I h fun v u s2 x y H2 I2 rx ry q => ho pins s2 σ H2 x y v u Q I2 rx ry q) hm
def tTest (t : TE) : TT := fun σ H Q => t σ H fun x H' => ∃ k, x = .bl k ∧ Q k H'
theorem aqy {op : CmpOp} {r : R2} (ho : OpR X (compareOp op) r) (ha : PE X a ta) (hb : PE X b tb) (hm : behindInMarks op b = false) : PT X (.Compare a [op] [b] pos) (tTest (tOp r ta tb)) := by
 intro pins s σ H Q I h
 refine wpAny_isTrue_Compare1 (thn (ha pins s σ H _ I h) fun v s1 ⟨x, H1, I1, r1, q1⟩ => thn (hb pins s1 σ H1 _ I1 q1) fun u s2 ⟨y, H2, I2, r2, q2⟩ =>
  thn (ho pins s2 σ H2 x y v u _ I2 r1 r2 q2) fun c s3 ⟨z, H3, I3, r3, k, e, q3⟩ => ?_) hm
 subst e
 cases r3
 exact wpAny_truthy_bool ⟨H3, I3, q3⟩
def tChain (r r' : R2) (ta tb tc : TE) : TE := fun σ H Q => ta σ H fun x H1 => tb σ H1 fun y H2 => r x y H2 fun z H3 => ∃ k, z = .bl k ∧
 (if k = true then tc σ H3 fun w' H4 => r' y w' H4 Q else Q (.bl false) H3)
theorem line63 : (sizeLine : Nat) < 2 ^ 63 := by rw [sizeLine_eq]; decide
theorem pqc : OpR X (binaryOp .Add) (fun x y H Q => ∃ i j, x = .str i ∧ y = .str j ∧ i.length + j.length ≤ sizeLine ∧ Q (.str (i ++ j)) H) := by
 intro pins s σ H x y v u Q I rx ry h
 obtain ⟨i, j, rfl, rfl, hz, q⟩ := h
 obtain ⟨t, rfl⟩ := rx
 obtain ⟨t', rfl⟩ := ry
 exact add_str (fun t' tk => ⟨.str (i ++ j), H, I.tok _, ⟨_, rfl⟩, q⟩) hz
theorem vals1 {x : V} {us : List Value} (r : Vals [x] us) : ∃ u, us = [u] ∧ RelV x u := by
 cases r with
 | cons r1 r2 => cases r2; exact ⟨_, rfl, r1⟩
theorem vals2 {x y : V} {us : List Value} (r : Vals [x, y] us) : ∃ u w', us = [u, w'] ∧ RelV x u ∧ RelV y w' := by
 cases r with
 | cons r1 r2 =>
  cases r2 with
  | cons r3 r4 => cases r4; exact ⟨_, _, rfl, r1, r3⟩
theorem mqg : CallR X (.type "int") (fun xs H Q => (∃ i, xs = [.int i] ∧ Q (.int i) H) ∨ ∃ k, xs = [.bl k] ∧ Q (.int (if k then 1 else 0)) H) := by
 intro pins s σ H xs us Q I r h
 rcases h with ⟨i, rfl, q⟩ | ⟨k, rfl, q⟩
 ·obtain ⟨u, rfl, t, rfl⟩ := vals1 r
  exact call_int_int ⟨.int i, H, I, ⟨_, rfl⟩, q⟩
 ·obtain ⟨u, rfl, r1⟩ := vals1 r
  cases r1
  exact call_int_bool ⟨.int (if k then 1 else 0), H, I.tok _, ⟨_, rfl⟩, q⟩
theorem iq1 : CallR X (.type "str") (fun xs H Q => ∃ i, xs = [.int i] ∧ i.natAbs.log2 < 1920 ∧ Q (.str (toString i)) H) := by
 intro pins s σ H xs us Q I r h
 obtain ⟨i, rfl, hz, q⟩ := h
 obtain ⟨u, rfl, t, rfl⟩ := vals1 r
 exact PySem.P.str_of_int hz ⟨.str _, H, I.tok _, ⟨_, rfl⟩, q⟩
theorem rqy : CallR X (.builtin "ord") (fun xs H Q => ∃ x, xs = [.str x] ∧ x.length = 1 ∧ Q (.int (x.cps.getD 0 0 : Nat)) H) := by
 intro pins s σ H xs us Q I r h
 obtain ⟨x, rfl, hz, q⟩ := h
 obtain ⟨u, rfl, t, rfl⟩ := vals1 r
 exact ord_of_one hz ⟨.int _, H, I.tok _, ⟨_, rfl⟩, q⟩
end
end L2
namespace L2
open PySem PySem.Spec PyProof.Rows
structure ObjM (h : Heap) (x dx C : Addr) (mA : Str → Option Value) : Prop where
 obj : h.get? x = some (PySem.W.instObj C dx)
 ns : h.Ns1 dx mA
 ne : dx ≠ x
theorem mqG {h : Heap} {dx : Addr} {mA : Str → Option Value} (n : h.Ns1 dx mA) : ∃ od, h.get? dx = some od ∧ ∀ name, PySem.W.lookIn name od = some (mA name) := by
 obtain ⟨o, es, ep, ho, hd, hk, _, hm⟩ := n
 refine ⟨o, ho, fun name => ?_⟩
 have e := hm name
 unfold nsFind findBy at e
 rw [← Array.find?_toList] at e
 unfold PySem.W.lookIn
 rw [hd]
 dsimp only
 split
 ·rename_i y q
  rw [q] at e
  exact congrArg some e
 ·rename_i q
  rw [q] at e
  have a : es.toList.any (·.refKey) = false := by
   rw [List.any_eq_false]
   intro y hy
   obtain ⟨z, t, hkey⟩ := hk y (Array.mem_toList_iff.mp hy)
   simp [DictEntry.refKey, hkey]
  have a' : ¬ es.toList.any (·.refKey) = true := by rw [a]; exact Bool.false_ne_true
  rw [if_neg a']
  exact congrArg some e
theorem ObjM.look {h : Heap} {x dx C : Addr} {mA : Str → Option Value} (I : ObjM h x dx C mA) : ∃ od, PySem.W.InstAt h x (PySem.W.instObj C dx) C (some od) ∧ ∀ name, PySem.W.lookIn name od = some (mA name) :=
 let ⟨od, ho, hl⟩ := mqG I.ns
 ⟨od, ⟨I.obj, rfl, rfl, ho⟩, hl⟩
section
variable {prog : Program} {w : World} {A : Around} {E : Value → Shared → Prop} {s : Shared} {K : PySem.W.Frag} {x dx C f : Addr} {mA : Str → Option Value} {name : Str} {v : Value}
theorem uq8 {expr : Bool} {Q : Value → Shared → Prop} (X : K.In s.heap) (I : ObjM s.heap x dx C mA) (hg : PySem.W.plainGet K C name = true) (hh : PySem.W.hasDictIn K C = true)
  (ha : PySem.W.findIn K (.ref C) name = some none) (hv : mA name = some v) (hv' : PySem.W.handedIn v = true) (h : Q v { s with toks := s.toks + 1 }) :
  wpAny (model prog w) A (getAttr (.ref x) name expr) Q E s := by
 obtain ⟨od, J, hl⟩ := I.look
 exact PySem.W.get_value X J (PySem.W.plainGet_of hg).1 (PySem.W.findObj_own hh ha rfl (by rw [hl, hv])) hv' h
theorem rqM {pl : Sem Bool} {Q : Value × List Value → Shared → Prop} (X : K.In s.heap) (I : ObjM s.heap x dx C mA) (hg : PySem.W.plainGet K C name = true)
  (hf : PySem.W.findIn K (.ref C) name = some (some (.ref f))) (ht : PySem.W.isFn K (.ref f) = true) (hv : mA name = none) (h : Q (.ref f, [.ref x]) s) :
  wpAny (model prog w) A (getMethod (.ref x) name pl) Q E s := by
 obtain ⟨od, J, hl⟩ := I.look
 exact PySem.W.method_fn X J (PySem.W.plainGet_of hg).1 (PySem.W.plainGet_of hg).2 hf (beq_iff_eq.mp ht) (by show (PySem.W.lookIn name od).map (·.isSome) = some false; rw [hl, hv]; rfl) h
theorem uqA {ns : List Str} {Q : Unit → Shared → Prop} (X : K.In s.heap) (I : ObjM s.heap x dx C mA)
  (hs : PySem.W.findIn K (.ref C) "__setattr__" = some (some (.builtin "object.__setattr__"))) (hp : PySem.W.plainOver K C = true) (ht : PySem.W.takerIn K C name = some none) (hh : PySem.W.hasDictIn K C = true)
  (hw : PySem.Within mA ns) (hsz : ns.length ≤ sizeLine)
  (h : ∀ h', ObjM h' x dx C (fun y => if y = name then some v else mA y) → Heap.SameBut dx s.heap h' → Q () { s with heap := h', toks := s.toks + 2 }) :
  wpAny (model prog w) A (setAttr (.ref x) name v) Q E s := by
 obtain ⟨od, J, hl⟩ := I.look
 refine PySem.W.set_plain X J hs (PySem.W.osa_open (s := { s with toks := s.toks + 1 }) (r := none) X J hp ht fun b => ?_)
 obtain ⟨cd, hc, hd'⟩ := PySem.W.any_some hh
 have hx : s.heap.get? x = some ⟨.ref C, some dx, .plain, #[]⟩ := I.obj
 refine wpAny_bind (wpAny_pure (wpAny_bind (wpAny_bind (wpAny_loadPart hx (wpAny_bind (PySem.W.Looks.here (s := { s with toks := s.toks + 1 }) (PySem.W.looks_clsIn X hc) ?_))))))
 rw [hd']
 refine wpAny_pure (a := some dx) (wpAny_bind (wpAny_pure (wpAny_bind ?_)))
 refine wpAny_nsSet1 (s := { s with toks := s.toks + 1 }) I.ns fun h' hn2 hs2 => ?_
 obtain ⟨oD, esD, epD, hoD, hdD, hcD⟩ := hn2.count (PySem.Within.cons name v hw)
 refine wpAny_bind (wpAny_lookBehind hoD (by rw [hdD]; exact pastItsLine_dict (Nat.le_trans hcD (by rw [List.length_cons]; omega))) ?_)
 exact wpAny_pure (h _ ⟨(hs2.2 _ (Ne.symm I.ne)).trans I.obj, hn2, I.ne⟩ hs2)
theorem sqe {R : Result → Shared → Prop} {vs : List Value} {kw : List (Str × Value)} (X : K.In s.heap) (hm : PySem.W.makesIn K C = true)
  (hi : PySem.W.findIn K (.ref C) "__init__" = some (some (.ref f))) (hf : PySem.W.typeIn K (.ref f) = some (.type "function"))
  (h : codeAny (model prog w) (A.under (.builtin "type.__call__" ⟨.ref C :: vs, kw⟩)) (.call (.ref f) ⟨.ref (s.heap.objs.size + 1) :: vs, kw⟩) (PySem.W.InitBack (s.heap.objs.size + 1) R)
   { s with heap := (s.heap.push PySem.W.emptyDict).push (PySem.W.instObj C s.heap.objs.size) }) :
  codeAny (model prog w) A (.call (.ref C) ⟨vs, kw⟩) R s := by
 obtain ⟨hh, g, d, t, os⟩ := s
 exact PySem.W.make_core (PySem.W.makes_of X hm) (PySem.W.looks_findIn X hi) (fun self => PySem.W.bind_fn X self hf) (.inl rfl) h
end
def putF (f : Str) (v : V) : List (Str × V) → List (Str × V)
 | [] => [(f, v)]
 | (g, x) :: r => if g = f then (g, v) :: r else (g, x) :: putF f v r
theorem kqB (f g : Str) (v : V) : ∀ fs : List (Str × V), (putF f v fs).lookup g = if g = f then some v else fs.lookup g
 | [] => by
  show List.lookup g [(f, v)] = _
  by_cases h : g = f
  ·have hb : (g == f) = true := beq_iff_eq.mpr h
   simp only [List.lookup, hb, if_pos h]
  ·have hb : (g == f) = false := beq_eq_false_iff_ne.mpr h
   simp only [List.lookup, hb, if_neg h]
 | (k, x) :: r => by
  have ih := kqB f g v r
  rw [show putF f v ((k, x) :: r) = (if k = f then (k, v) :: r else (k, x) :: putF f v r) from rfl]
  by_cases hk : k = f
  ·rw [if_pos hk]
   by_cases h : g = k
   ·have hb : (g == k) = true := beq_iff_eq.mpr h
    simp only [List.lookup, hb, if_pos (h.trans hk)]
   ·have hb : (g == k) = false := beq_eq_false_iff_ne.mpr h
    simp only [List.lookup, hb, if_neg (fun e : g = f => h (e.trans hk.symm))]
  ·rw [if_neg hk]
   by_cases h : g = k
   ·have hb : (g == k) = true := beq_iff_eq.mpr h
    simp only [List.lookup, hb, if_neg (fun e : g = f => hk (h.symm.trans e))]
   ·have hb : (g == k) = false := beq_eq_false_iff_ne.mpr h
    simp only [List.lookup, hb]
    exact ih
theorem jqP (f : Str) (v : V) : ∀ fs : List (Str × V), f ∈ (putF f v fs).map (·.1) ∧ ∀ g, g ∈ fs.map (·.1) → g ∈ (putF f v fs).map (·.1)
 | [] => ⟨by simp [putF], fun g h => by simp at h⟩
 | (k, x) :: r => by
  obtain ⟨i1, i2⟩ := jqP f v r
  rw [show putF f v ((k, x) :: r) = (if k = f then (k, v) :: r else (k, x) :: putF f v r) from rfl]
  by_cases hk : k = f
  ·rw [if_pos hk]
   subst hk
   exact ⟨by simp, fun g h => by simpa using h⟩
  ·rw [if_neg hk]
   refine ⟨?_, fun g h => ?_⟩
   ·rw [List.map_cons]
    exact List.mem_cons_of_mem _ i1
   ·rw [List.map_cons] at h ⊢
    rcases List.mem_cons.mp h with e | e
    ·exact List.mem_cons.mpr (.inl e)
    ·exact List.mem_cons_of_mem _ (i2 g e)
theorem kqn (f : Str) (v : V) : ∀ fs : List (Str × V), (putF f v fs).length ≤ fs.length + 1
 | [] => by simp [putF]
 | (k, x) :: r => by
  have ih := kqn f v r
  rw [show putF f v ((k, x) :: r) = (if k = f then (k, v) :: r else (k, x) :: putF f v r) from rfl]
  by_cases hk : k = f
  ·rw [if_pos hk, List.length_cons, List.length_cons]; omega
  ·rw [if_neg hk, List.length_cons, List.length_cons]; omega
theorem RelO.some_of {v : V} {o : Option Value} (r : RelO (some v) o) : ∃ u, o = some u ∧ RelV v u := by
 cases o with
 | none => exact (show False from r).elim
 | some u => exact ⟨u, rfl, r⟩
theorem RelO.none_of {o : Option Value} (r : RelO none o) : o = none := by
 cases o with
 | none => rfl
 | some u => exact (show False from r).elim
theorem nqd {v : V} {u : Value} (r : RelV v u) : PySem.W.handedIn u = true := by
 cases v with
 | non => cases (show u = Value.none from r); rfl
 | bl b => cases (show u = Value.bool b from r); rfl
 | int i => obtain ⟨t, e⟩ := (show ∃ t, u = Value.int i t from r); cases e; rfl
 | str x => obtain ⟨t, e⟩ := (show ∃ t, u = Value.str x t from r); cases e; rfl
 | byt b => obtain ⟨t, e⟩ := (show ∃ t, u = Value.bytes b t from r); cases e; rfl
 | flt b => obtain ⟨t, e⟩ := (show ∃ t, u = Value.float b t from r); cases e; rfl
 | ref a => cases (show u = Value.ref a from r); rfl
 | ty n => cases (show u = Value.type n from r); rfl
section
variable {P : Program} {w : World} {H H' : Hp} {h h' : Heap} {a C dx : Addr} {fs fs' : List (Str × V)}
theorem lqK (hok : HOk P w H h) (e : H a = some (.ins C dx fs)) : ∃ mA, ObjM h a dx C mA ∧ (∀ f, RelO (fs.lookup f) (mA f)) ∧ PySem.Within mA (fs.map (·.1)) ∧ fs.length ≤ 1000 ∧ H dx = some (.own a) := by
 obtain ⟨d, z, ne, ob, mA, n, r, q⟩ := (show ObjOk P w H h a (.ins C dx fs) from hok a _ e)
 exact ⟨mA, ⟨ob, n, ne⟩, r, q, z, d⟩
end
structure Cls (K : PySem.W.Frag) (C : Addr) : Prop where
 pg : PySem.W.plainGet K C Str.empty = true
 hd : PySem.W.hasDictIn K C = true
 po : PySem.W.plainOver K C = true
 sa : PySem.W.findIn K (.ref C) "__setattr__" = some (some (.builtin "object.__setattr__"))
theorem Cls.get {K : PySem.W.Frag} {C : Addr} (c : Cls K C) (f : Str) : PySem.W.plainGet K C f = true := c.pg
def NoAttr (K : PySem.W.Frag) (C : Addr) (f : Str) : Prop := PySem.W.findIn K (.ref C) f = some none
theorem NoAttr.taker {K : PySem.W.Frag} {C : Addr} {f : Str} (n : NoAttr K C f) : PySem.W.takerIn K C f = some none := by
 unfold PySem.W.takerIn
 rw [show PySem.W.findIn K (.ref C) f = some none from n]
 rfl
structure Con (K : PySem.W.Frag) (C : Addr) (f : Str) (v : V) (u : Value) : Prop where
 at_ : PySem.W.findIn K (.ref C) f = some (some u)
 rel : RelV v u
 get : PySem.W.specialIn K u "__get__" = some none
 cp : PySem.W.copiedNames.contains f = false
structure Meth (K : PySem.W.Frag) (C : Addr) (m : Str) (f : Addr) : Prop where
 at_ : PySem.W.findIn K (.ref C) m = some (some (.ref f))
 fn : PySem.W.isFn K (.ref f) = true
 kp : PySem.W.keepIn K (.ref f) = true
section
variable {X : Cx} {pins : List (Addr × Obj)} {σ : St} {H : Hp} {s : Shared} {a C dx : Addr} {fs : List (Str × V)} {f : Str} {v : V} {A : Around} {E : Value → Shared → Prop}
theorem pqr {b : Bool} {Q : Value → Shared → Prop} (I : Inv X pins σ H s) (e : H a = some (.ins C dx fs)) (c : Cls X.K C) (n : NoAttr X.K C f) (l : fs.lookup f = some v)
  (h : ∀ u s', Inv X pins σ H s' → RelV v u → Q u s') : wpAny (model X.prog X.w) A (getAttr (.ref a) f b) Q E s := by
 obtain ⟨mA, O, r, _, _, _⟩ := lqK I.hok e
 obtain ⟨u, hu, ru⟩ := RelO.some_of (v := v) (o := mA f) (by rw [← l]; exact r f)
 exact uq8 I.kIn O (c.get f) c.hd n hu (nqd ru) (h u _ (I.tok _) ru)
theorem iqL {m : Str} {g : Addr} {pl : Sem Bool} {Q : Value × List Value → Shared → Prop} (I : Inv X pins σ H s) (e : H a = some (.ins C dx fs)) (c : Cls X.K C) (k : Meth X.K C m g) (l : fs.lookup m = none)
  (h : Q (.ref g, [.ref a]) s) : wpAny (model X.prog X.w) A (getMethod (.ref a) m pl) Q E s := by
 obtain ⟨mA, O, r, _, _, _⟩ := lqK I.hok e
 have hn : mA m = none := RelO.none_of (by rw [← l]; exact r m)
 exact rqM I.kIn O (c.get m) k.at_ k.fn hn h
theorem pqq {y : V} {u : Value} {Q : Unit → Shared → Prop} (I : Inv X pins σ H s) (e : H a = some (.ins C dx fs)) (c : Cls X.K C) (n : NoAttr X.K C f) (hl : fs.length < 1000) (ry : RelV y u)
  (h : ∀ s', Inv X pins σ (upd H a (.ins C dx (putF f y fs))) s' → Q () s') : wpAny (model X.prog X.w) A (setAttr (.ref a) f u) Q E s := by
 obtain ⟨mA, O, r, wi, _, ho⟩ := lqK I.hok e
 have hz : (fs.map (·.1)).length ≤ sizeLine := by rw [List.length_map, sizeLine_eq]; omega
 refine uqA I.kIn O c.sa c.po n.taker c.hd wi hz fun h' O' sb => h _ ?_
 have hd : ∃ o, h'.get? dx = some o := let ⟨o, _, _, e', _⟩ := O'.ns; ⟨o, e'⟩
 refine I.write (x := a) (e := dx) (by rw [e]; exact True.intro) (.inr ho) (fun b q hb z => (sb.2 b hb).trans z) hd ?_
 refine ⟨by rw [aqv O.ne]; exact ho, ?_, O.ne, O'.obj, _, O'.ns, fun g => ?_, fun g hg => ?_⟩
 ·have := kqn f y fs; omega
 ·show RelO ((putF f y fs).lookup g) (if g = f then some u else mA g)
  rw [kqB]
  by_cases q : g = f
  ·rw [if_pos q, if_pos q]; exact ry
  ·rw [if_neg q, if_neg q]; exact r g
 ·by_cases q : g = f
  ·rw [q]; exact (jqP f y fs).1
  ·refine (jqP f y fs).2 g (wi g fun z => hg ?_)
   show (if g = f then some u else mA g) = none
   rw [if_neg q]; exact z
theorem Inv.made (I : Inv X pins σ H s) : Inv X pins σ (upd (upd H s.heap.objs.size (.own (s.heap.objs.size + 1))) (s.heap.objs.size + 1) (.ins C s.heap.objs.size []))
  { s with heap := (s.heap.push PySem.W.emptyDict).push (PySem.W.instObj C s.heap.objs.size) } := by
 have e1 : (s.heap.push PySem.W.emptyDict).get? s.heap.objs.size = some PySem.W.emptyDict := Heap.get?_push_size s.heap rfl
 have e2 : ((s.heap.push PySem.W.emptyDict).push (PySem.W.instObj C s.heap.objs.size)).get? (s.heap.objs.size + 1) = some (PySem.W.instObj C s.heap.objs.size) := by
  have := Heap.get?_push_size (s.heap.push PySem.W.emptyDict) (o := PySem.W.instObj C s.heap.objs.size) rfl
  rwa [Heap.size_push] at this
 have e3 : (s.heap.push PySem.W.emptyDict).Ns s.heap.objs.size (fun _ => none) := ⟨PySem.W.emptyDict, #[], _, e1, rfl, (fun e he => absurd he (by simp)), fun _ => rfl⟩
 have I1 := I.laid (a := s.heap.objs.size) (o := .own (s.heap.objs.size + 1)) (h' := s.heap.push PySem.W.emptyDict) (t' := s.toks) (fun b u q => Heap.get?_push_of_some _ q) (Nat.le_refl _) ⟨_, e1⟩
 refine I1.laid (a := s.heap.objs.size + 1) (o := .ins C s.heap.objs.size []) (t' := s.toks) (fun b u q => Heap.get?_push_of_some _ q) (Nat.le_of_eq (Heap.size_push _ _)) ?_
 have ne : s.heap.objs.size ≠ s.heap.objs.size + 1 := Nat.ne_of_lt (Nat.lt_succ_self _)
 refine ⟨by rw [aqv ne, aqg], Nat.zero_le _, ne, e2, fun _ => none, (Heap.Ns1.of_empty e3).at fun o q => Heap.get?_push_of_some _ q, fun _ => True.intro, fun y hy => absurd rfl hy⟩
theorem pq6 {prog : Program} {w : World} {env : Env} {e : Expr} {f : Str} {pos : Pos} {s : Shared} {Q : Value → Shared → Prop} (hb : attributeBase e f env (eval e env) = eval e env)
  (h : wpAny (model prog w) A (eval e env) (fun o s₁ => wpAny (model prog w) A (getAttr o f true) Q E s₁) E s) : wpAny (model prog w) A (eval (.Attribute e f pos) env) Q E s :=
 Attribute_any_ h (by rw [arm_eval_Attribute, hb])
end
def tFld (K : PySem.W.Frag) (ta : TE) (f : Str) : TE := fun σ H Q => ta σ H fun x H1 => ∃ a C dx fs v, x = .ref a ∧ H1 a = some (.ins C dx fs) ∧ Cls K C ∧ NoAttr K C f ∧ fs.lookup f = some v ∧ Q v H1
def sFld (K : PySem.W.Frag) (ta tv : TE) (f : Str) : TS := fun D σ H => tv σ H fun y H1 => ta σ H1 fun x H2 => ∃ a C dx fs, x = .ref a ∧ H2 a = some (.ins C dx fs) ∧ Cls K C ∧ NoAttr K C f ∧ fs.length < 1000 ∧
 D.nx σ (upd H2 a (.ins C dx (putF f y fs)))
section
variable {X : Cx} {o e value : Expr} {f : Str} {pos pos' tpos : Pos} {ta tv : TE}
theorem cqp (he : PE X e ta) (hb : attributeBase e f X.env (eval e X.env) = eval e X.env) : PE X (.Attribute e f pos) (tFld X.K ta f) := by
 intro pins s σ H Q I h
 refine pq6 hb (thn (he pins s σ H _ I h) fun u s1 ⟨x, H1, I1, rx, a, C, dx, fs, v, ex, ea, c, n, l, q⟩ => ?_)
 subst ex
 obtain rfl : u = Value.ref a := rx
 exact pqr I1 ea c n l fun u' s2 I2 ru => ⟨v, H1, I2, ru, q⟩
theorem oqq (ha : PE X o ta) (hv : PE X value tv) (hs : swapsWith value (some (.Attribute o f pos')) pos.line X.env = pure false) : PS X (.Assign [.Attribute o f pos'] value pos) (sFld X.K ta tv f) := by
 intro pins s σ H D I h
 refine plainObj_wpAny_Assign_Attribute (thn (hv pins s σ H _ I h) fun u s1 ⟨y, H1, I1, ry, q⟩ => thn (ha pins s1 σ H1 _ I1 q) fun ov s2 ⟨x, H2, I2, rx, a, C, dx, fs, ex, ea, c, n, l, q2⟩ => ?_) hs
 subst ex
 obtain rfl : ov = Value.ref a := rx
 exact pqq I2 ea c n l ry fun s3 I3 => ⟨σ, _, I3, q2⟩
theorem uqD {pl : Sem Bool} {m : Str} {apos : Pos} {args : List Expr} {pins : List (Addr × Obj)} {s : Shared} {σ : St} {H : Hp} {Q : Value → Shared → Prop} {te : TE} (he : PE X e te) (I : Inv X pins σ H s)
  (h : te σ H fun x H1 => ∃ a C dx fs g, x = .ref a ∧ H1 a = some (.ins C dx fs) ∧ Cls X.K C ∧ Meth X.K C m g ∧ fs.lookup m = none ∧
   ∀ s1, Inv X pins σ H1 s1 → wpAny (model X.prog X.w) X.A (callWith pos (.ref g) [.ref a] (backTo pos (starEach args X.env)) (backToKw pos (keywordEach [] X.env))) Q X.xe s1)
  (ht : eval (.Call (.Attribute e m apos) args [] pos) X.env = (do
   let ov ← eval e X.env
   standAt apos.atName
   let (f, first) ← holding [ov] (getMethod ov m pl)
   callWith pos f first (backTo pos (starEach args X.env)) (backToKw pos (keywordEach [] X.env)))) :
  wpAny (model X.prog X.w) X.A (eval (.Call (.Attribute e m apos) args [] pos) X.env) Q X.xe s := by
 refine PySem.W.methodCall_KW (pl := pl) (thn (he pins s σ H _ I h) fun u s1 ⟨x, H1, I1, rx, a, C, dx, fs, g, ex, ea, c, k, l, q⟩ => ?_) ht
 subst ex
 obtain rfl : u = Value.ref a := rx
 exact iqL I1 ea c k l (q s1 I1)
end
section
variable {X : Cx} {pins : List (Addr × Obj)} {σ : St} {H : Hp} {s : Shared} {A : Around} {E : Value → Shared → Prop} {Q : Value → Shared → Prop} {c : Value} {b : Bool}
inductive TyOf (K : PySem.W.Frag) (H : Hp) : V → Value → Prop where
 | non : TyOf K H .non (.type "NoneType")
 | bl (x : Bool) : TyOf K H (.bl x) (.type "bool")
 | int (i : Int) : TyOf K H (.int i) (.type "int")
 | str (x : Str) : TyOf K H (.str x) (.type "str")
 | flt (x : UInt64) : TyOf K H (.flt x) (.type "float")
 | lst {a : Addr} {xs : List V} (e : H a = some (.lst xs)) : TyOf K H (.ref a) (.type "list")
 | frz {a : Addr} {o : Obj} {xs : List V} (e : H a = some (.frz o (.lst xs))) : TyOf K H (.ref a) (.type "list")
 | tup {a : Addr} {xs : List V} (e : H a = some (.tup xs)) : TyOf K H (.ref a) (.type "tuple")
 | dK {a : Addr} {kvs : List (Key × V)} (e : H a = some (.dK kvs)) : TyOf K H (.ref a) (.type "dict")
 | dT {a : Addr} {kvs : List (List Key × V)} (e : H a = some (.dT kvs)) : TyOf K H (.ref a) (.type "dict")
 | ins {a C dx : Addr} {fs : List (Str × V)} (e : H a = some (.ins C dx fs)) (cl : Cls K C) (ha : PySem.W.findIn K (.ref C) "__class__" = some (some (.builtin "object.__class__")))
   (hn : PySem.W.specialIn K (.builtin "object.__class__") "__get__" = some (some (.builtin "getset_descriptor.__get__"))) (htk : PySem.W.takesIn K (.builtin "object.__class__") = some true)
   (hm : PySem.W.mroIn K C (.type "object") = some true) : TyOf K H (.ref a) (.ref C)
theorem qqn {x : V} {u t : Value} (I : Inv X pins σ H s) (rx : RelV x u) (ty : TyOf X.K H x t) (e : PySem.W.kitOne X.K t c = some b) (h : ∀ tk, Q (.bool b) { s with toks := tk }) :
  wpAny (model X.prog X.w) A (call (.builtin "isinstance") [u, c]) Q E s := by
 cases ty with
 | non => cases (show u = Value.none from rx); exact PySem.W.kia_one PySem.W.kitx_none I.kIn True.intro e (fun z => nomatch z) h
 | bl y => cases (show u = Value.bool y from rx); exact PySem.W.kia_one PySem.W.kitx_bool I.kIn True.intro e (fun z => nomatch z) h
 | int i => obtain ⟨t, q⟩ := (show ∃ t, u = Value.int i t from rx); cases q; exact PySem.W.kia_one PySem.W.kitx_int I.kIn True.intro e (fun z => nomatch z) h
 | str y => obtain ⟨t, q⟩ := (show ∃ t, u = Value.str y t from rx); cases q; exact PySem.W.kia_one PySem.W.kitx_str I.kIn True.intro e (fun z => nomatch z) h
 | flt y => obtain ⟨t, q⟩ := (show ∃ t, u = Value.float y t from rx); cases q; exact PySem.W.kia_one PySem.W.kitx_float I.kIn True.intro e (fun z => nomatch z) h
 | @lst a xs ea =>
  cases (show u = Value.ref a from rx)
  obtain ⟨_, _, n, _, h1⟩ := (show ObjOk X.prog X.w H s.heap a (.lst xs) from I.hok a _ ea)
  exact PySem.W.kia_one PySem.W.kitx_list I.kIn ⟨_, h1, rfl⟩ e (fun z => nomatch z) h
 | @frz a ob xs ea =>
  cases (show u = Value.ref a from rx)
  obtain ⟨_, _, _, n, _, h1⟩ := (show ObjOk X.prog X.w H s.heap a (.frz ob (.lst xs)) from I.hok a _ ea)
  exact PySem.W.kia_one PySem.W.kitx_list I.kIn ⟨_, h1, rfl⟩ e (fun z => nomatch z) h
 | @tup a xs ea =>
  cases (show u = Value.ref a from rx)
  obtain ⟨_, _, _, p⟩ := (show ObjOk X.prog X.w H s.heap a (.tup xs) from I.hok a _ ea)
  obtain ⟨o, h1, h2, _⟩ := p
  exact PySem.W.kia_one PySem.W.kitx_tuple I.kIn ⟨o, h1, h2⟩ e (fun z => nomatch z) h
 | @dK a kvs ea =>
  cases (show u = Value.ref a from rx)
  obtain ⟨_, _, vs, _, p⟩ := (show ObjOk X.prog X.w H s.heap a (.dK kvs) from I.hok a _ ea)
  obtain ⟨o, es, ep, h1, h2, _⟩ := p
  exact PySem.W.kia_one PySem.W.kitx_dict I.kIn ⟨o, h1, h2.1⟩ e (fun z => nomatch z) h
 | @dT a kvs ea =>
  cases (show u = Value.ref a from rx)
  obtain ⟨_, _, xs, _, o, es, ep, h1, h2, _⟩ := (show ObjOk X.prog X.w H s.heap a (.dT kvs) from I.hok a _ ea)
  exact PySem.W.kia_one PySem.W.kitx_dict I.kIn ⟨o, h1, h2.1⟩ e (fun z => nomatch z) h
 | @ins a C dx fs ea cl ha hn htk hm =>
  cases (show u = Value.ref a from rx)
  obtain ⟨mA, O, _⟩ := lqK I.hok ea
  obtain ⟨od, J, _⟩ := O.look
  exact PySem.W.kia_one (PySem.W.kitx_own (cl.get _) cl.hd ha hn htk hm) I.kIn J e (fun z => nomatch z) h
end
end L2
namespace L2
open PySem PySem.Spec PyProof.Rows
structure Room (k : Nat) (A : Around) : Prop where
 hd : A.handled = none
 dp : A.depth + 3 * k + 5 < recursionLimit
 un : A.units + 16 * k + 200 < cLine
theorem Room.mono {j k : Nat} {A : Around} (r : Room k A) (h : j ≤ k) : Room j A := ⟨r.hd, by have := r.dp; omega, by have := r.un; omega⟩
theorem Room.deeper {k : Nat} {A : Around} (r : Room (k + 1) A) (env : Env) : Room k (A.deeper env) :=
 ⟨r.hd, by have := r.dp; show A.depth + 1 + 3 * k + 5 < _; omega, by have := r.un; show A.units + 3 + 16 * k + 200 < _; omega⟩
theorem pqb {A : Around} {C : Addr} {us : List Value} {kw : List (Str × Value)} : (A.under (.builtin "type.__call__" ⟨.ref C :: us, kw⟩)).depth = A.depth + 1 := by
 first | rfl | simp [Around.under, Code.weight, Code.isCreation, Code.isGuard, Code.isCaller, Code.frames, Code.isFrame, guardIds]
theorem pqg {A : Around} {C : Addr} {us : List Value} {kw : List (Str × Value)} : (A.under (.builtin "type.__call__" ⟨.ref C :: us, kw⟩)).units = A.units + 1 := by
 first | rfl | simp [Around.under, Code.cUnits, Code.frames, Code.isFrame]
theorem Room.make {k : Nat} {A : Around} (r : Room (k + 1) A) (C : Addr) (us : List Value) (kw : List (Str × Value)) : Room k (A.under (.builtin "type.__call__" ⟨.ref C :: us, kw⟩)) :=
 ⟨r.hd, by have := r.dp; rw [pqb]; omega, by have := r.un; rw [pqg]; omega⟩
theorem Room.depth {k : Nat} {A : Around} (r : Room k A) : A.depth < recursionLimit := by have := r.dp; omega
theorem Room.units {k : Nat} {A : Around} (r : Room k A) : A.units + 64 < cLine := by have := r.un; omega
def tNil : TA := fun _ H Q => Q [] H
def tCons (ta : TE) (tr : TA) : TA := fun σ H Q => ta σ H fun x H1 => tr σ H1 fun xs H2 => Q (x :: xs) H2
section
variable {X : Cx} {e : Expr} {es : List Expr} {te : TE} {t : TA} {pos : Pos}
theorem aqb : PA X [] tNil := fun _ _ _ _ H Q I h => Calls.spliced_nil ⟨[], H, I, .nil, h⟩
theorem aqa (ha : PE X e te) (hr : PA X es t) (hs : starEach (e :: es) X.env = (false, eval e X.env) :: starEach es X.env := by rfl) : PA X (e :: es) (tCons te t) := by
 intro pos pins s σ H Q I h
 rw [hs]
 show wpAny _ _ (spliced ((false, eval e X.env) :: backTo pos (starEach es X.env))) _ _ s
 refine Calls.spliced_cons (thn (ha pins s σ H _ I h) fun u s1 ⟨x, H1, I1, r1, q1⟩ => ?_)
 exact thn (hr pos pins s1 σ H1 _ I1 q1) fun us s2 ⟨xs, H2, I2, r2, q2⟩ => ⟨x :: xs, H2, I2, .cons r1 r2, q2⟩
def tTup (t : TA) : TE := fun σ H Q => t σ H fun xs H1 => xs.length ≤ sizeLine ∧ ∀ p, H1 p = none → Q (.ref p) (upd H1 p (.tup xs))
def tLst (t : TA) : TE := fun σ H Q => t σ H fun xs H1 => xs.length ≤ sizeLine ∧ ∀ p, H1 p = none → Q (.ref p) (upd H1 p (.lst xs))
theorem oqR {x1} (h : PA X es t) : PE X (.Tuple es x1 pos) (tTup t) := by
 intro pins s σ H Q I hq
 refine wpAny_Tuple_spliced (thn (h pos pins s σ H _ I hq) fun us s1 ⟨xs, H1, I1, r, z, q⟩ => ⟨by rw [← r.length]; exact z, ?_⟩)
 have hf : H1 s1.heap.objs.size = none := I1.hok.fresh (Nat.le_refl _)
 refine ⟨.ref s1.heap.objs.size, upd H1 s1.heap.objs.size (.tup xs), I1.laid (t' := s1.toks) (fun b u e => Heap.get?_push_of_some _ e) (Nat.le_refl _) ?_, rfl, q _ hf⟩
 exact ⟨z, us, r, ⟨_, Heap.get?_push_size _ rfl, rfl, _, rfl⟩⟩
theorem hqg (h : PA X es t) : PE X (.List es pos) (tLst t) := by
 intro pins s σ H Q I hq
 refine wpAny_List_spliced (thn (h pos pins s σ H _ I hq) fun us s1 ⟨xs, H1, I1, r, z, q⟩ => ⟨by rw [← r.length]; exact z, ?_⟩)
 have hf : H1 s1.heap.objs.size = none := I1.hok.fresh (Nat.le_refl _)
 refine ⟨.ref s1.heap.objs.size, upd H1 s1.heap.objs.size (.lst xs), I1.laid (t' := s1.toks) (fun b u e => Heap.get?_push_of_some _ e) (Nat.le_refl _) ?_, rfl, q _ hf⟩
 exact ⟨z, us, 0, r, Heap.get?_push_size _ rfl⟩
end
abbrev Sp := List V → Hp → VK → XK → Prop
abbrev CXT := List Env → Hp → Shared → XK → Value → Shared → Prop
structure Env0 (P : Program) (w : World) (K : PySem.W.Frag) (mg : Str → Option Value) (base : Heap) (A : Around) (outer : List Env) (s : Shared) (H : Hp) : Prop where
 frames : A.frames = some outer
 mod : Mod K mg base
 bs : ∀ b o, base.get? b = some o → s.heap.get? b = some o ∧ H b = none
 bsz : base.objs.size ≤ s.heap.objs.size
 funs : s.heap.FunFrames base outer
 frf : ∀ b ∈ frs outer, H b = none
 hok : HOk P w H s.heap
 bare : AllBare s.gens
def CE (outer : List Env) (P : Program) (w : World) (H : Hp) (s : Shared) (Q : VK) (u : Value) (s' : Shared) : Prop :=
 ∃ v H', s'.os = s.os ∧ AllBare s'.gens ∧ Un (frs outer) [] H H' s.heap s'.heap ∧ HOk P w H' s'.heap ∧ RelV v u ∧ Q v H'
def CR (CX : CXT) (outer : List Env) (P : Program) (w : World) (H : Hp) (s : Shared) (Q : VK) (E : XK) (r : Result) (s' : Shared) : Prop :=
 match r with
 | .ok (.ret u) => CE outer P w H s Q u s'
 | .ok _ => False
 | .error e => CX outer H s E e s'
structure FnOk (P : Program) (w : World) (K : PySem.W.Frag) (mg : Str → Option Value) (base : Heap) (CX : CXT) (k : Nat) (f : Addr) (fd : FuncData) (ps : List Str) (sp : Sp) : Prop where
 len : ∀ vs H Q E, sp vs H Q E → vs.length = ps.length
 run : ∀ (A : Around) (outer : List Env) (s : Shared) (H : Hp) (args : Args) (us : List Value) (vs : List V) (Q : VK) (E : XK), Room k A → Env0 P w K mg base A outer s H → BindsTo s fd args (ps.zip us) → Vals vs us → sp vs H Q E →
  codeAny (model P w) A (.call (.ref f) args) (CR CX outer P w H s Q E) s
theorem Env0.make {P : Program} {w : World} {K : PySem.W.Frag} {mg : Str → Option Value} {base : Heap} {A : Around} {outer : List Env} {s : Shared} {H : Hp} (e : Env0 P w K mg base A outer s H) (C : Addr) (us : List Value) (kw : List (Str × Value)) :
  Env0 P w K mg base (A.under (.builtin "type.__call__" ⟨.ref C :: us, kw⟩)) outer s H := ⟨by first | exact e.frames | (simpa [Around.under, Code.envs, Code.isFrame, pushEnvs] using e.frames), e.mod, e.bs, e.bsz, e.funs, e.frf, e.hok, e.bare⟩
section
variable {X : Cx} {pins : List (Addr × Obj)} {σ : St} {H : Hp} {s s' : Shared}
theorem Inv.env0 (I : Inv X pins σ H s) : Env0 X.prog X.w X.K X.mg X.base X.A X.stack s H :=
 ⟨I.ok.frames, I.ok.mod, I.bs, Nat.le_trans I.ok.bsz I.sz, I.stack, I.stkFree, I.hok, I.bare⟩
theorem Inv.after {Q : VK} {u : Value} (I : Inv X pins σ H s) (h : CE X.stack X.prog X.w H s Q u s') : EP X pins σ Q u s' := by
 obtain ⟨v, H', os, bare, un, hok, r, q⟩ := h
 obtain ⟨hh, g, d, t, os'⟩ := s'
 obtain rfl : os' = s.os := os
 exact ⟨v, H', I.call (h' := hh) (g' := g) (d' := d) (t' := t) (ch := []) un hok bare (fun b z => absurd z (by simp)), r, q⟩
end
def tCall (sp : Sp) (dvs : List V) (E : XK) (t : TA) : TE := fun σ H Q => t σ H fun vs H1 => sp (vs ++ dvs) H1 Q E
def tMeth (C : Addr) (m : Str) (sp : Sp) (dvs : List V) (E : XK) (ta : TE) (t : TA) : TE := fun σ H Q => ta σ H fun x H1 => ∃ a dx fs, x = .ref a ∧ H1 a = some (.ins C dx fs) ∧ fs.lookup m = none ∧
 t σ H1 fun vs H2 => sp (x :: (vs ++ dvs)) H2 Q E
def tMake (C : Addr) (sp : Sp) (dvs : List V) (E : XK) (t : TA) : TE := fun σ H Q => t σ H fun vs H1 => ∀ x dx, H1 x = none → H1 dx = none → dx ≠ x →
 sp (.ref x :: (vs ++ dvs)) (upd (upd H1 dx (.own x)) x (.ins C dx [])) (fun v H2 => v = .non ∧ Q (.ref x) H2) E
def Binds (K : PySem.W.Frag) (fd : FuncData) (ps : List Str) (ds : List Value) : Prop :=
 ∀ (s : Shared) (us : List Value), K.In s.heap → (us ++ ds).length = ps.length → BindsTo s fd ⟨us, []⟩ (ps.zip (us ++ ds))
theorem Binds.all {K : PySem.W.Frag} {fd : FuncData} {ps : List Str} (h : ∀ us : List Value, us.length = ps.length → bindArgs fd ⟨us, []⟩ = pure (ps.zip us)) : Binds K fd ps [] := fun s us _ hl => by
 rw [List.append_nil] at hl ⊢
 exact .of_eq (h us hl)
def Passes (CX : CXT) (X : Cx) (E : XK) : Prop := ∀ (pins : List (Addr × Obj)) (σ : St) (H : Hp) (s : Shared) (e : Value) (s' : Shared), Inv X pins σ H s → CX X.stack H s E e s' → X.xe e s'
section
variable {X : Cx} {CX : CXT} {k : Nat} {f C : Addr} {fd : FuncData} {ps : List Str} {sp : Sp} {dvs : List V} {ds : List Value} {E : XK} {x m : Str} {p pos apos : Pos} {e o : Expr} {es : List Expr} {ta : TE} {t : TA}
theorem oqk {pins : List (Addr × Obj)} {σ : St} {H : Hp} {s : Shared} {Q : VK} {us : List Value} {vs : List V} (F : FnOk X.prog X.w X.K X.mg X.base CX k f fd ps sp) (hr : Room k X.A) (hb : Binds X.K fd ps ds) (hd : Vals dvs ds) (hx : Passes CX X E)
  (I : Inv X pins σ H s) (r : Vals vs us) (h : sp (vs ++ dvs) H Q E) : wpAny (model X.prog X.w) X.A (call (.ref f) us) (EP X pins σ Q) X.xe s := by
 have r2 : Vals (vs ++ dvs) (us ++ ds) := r.append hd
 have hl : (us ++ ds).length = ps.length := by rw [← r2.length]; exact F.len _ _ _ _ h
 refine wpAny_call (codeAny_mono (F.run X.A X.stack s H ⟨us, []⟩ (us ++ ds) (vs ++ dvs) Q E hr I.env0 (hb s us I.kIn hl) r2 h) fun r s' hq => ?_)
 cases r with
 | error e => exact hx pins σ H s e s' I hq
 | ok fl =>
  cases fl with
  | ret u => exact I.after hq
  | next => exact False.elim hq
  | brk => exact False.elim hq
  | cont => exact False.elim hq
theorem aqe (F : FnOk X.prog X.w X.K X.mg X.base CX k f fd ps sp) (hr : Room k X.A) (hg : Gl X x) (hm : X.mg x = some (.ref f)) (hk : PySem.W.keepIn X.K (.ref f) = true) (hb : Binds X.K fd ps ds) (hd : Vals dvs ds) (hx : Passes CX X E)
  (ha : PA X (e :: es) t) (hdb : (x == ("__debug__" : Str)) = false := by decide) (he : starEach (e :: es) X.env = (false, eval e X.env) :: starEach es X.env := by rfl) (hpl : (backTo pos (starEach es X.env)).any (·.1) = false := by rfl) :
  PE X (.Call (.Name x p) (e :: es) [] pos) (tCall sp dvs E t) := by
 intro pins s σ H Q I h
 refine wpAny_Call_Name_kw (gqs I hg hm ?_ hdb)
 refine PySem.W.callWith_K (h₀ := X.base) I.ok.mod.kin hk (thn (ha pos pins s σ H _ I h) fun us s1 ⟨vs, H1, I1, r, q⟩ => ⟨I1.kIn, ?_⟩) he hpl
 exact oqk F hr hb hd hx I1 r q
theorem lqT (F : FnOk X.prog X.w X.K X.mg X.base CX k f fd ps sp) (hr : Room k X.A) (hg : Gl X x) (hm : X.mg x = some (.ref f)) (hk : PySem.W.keepIn X.K (.ref f) = true) (hb : Binds X.K fd ps ds) (hd : Vals dvs ds) (hx : Passes CX X E)
  (hdb : (x == ("__debug__" : Str)) = false := by decide) : PE X (.Call (.Name x p) [] [] pos) (tCall sp dvs E tNil) := by
 intro pins s σ H Q I h
 refine wpAny_Call_Name_kw (gqs I hg hm ?_ hdb)
 exact PySem.W.callWith_K0 I.kIn hk (oqk (us := []) F hr hb hd hx I .nil h)
theorem cqP {pl : Sem Bool} (he : PE X o ta) (c : Cls X.K C) (hm : Meth X.K C m f) (F : FnOk X.prog X.w X.K X.mg X.base CX k f fd ps sp) (hr : Room k X.A) (hb : Binds X.K fd ps ds) (hd : Vals dvs ds) (hx : Passes CX X E) (ha : PA X (e :: es) t)
  (hst : starEach (e :: es) X.env = (false, eval e X.env) :: starEach es X.env := by rfl) (hpl : (backTo pos (starEach es X.env)).any (·.1) = false := by rfl)
  (ht : eval (.Call (.Attribute o m apos) (e :: es) [] pos) X.env = (do
   let ov ← eval o X.env
   standAt apos.atName
   let (f, first) ← holding [ov] (getMethod ov m pl)
   callWith pos f first (backTo pos (starEach (e :: es) X.env)) (backToKw pos (keywordEach [] X.env))) := by rfl) :
  PE X (.Call (.Attribute o m apos) (e :: es) [] pos) (tMeth C m sp dvs E ta t) := by
 intro pins s σ H Q I h
 refine PySem.W.methodCall_KW (pl := pl) (thn (he pins s σ H _ I h) fun u s1 ⟨x, H1, I1, rx, a, dx, fs, ex, ea, l, q⟩ => ?_) ht
 subst ex
 obtain rfl : u = Value.ref a := rx
 refine iqL I1 ea c hm l ?_
 refine PySem.W.callWith_K (first := [.ref a]) (h₀ := X.base) I.ok.mod.kin hm.kp (thn (ha pos pins s1 σ H1 _ I1 q) fun us s2 ⟨vs, H2, I2, r, q2⟩ => ⟨I2.kIn, ?_⟩) hst hpl
 exact oqk (us := .ref a :: us) (vs := .ref a :: vs) F hr hb hd hx I2 (.cons rfl r) q2
theorem fqy {pl : Sem Bool} (he : PE X o ta) (c : Cls X.K C) (hm : Meth X.K C m f) (F : FnOk X.prog X.w X.K X.mg X.base CX k f fd ps sp) (hr : Room k X.A) (hb : Binds X.K fd ps ds) (hd : Vals dvs ds) (hx : Passes CX X E)
  (ht : eval (.Call (.Attribute o m apos) [] [] pos) X.env = (do
   let ov ← eval o X.env
   standAt apos.atName
   let (f, first) ← holding [ov] (getMethod ov m pl)
   callWith pos f first (backTo pos (starEach [] X.env)) (backToKw pos (keywordEach [] X.env))) := by rfl) :
  PE X (.Call (.Attribute o m apos) [] [] pos) (tMeth C m sp dvs E ta tNil) := by
 intro pins s σ H Q I h
 refine PySem.W.methodCall_KW (pl := pl) (thn (he pins s σ H _ I h) fun u s1 ⟨x, H1, I1, rx, a, dx, fs, ex, ea, l, q⟩ => ?_) ht
 subst ex
 obtain rfl : u = Value.ref a := rx
 refine iqL I1 ea c hm l ?_
 exact PySem.W.callWith_K0 (first := [.ref a]) I1.kIn hm.kp (oqk (us := [.ref a]) (vs := [.ref a]) F hr hb hd hx I1 (.cons rfl .nil) q)
structure Mk (K : PySem.W.Frag) (C f : Addr) : Prop where
 makes : PySem.W.makesIn K C = true
 init : PySem.W.findIn K (.ref C) "__init__" = some (some (.ref f))
 fn : PySem.W.isFn K (.ref f) = true
 kp : PySem.W.keepIn K (.ref C) = true
theorem rqh {pins : List (Addr × Obj)} {σ : St} {H : Hp} {s : Shared} {Q : VK} {us : List Value} {vs : List V} (M : Mk X.K C f) (F : FnOk X.prog X.w X.K X.mg X.base CX k f fd ps sp) (hr : Room (k + 1) X.A) (hb : Binds X.K fd ps ds) (hd : Vals dvs ds)
  (hx : Passes CX X E) (I : Inv X pins σ H s) (r : Vals vs us)
  (h : ∀ x dx, H x = none → H dx = none → dx ≠ x → sp (.ref x :: (vs ++ dvs)) (upd (upd H dx (.own x)) x (.ins C dx [])) (fun v H2 => v = .non ∧ Q (.ref x) H2) E) :
  wpAny (model X.prog X.w) X.A (call (.ref C) us) (EP X pins σ Q) X.xe s := by
 have hq := h (s.heap.objs.size + 1) s.heap.objs.size (I.hok.fresh (Nat.le_succ _)) (I.hok.fresh (Nat.le_refl _)) (Nat.ne_of_lt (Nat.lt_succ_self _))
 have I2 := Inv.made (C := C) I
 have r2 : Vals (V.ref (s.heap.objs.size + 1) :: (vs ++ dvs)) (Value.ref (s.heap.objs.size + 1) :: (us ++ ds)) := .cons rfl (r.append hd)
 have hl : (Value.ref (s.heap.objs.size + 1) :: us ++ ds).length = ps.length := by
  have e := r2.length
  rw [F.len _ _ _ _ hq] at e
  exact e.symm
 refine wpAny_call (sqe (f := f) I.kIn M.makes M.init (beq_iff_eq.mp M.fn) (codeAny_mono (F.run _ X.stack _ _ ⟨Value.ref (s.heap.objs.size + 1) :: us, []⟩ (Value.ref (s.heap.objs.size + 1) :: (us ++ ds)) _ _ E (hr.make C us [])
  (I2.env0.make C us []) (hb _ (Value.ref (s.heap.objs.size + 1) :: us) I2.kIn hl) r2 hq) fun r s' hq' => ?_))
 cases r with
 | error e => exact hx pins σ _ _ e s' I2 hq'
 | ok fl =>
  cases fl with
  | ret u =>
   obtain ⟨v, H', I3, rv, ev, q3⟩ := I2.after hq'
   subst ev
   exact ⟨rv, ⟨V.ref (s.heap.objs.size + 1), H', I3, rfl, q3⟩⟩
  | next => exact False.elim hq'
  | brk => exact False.elim hq'
  | cont => exact False.elim hq'
theorem tqp (M : Mk X.K C f) (F : FnOk X.prog X.w X.K X.mg X.base CX k f fd ps sp) (hr : Room (k + 1) X.A) (hg : Gl X x) (hm : X.mg x = some (.ref C)) (hb : Binds X.K fd ps ds) (hd : Vals dvs ds) (hx : Passes CX X E)
  (ha : PA X (e :: es) t) (hdb : (x == ("__debug__" : Str)) = false := by decide) (he : starEach (e :: es) X.env = (false, eval e X.env) :: starEach es X.env := by rfl) (hpl : (backTo pos (starEach es X.env)).any (·.1) = false := by rfl) :
  PE X (.Call (.Name x p) (e :: es) [] pos) (tMake C sp dvs E t) := by
 intro pins s σ H Q I h
 refine wpAny_Call_Name_kw (gqs I hg hm ?_ hdb)
 refine PySem.W.callWith_K (h₀ := X.base) I.ok.mod.kin M.kp (thn (ha pos pins s σ H _ I h) fun us s1 ⟨vs, H1, I1, r, q⟩ => ⟨I1.kIn, ?_⟩) he hpl
 exact rqh M F hr hb hd hx I1 r q
end
section
variable {X : Cx} {CX : CXT} {k : Nat} {f C : Addr} {fd : FuncData} {ps ks : List Str} {sp : Sp} {E : XK} {x m : Str} {p pos apos kpos : Pos} {e o : Expr} {es : List Expr} {kws : List Keyword} {te ta : TE} {t tk : TA} {nm : Option Str}
structure KBinds (K : PySem.W.Frag) (fd : FuncData) (ps ks : List Str) (g : List Value → List Value → List Value) (gV : List V → List V → List V) : Prop where
 to : ∀ (s : Shared) (us ws : List Value), K.In s.heap → (g us ws).length = ps.length → BindsTo s fd ⟨us, ks.zip ws⟩ (ps.zip (g us ws))
 rel : ∀ {vs : List V} {us : List Value} {zs : List V} {ws : List Value}, Vals vs us → Vals zs ws → Vals (gV vs zs) (g us ws)
variable {g : List Value → List Value → List Value} {gV : List V → List V → List V}
end
structure FnScope (N P : List Str) (sc : Scope) : Prop where
 kind : sc.kind = .function
 co : sc.isCoroutine = false
 gen : sc.isGenerator = false
 nd : N.Nodup
 pre : N.take P.length = P
 par : ∀ x ∈ P, sc.names.lookup x = some .local ∨ sc.names.lookup x = some .cell
 nofree : ∀ y ∈ sc.names, y.2 ≠ .free
theorem mqJ {kindOf : Str → Option NameKind} {x : Str} : ∀ {binds : List (Str × Value)} {m : Str → Option Value}, (∀ v, (x, v) ∉ binds) → bindL kindOf binds m x = m x
 | [], _, _ => rfl
 | (n, v) :: r, m, h => by
  unfold bindL
  rw [mqJ fun w hw => h w (List.mem_cons_of_mem _ hw)]
  split
  ·have : x ≠ n := by rintro rfl; exact h v List.mem_cons_self
   simp [this]
  ·rfl
theorem mqo {kindOf : Str → Option NameKind} {x : Str} : ∀ {binds : List (Str × Value)} {m : Str → Option Value}, (∀ v, (x, v) ∉ binds) → bindC kindOf binds m x = m x
 | [], _, _ => rfl
 | (n, v) :: r, m, h => by
  unfold bindC
  rw [mqo fun w hw => h w (List.mem_cons_of_mem _ hw)]
  split
  ·rfl
  ·have : x ≠ n := by rintro rfl; exact h v List.mem_cons_self
   simp [this]
theorem mqk {kindOf : Str → Option NameKind} {x : Str} {v : Value} : ∀ {P : List Str} {vs : List Value} {i : Nat} {m : Str → Option Value}, P.Nodup → P[i]? = some x → vs[i]? = some v → kindOf x = some .local →
  bindL kindOf (P.zip vs) m x = some v
 | [], _, _, _, _, h, _, _ => by simp at h
 | _ :: _, [], _, _, _, _, h, _ => by simp at h
 | p :: P, w :: vs, 0, m, nd, h1, h2, hk => by
  simp at h1 h2; subst h1; subst h2
  show bindL kindOf ((p, w) :: P.zip vs) m p = _
  unfold bindL
  rw [mqJ fun v hv => (List.nodup_cons.mp nd).1 (List.of_mem_zip hv).1, if_pos hk]
  simp
 | p :: P, w :: vs, i + 1, m, nd, h1, h2, hk => by
  show bindL kindOf ((p, w) :: P.zip vs) m x = _
  unfold bindL
  exact mqk (i := i) (List.nodup_cons.mp nd).2 (by simpa using h1) (by simpa using h2) hk
theorem nqg {kindOf : Str → Option NameKind} {x : Str} {v : Value} : ∀ {P : List Str} {vs : List Value} {i : Nat} {m : Str → Option Value}, P.Nodup → P[i]? = some x → vs[i]? = some v → kindOf x ≠ some .local →
  bindC kindOf (P.zip vs) m x = some v
 | [], _, _, _, _, h, _, _ => by simp at h
 | _ :: _, [], _, _, _, _, h, _ => by simp at h
 | p :: P, w :: vs, 0, m, nd, h1, h2, hk => by
  simp at h1 h2; subst h1; subst h2
  show bindC kindOf ((p, w) :: P.zip vs) m p = _
  unfold bindC
  rw [mqo fun v hv => (List.nodup_cons.mp nd).1 (List.of_mem_zip hv).1, if_neg hk]
  simp
 | p :: P, w :: vs, i + 1, m, nd, h1, h2, hk => by
  show bindC kindOf ((p, w) :: P.zip vs) m x = _
  unfold bindC
  exact nqg (i := i) (List.nodup_cons.mp nd).2 (by simpa using h1) (by simpa using h2) hk
def start (N : List Str) (vs : List V) : St := vs.map some ++ List.replicate (N.length - vs.length) none
def cxOf (CX : CXT) (P : Program) (w : World) (K : PySem.W.Frag) (mg : Str → Option Value) (base : Heap) (N : List Str) (qual : Str) (scope : Scope) (f : Addr) (cd : Value) (A : Around) (outer : List Env) (s : Shared) (H : Hp) (E : XK) : Cx where
 prog := P
 w := w
 K := K
 mg := mg
 base := base
 A := A.deeper (envOfC qual scope s.heap.objs.size f cd)
 N := N
 s₀ := s
 H₀ := H
 env := envOfC qual scope s.heap.objs.size f cd
 outer := outer
 stack := envOfC qual scope s.heap.objs.size f cd :: outer
 ex := []
 calm := true
 fn := fun _ => true
 pn := []
 xe := fun e s' => wpAny (model P w) (A.deeper (envOfC qual scope s.heap.objs.size f cd)) (leaving (envOfC qual scope s.heap.objs.size f cd) e) (fun _ s'' => CX outer H s E e s'') (fun e' s'' => CX outer H s E e' s'') s'
theorem oqn {sc : Scope} {n : Nat} {x : Str} (h : sc.names.lookup x = some .cell) : ∃ c, (cellsFrom n sc.names []).lookup x = some c := by
 have q := PySem.W.cellsFrom_some sc.names n [] (.inl h)
 exact Option.isSome_iff_exists.mp q
theorem nqa {CX : CXT} {P : Program} {w : World} {K : PySem.W.Frag} {mg : Str → Option Value} {base : Heap} {N ps : List Str} {qual : Str} {scope : Scope} {f : Addr} {cd : Value} {A : Around} {outer : List Env} {s s1 : Shared} {H : Hp} {E : XK} {us : List Value} {vs : List V}
  (S : FnScope N ps scope) (hd : A.handled = none) (e0 : Env0 P w K mg base A outer s H) (hl : vs.length = ps.length) (r : Vals vs us)
  (x : InCallC s s.heap.objs.size (bindL (envOfC qual scope s.heap.objs.size f cd).kindOf (ps.zip us) fun _ => none) (cellsFrom (s.heap.objs.size + 1) scope.names []) (bindC (envOfC qual scope s.heap.objs.size f cd).kindOf (ps.zip us) fun _ => none) s1) :
  Inv (cxOf CX P w K mg base N qual scope f cd A outer s H E) [] (start N vs) H s1 := by
 have hpl : ps.length ≤ N.length := by have := congrArg List.length S.pre; rw [List.length_take] at this; omega
 obtain ⟨h1, tk, rfl, hk⟩ := x.done
 have noA : ∀ b : Addr, b ∉ (cxOf CX P w K mg base N qual scope f cd A outer s H E).ex := fun b z => absurd (show b ∈ ([] : List Addr) from z) (by simp)
 refine ⟨⟨e0.mod, S.kind, rfl, rfl, Nat.le_refl _, fun y z c h1 h2 => ?_, fun y hy => ?_, fun y c _ h => ?_, fun _ => hd, Around.frames_deeper e0.frames, .inr ⟨rfl, rfl⟩, fun b z => absurd z (noA b), e0.bs, e0.bsz, fun b _ _ => noA b, fun b z => absurd z (noA b), e0.funs, e0.frf⟩,
  rfl, e0.bare, Un.kept hk, ⟨_, x.toInCall.ns, fun i y v h1 h2 h3 => ?_⟩, fun y c h => ⟨_, x.cell y c h⟩, e0.hok.fresh (Nat.le_refl _), fun y c h => ?_, fun p hp => absurd (show p ∈ ([] : List (Addr × Obj)) from hp) (by simp), e0.hok.kept hk, ?_⟩
 ·exact name_of_addr x.apart (PySem.mem_of_lookup h1) (PySem.mem_of_lookup h2)
 ·have hy : scope.names.lookup y = some .cell ∨ scope.names.lookup y = some .free := hy
  rcases hy with hy | hy
  ·exact oqn hy
  ·exact absurd rfl (S.nofree _ (PySem.mem_of_lookup hy))
 ·exact Nat.le_of_lt (x.above y c (PySem.mem_of_lookup h))
 ·have hi : i < vs.length := by
   unfold start at h2
   by_cases hi : i < vs.length
   ·exact hi
   ·rw [List.getElem?_append_right (by simpa using hi)] at h2
    rw [List.getElem?_replicate] at h2
    split at h2 <;> cases h2
  have ha : vs[i]? = some v := by
   unfold start at h2
   rw [List.getElem?_append_left (by simpa using hi), List.getElem?_map] at h2
   cases e : vs[i]? with
   | none => rw [e] at h2; cases h2
   | some a => rw [e] at h2; cases h2; rfl
  obtain ⟨u, hu, rv⟩ := r.get ha
  have hp : ps[i]? = some y := by
   rw [← S.pre, List.getElem?_take_of_lt (by omega)]; exact h1
  have ndP : ps.Nodup := by rw [← S.pre]; exact S.nd.sublist (List.take_sublist _ _)
  refine ⟨u, rv, ?_⟩
  rcases S.par y (List.mem_of_getElem? hp) with k | k
  ·exact .inl ⟨k, mqk ndP hp hu k⟩
  ·obtain ⟨c, e⟩ := oqn (n := s.heap.objs.size + 1) k
   refine .inr ⟨.inl k, c, e, ?_⟩
   have q := x.cell y c e
   rw [nqg ndP hp hu (by show scope.names.lookup y ≠ _; rw [k]; decide)] at q
   exact q
 ·exact e0.hok.fresh (Nat.le_of_lt (x.above y c (PySem.mem_of_lookup h)))
 ·unfold start
  show _ = N.length
  rw [List.length_append, List.length_map, List.length_replicate]
  omega
theorem uqm {CX : CXT} {P : Program} {w : World} {K : PySem.W.Frag} {mg : Str → Option Value} {base : Heap} {k : Nat} {f : Addr} {name qual : Str} {params : Arguments} {body : List Stmt} {scope : Scope} {dV kV doc pm cdv ct oc : Value} {an od : Option Addr}
  {osl : Array (Option Value)} {N ps : List Str} {sp : Sp} (lk : K.lookup f = some ⟨oc, od, .func (PySem.W.fnOf name qual params body scope dV kV doc pm an cdv ct), osl⟩) (hcd : PySem.W.codeIn K cdv qual = true) (S : FnScope N ps scope)
  (len : ∀ vs H Q E, sp vs H Q E → vs.length = ps.length)
  (hbody : ∀ (A : Around) (outer : List Env) (s : Shared) (H : Hp) (vs : List V) (Q : VK) (E : XK), Room k (A.deeper (envOfC qual scope s.heap.objs.size f cdv)) → sp vs H Q E →
   ∃ t, PSs (cxOf CX P w K mg base N qual scope f cdv A outer s H E) body t ∧ t { nx := fun _ H' => Q .non H', rt := Q } (start N vs) H) :
  FnOk P w K mg base CX (k + 1) f (PySem.W.fnOf name qual params body scope dV kV doc pm an cdv ct) ps sp := by
 refine ⟨len, fun A outer s H args us vs Q E hr e0 hb r hsp => ?_⟩
 have hl := len _ _ _ _ hsp
 have KX : K.In s.heap := e0.mod.kin.keeps fun b o e => (e0.bs b o e).1
 have lim : s.heap.NoLimit := e0.mod.nolimit.keeps fun b o e => (e0.bs b o e).1
 have hkind : ∀ y ∈ ps.zip us, scope.names.lookup y.1 = some .local ∨ (scope.names.lookup y.1 = some .cell ∧ ((cellsFrom (s.heap.objs.size + 1) scope.names []).lookup y.1).isSome = true) := fun ⟨n, v⟩ hy => by
  rcases S.par n (List.of_mem_zip hy).1 with q | q
  ·exact .inl q
  ·exact .inr ⟨q, PySem.W.cellsFrom_some _ _ _ (.inl q)⟩
 refine codeAny_call_function hr.depth (KX _ _ lk) rfl S.co S.gen rfl (PySem.W.codeRec_of KX hcd) (hb _ _ _ _ ?_)
 refine wpAny_newFunctionEnv_cells S.kind hkind fun env he s1 x => ?_
 subst he
 refine ⟨lim.keeps x.toInCall.keep, codeAny_func ?_⟩
 obtain ⟨t, ht, hq⟩ := hbody A outer s H vs Q E (hr.deeper _) hsp
 have I : Inv (cxOf CX P w K mg base N qual scope f cdv A outer s H E) [] (start N vs) H s1 := nqa S hr.hd e0 hl r x
 refine wpAny_mono (ht [] s1 (start N vs) H _ I hq) (fun fl s' hs => ?_) fun e s' hs => hs
 have fin : ∀ {σ' : St} {H' : Hp} {v : V} {u : Value}, Inv (cxOf CX P w K mg base N qual scope f cdv A outer s H E) [] σ' H' s' → RelV v u → Q v H' → CE outer P w H s Q u s' :=
  fun {σ' H' v u} J rv q => ⟨v, H', J.os, J.bare, J.base, J.hok, rv, q⟩
 cases fl with
 | ret u =>
  obtain ⟨v, σ', H', J, rv, q⟩ := hs
  exact fin J rv q
 | next =>
  obtain ⟨σ', H', J, q⟩ := hs
  exact fin (v := V.non) (u := Value.none) J rfl q
 | brk =>
  obtain ⟨_, _, _, q⟩ := hs
  exact False.elim q
 | cont =>
  obtain ⟨_, _, _, q⟩ := hs
  exact False.elim q
end L2
namespace L2
open PySem PySem.Spec PyProof.Rows
section
variable {X : Cx} {x : Str} {p pos : Pos} {e : Expr} {es : List Expr} {t : TA} {id T : String} {r : List V → Hp → VK → Prop}
def tCB (r : List V → Hp → VK → Prop) (t : TA) : TE := fun σ H Q => t σ H fun vs H1 => r vs H1 Q
theorem aqO (hc : CallR X (.builtin id) r) (hg : Gl X x) (hm : X.mg x = none) (hv : bootBuiltins x = some (.builtin id)) (ha : PA X (e :: es) t) (hn : x ≠ "__name__" := by decide) (hdb : (x == ("__debug__" : Str)) = false := by decide)
  (he : starEach (e :: es) X.env = (false, eval e X.env) :: starEach es X.env := by rfl) (hpl : (backTo pos (starEach es X.env)).any (·.1) = false := by rfl) : PE X (.Call (.Name x p) (e :: es) [] pos) (tCB r t) := by
 intro pins s σ H Q I h
 refine wpAny_Call_Name_kw (oqO I hg hm hv ?_ hn hdb)
 exact PyProof.Rows.callWith_builtin1 (thn (ha pos pins s σ H _ I h) fun us s1 ⟨vs, H1, I1, r1, q1⟩ => hc pins s1 σ H1 vs us Q I1 r1 q1) he hpl
theorem bqd (hc : CallR X (.type T) r) (hg : Gl X x) (hm : X.mg x = none) (hv : bootBuiltins x = some (.type T)) (ha : PA X (e :: es) t) (hn : x ≠ "__name__" := by decide) (hdb : (x == ("__debug__" : Str)) = false := by decide)
  (he : starEach (e :: es) X.env = (false, eval e X.env) :: starEach es X.env := by rfl) (hpl : (backTo pos (starEach es X.env)).any (·.1) = false := by rfl) : PE X (.Call (.Name x p) (e :: es) [] pos) (tCB r t) := by
 intro pins s σ H Q I h
 refine wpAny_Call_Name_kw (oqO I hg hm hv ?_ hn hdb)
 exact PyProof.Rows.callWith_type1 (thn (ha pos pins s σ H _ I h) fun us s1 ⟨vs, H1, I1, r1, q1⟩ => hc pins s1 σ H1 vs us Q I1 r1 q1) he hpl
end
end L2
namespace HT
open PySem PyProof.Rows
section
open PySem.SeqAt
open PySem.AutoSeq1 (wpAny_loadPart')
open PySem.MeetsSeq PySem.MeetsSeq2 PySem.MeetsSeq3
end
section
variable {prog : Program} {w : World} {A : Around} {E : Value → Shared → Prop} {s : Shared}
theorem cat_tup {t b : Addr} {vs ws : List Value} {Q : Value → Shared → Prop} (ht : IsTup s.heap t vs.toArray) (hb : IsTup s.heap b ws.toArray) (hv : vs ≠ [])
  (h1 : ws = [] → Q (.ref t) s) (h2 : ws ≠ [] → Q (.ref s.heap.objs.size) { s with heap := s.heap.push { cls := .type "tuple", data := .seq (vs ++ ws).toArray } })
  (hsz : vs.length + ws.length ≤ sizeLine) : wpAny (model prog w) A (binaryOp .Add (.ref t) (.ref b)) Q E s := by
 obtain ⟨⟨cls, dd, data, sl⟩, ho, hc, n, hd⟩ := id ht
 obtain ⟨⟨cls2, dd2, data2, sl2⟩, ho2, hc2, n2, hd2⟩ := id hb
 simp only at hc hd hc2 hd2
 subst hc hd hc2 hd2
 have e : vs.toArray ++ ws.toArray = (vs ++ ws).toArray := by simp
 by_cases hw : ws = []
 ·exact concat_meets ⟨_, ho, rfl⟩ ⟨_, ho2, rfl⟩ noFill_tuple_add seq_tuple_add PySem.F.slot_tuple_add PySem.F.entry_tuple_add (PySem.F.args_tuple_add_2 _ _)
   (tuple_addW1 t b vs.toArray ws.toArray n n2 dd dd2 sl sl2 (by simpa using hv) (by simp [hw])) ⟨ho, ho2, h1 hw⟩
 ·refine concat_meets ⟨_, ho, rfl⟩ ⟨_, ho2, rfl⟩ noFill_tuple_add seq_tuple_add PySem.F.slot_tuple_add PySem.F.entry_tuple_add (PySem.F.args_tuple_add_2 _ _)
   (tuple_addW2 t b vs.toArray ws.toArray n n2 dd dd2 sl sl2 (by simpa using hv) (by simpa using hw) (by rw [List.size_toArray, List.size_toArray]; exact hsz)) ⟨ho, ho2, ?_⟩
  rw [e]
  exact h2 hw
def sIx (n d : Nat) : Option Int → Nat
 | none => d
 | some v => if v < 0 then (v + (n : Int)).toNat else min v.toNat n
theorem wqr (n d : Nat) (hd : d ≤ n) (o : Option Int) : sIx n d o ≤ n := by
 cases o with
 | none => exact hd
 | some v =>
  show (if v < 0 then (v + (n : Int)).toNat else min v.toNat n) ≤ n
  by_cases hv : v < 0
  ·rw [if_pos hv]; omega
  ·rw [if_neg hv]; exact Nat.min_le_right _ _
theorem qqZ (v : Int) (n d : Nat) : (if v < 0 then max (v + (n : Int)) 0 else min v (n : Int)) = ((sIx n d (some v) : Nat) : Int) := by
 show (if v < 0 then max (v + (n : Int)) 0 else min v (n : Int)) = (((if v < 0 then (v + (n : Int)).toNat else min v.toNat n) : Nat) : Int)
 by_cases hv : v < 0
 ·simp only [if_pos hv]; omega
 ·simp only [if_neg hv]; omega
theorem oqU (lo hi : Option Int) (n : Nat) : Builtin.Slice.sliceAdjust lo hi 1 (n : Int) = (((sIx n 0 lo : Nat) : Int), ((sIx n n hi : Nat) : Int)) := by
 have h1 : ¬ ((1 : Int) < 0) := by omega
 unfold Builtin.Slice.sliceAdjust
 simp only [h1, if_false]
 refine Prod.ext ?_ ?_
 ·cases lo with
  | none => rfl
  | some v => exact qqZ v n 0
 ·cases hi with
  | none => rfl
  | some v => exact qqZ v n n
theorem oqV (i j : Nat) : Builtin.Slice.slicePlaces (i : Int) (j : Int) 1 = j - i := by
 unfold Builtin.Slice.slicePlaces
 have h1 : (1 : Int) > 0 := by omega
 simp only [h1, if_true, Int.ediv_one]
 split <;> omega
theorem lqi {v : Value} {o : Option Int} {Q : Option Int → Shared → Prop} (p : IsPart v o) (h : Q o s) : wpAny (model prog w) A (Builtin.Slice.slicePartIndex v) Q E s := by
 cases p with
 | none => exact slicePart_none h
 | int i t => exact slicePart_int h
theorem jqm {sl : Addr} {vl vu : Value} {lo hi : Option Int} {n : Nat} {Q : Int × Int × Nat → Shared → Prop} (hs : s.heap.IsSliceOf sl vl vu .none) (pl : IsPart vl lo) (pu : IsPart vu hi)
  (h : Q (((sIx n 0 lo : Nat) : Int), 1, sIx n n hi - sIx n 0 lo) s) : wpAny (model prog w) A (Builtin.Slice.sliceApplied (.ref sl) (pure (n : Int))) Q E s := by
 obtain ⟨os, hos, hcs, hds⟩ := id hs
 unfold Builtin.Slice.sliceApplied Builtin.Slice.sliceFields
 refine wpAny_bind (wpAny_bind (wpAny_field hos hds (x := vl) rfl (wpAny_bind (wpAny_field hos hds (x := vu) rfl (wpAny_bind (wpAny_field hos hds (x := .none) rfl (wpAny_pure ?_)))))))
 refine wpAny_bind (slicePart_none ?_)
 show wpAny _ _ (if ((1 : Int) == 0) = true then _ else _) _ _ s
 rw [if_neg (by decide)]
 refine wpAny_bind (lqi pl (wpAny_bind (lqi pu (wpAny_bind (wpAny_pure ?_)))))
 show wpAny _ _ (match Builtin.Slice.sliceAdjust lo hi 1 (n : Int) with | (lo, hi) => pure (lo, (1 : Int), Builtin.Slice.slicePlaces lo hi 1)) _ _ s
 rw [oqU lo hi n]
 show wpAny _ _ (pure (((sIx n 0 lo : Nat) : Int), (1 : Int), Builtin.Slice.slicePlaces ((sIx n 0 lo : Nat) : Int) ((sIx n n hi : Nat) : Int) 1)) _ _ s
 rw [oqV]
 exact wpAny_pure h
theorem rqq (xs : Array Value) (i k : Nat) : ((List.range k).filterMap fun (m : Nat) => xs[((i : Int) + (m : Int) * 1).toNat]?).toArray = ((xs.toList.drop i).take k).toArray := by
 have e : (fun (m : Nat) => xs[((i : Int) + (m : Int) * 1).toNat]?) = fun m => xs[i + m]? := by
  funext m
  have : ((i : Int) + (m : Int) * 1).toNat = i + m := by omega
  rw [this]
 rw [e]
 have := pick_run xs i k
 rw [List.filterMap_map] at this
 have e2 : ((fun x => xs[x]?) ∘ fun x => i + x) = fun m => xs[i + m]? := rfl
 rw [e2] at this
 rw [this]
theorem getItem_tuple_cut {t sl : Addr} {items : Array Value} {vl vu : Value} {lo hi : Option Int} {Q : Value → Shared → Prop} (ht : IsTup s.heap t items) (hs : s.heap.IsSliceOf sl vl vu .none) (pl : IsPart vl lo) (pu : IsPart vu hi)
  (hw : ¬ (sIx items.size 0 lo = 0 ∧ sIx items.size items.size hi = items.size))
  (h : Q (.ref s.heap.objs.size) { s with heap := s.heap.push { cls := .type "tuple", data := .seq ((items.toList.drop (sIx items.size 0 lo)).take (sIx items.size items.size hi - sIx items.size 0 lo)).toArray } })
  (hsz : items.size ≤ sizeLine) : wpAny (model prog w) A (getItem (.ref t) (.ref sl)) Q E s := by
 have htake : sizeOk (.seq ((items.toList.drop (sIx items.size 0 lo)).take (sIx items.size items.size hi - sIx items.size 0 lo)).toArray) := by
  show ((items.toList.drop (sIx items.size 0 lo)).take (sIx items.size items.size hi - sIx items.size 0 lo)).toArray.size ≤ sizeLine
  rw [List.size_toArray, List.length_take, List.length_drop, Array.length_toList]
  omega
 have hj : sIx items.size items.size hi ≤ items.size := wqr _ _ (Nat.le_refl _) hi
 obtain ⟨os, hos, hcs, hds⟩ := id hs
 have hTs : s.TypeIs (.ref sl) "slice" := ⟨os, hos, hcs⟩
 unfold getItem
 try with_reducible refine wpAny_holding ?_
 first | refine wpAny_bind (wpAny_pure ?_) | skip
 refine wpAny_bind (wpAny_sequenceKey ht.typeIs (by decide) ?_)
 refine wpAny_bind (wpAny_callSpecial?_slot (name := Str.ofString "__getitem__") ht.typeIs PyProof.Rows.slot_tuple_getitem
  (wpAny_call_entry PyProof.Rows.slot_tuple_getitem ht.typeIs entry_tuple_getitem ?_ (args_tuple_getitem _ _)))
 show wpAny _ _ (Builtin.Tuple.tupleItemsOf (.ref t) >>= _) _ _ s
 refine wpAny_bind (tupleItemsOf_ ht ?_)
 refine wpAny_bind (wpAny_typeOf hTs ?_)
 rw [if_pos (by decide)]
 refine wpAny_bind (jqm hs pl pu ?_)
 have hno : ¬ ((((sIx items.size 0 lo : Nat) : Int) == 0 && (1 : Int) == 1 && (sIx items.size items.size hi - sIx items.size 0 lo) == items.size) = true) := by
  intro q
  rw [Bool.and_eq_true, Bool.and_eq_true] at q
  have q1 : ((sIx items.size 0 lo : Nat) : Int) = 0 := eq_of_beq q.1.1
  have q2 : sIx items.size items.size hi - sIx items.size 0 lo = items.size := eq_of_beq q.2
  exact hw ⟨by omega, by omega⟩
 show wpAny _ _ (if (((sIx items.size 0 lo : Nat) : Int) == 0 && (1 : Int) == 1 && (sIx items.size items.size hi - sIx items.size 0 lo) == items.size) = true then _ else _) _ _ s
 rw [if_neg hno, rqq]
 first
  | exact wpAny_bind (m := Builtin.Tuple.tupleExact _) (wpAny_newObj_type (wpAny_pure ⟨_, rfl, wpAny_pure h⟩) htake)
  | exact wpAny_bind (m := Builtin.Tuple.tupleExact _) (wpAny_newObj_type (wpAny_bind (wpAny_pure (wpAny_pure ⟨_, rfl, wpAny_pure h⟩))) htake)
  | exact wpAny_bind (wpAny_bind (m := Builtin.Tuple.tupleExact _) (wpAny_newObj_type (wpAny_pure (wpAny_pure ⟨_, rfl, wpAny_pure h⟩)) htake))
  | exact wpAny_bind (wpAny_bind (m := Builtin.Tuple.tupleExact _) (wpAny_newObj_type (wpAny_pure ⟨_, rfl, wpAny_pure h⟩) htake))
end
end HT
namespace L2
open PySem PySem.Spec PyProof.Rows
abbrev TO := St → Hp → (Option Int → Hp → Prop) → Prop
def PO (X : Cx) (e : Option Expr) (t : TO) : Prop :=
 ∀ (pins : List (Addr × Obj)) (s : Shared) (σ : St) (H : Hp) (Q : Option Int → Hp → Prop), Inv X pins σ H s → t σ H Q →
  wpAny (model X.prog X.w) X.A (evalPart e X.env) (fun u s' => ∃ o H', Inv X pins σ H' s' ∧ IsPart u o ∧ Q o H') X.xe s
def tNoPart : TO := fun _ H Q => Q none H
def tPart (t : TE) : TO := fun σ H Q => t σ H fun x H1 => ∃ i, x = .int i ∧ Q (some i) H1
section
variable {X : Cx} {e : Expr} {te : TE} {lo hi : Option Expr} {tl th : TO} {pos p2 : Pos}
theorem nqS : PO X none tNoPart := by
 intro pins s σ H Q I h
 rw [evalPart_none]
 exact wpAny_pure ⟨none, H, I, .none, h⟩
theorem hqr (h : PE X e te) : PO X (some e) (tPart te) := by
 intro pins s σ H Q I hw
 rw [evalPart_some]
 refine thn (h pins s σ H _ I hw) fun u s1 ⟨x, H1, I1, r1, q1⟩ => ?_
 obtain ⟨i, rfl, q⟩ := q1
 obtain ⟨t, rfl⟩ := r1
 exact ⟨some i, H1, I1, .int i t, q⟩
def SlR (X : Cx) (r : V → Option Int → Option Int → Hp → VK → Prop) : Prop :=
 ∀ (pins : List (Addr × Obj)) (s : Shared) (σ : St) (H : Hp) (x : V) (v vl vu : Value) (lo hi : Option Int) (sl : Addr) (Q : VK), Inv X pins σ H s → RelV x v → s.heap.IsSliceOf sl vl vu .none → IsPart vl lo → IsPart vu hi → r x lo hi H Q →
  ∃ T id, typeLookup (.type T) "__getitem__" = pure (some (.builtin id)) ∧ s.TypeIs v T ∧ wpAny (model X.prog X.w) X.A (getItem v (.ref sl)) (EP X pins σ Q) X.xe s
theorem SlR.or {r r' : V → Option Int → Option Int → Hp → VK → Prop} (h : SlR X r) (h' : SlR X r') : SlR X (fun x lo hi H Q => r x lo hi H Q ∨ r' x lo hi H Q) := by
 intro pins s σ H x v vl vu lo hi sl Q I rx hs pl pu q
 rcases q with q | q
 ·exact h pins s σ H x v vl vu lo hi sl Q I rx hs pl pu q
 ·exact h' pins s σ H x v vl vu lo hi sl Q I rx hs pl pu q
def tSl (r : V → Option Int → Option Int → Hp → VK → Prop) (te : TE) (tl th : TO) : TE := fun σ H Q => te σ H fun x H1 => tl σ H1 fun l H2 => th σ H2 fun u H3 => r x l u H3 Q
theorem iqc {r : V → Option Int → Option Int → Hp → VK → Prop} (hr : SlR X r) (he : PE X e te) (hl : PO X lo tl) (hu : PO X hi th) : PE X (.Subscript e (.Slice lo hi none p2) pos) (tSl r te tl th) := by
 intro pins s σ H Q I h
 refine Subscript_ (thn (he pins s σ H _ I h) fun v s1 ⟨x, H1, I1, r1, q1⟩ => ?_)
 refine wpAny_Slice (thn (hl pins s1 σ H1 _ I1 q1) fun vl s2 ⟨l, H2, I2, pl, q2⟩ => thn (hu pins s2 σ H2 _ I2 q2) fun vu s3 ⟨u, H3, I3, pu, q3⟩ => ?_)
 rw [evalPart_none]
 refine wpAny_pure ?_
 have I4 : Inv X pins σ H3 { s3 with heap := s3.heap.push { cls := .type "slice", data := .fields #[vl, vu, .none] } } := I3.kept (t' := s3.toks) fun b ob q => Heap.get?_push_of_some _ q
 obtain ⟨T, id, hT, ht, hg⟩ := hr pins { s3 with heap := s3.heap.push { cls := .type "slice", data := .fields #[vl, vu, .none] } } σ H3 x v vl vu l u s3.heap.objs.size Q I4 r1 (Heap.IsSliceOf.new ..) pl pu q3
 show wpAny (model X.prog X.w) X.A (subscriptTail e (.Slice lo hi none p2) v (.ref s3.heap.objs.size)) (EP X pins σ Q) X.xe { s3 with heap := s3.heap.push { cls := .type "slice", data := .fields #[vl, vu, .none] } }
 exact tail_any (ops := [.ref s3.heap.objs.size, v]) ht hT hg (by with_unfolding_all rfl)
def cutV (xs : List V) (lo hi : Option Int) : List V := (xs.drop (HT.sIx xs.length 0 lo)).take (HT.sIx xs.length xs.length hi - HT.sIx xs.length 0 lo)
theorem jqQ (xs : List V) (lo hi : Option Int) : (cutV xs lo hi).length ≤ xs.length := by
 unfold cutV
 rw [List.length_take, List.length_drop]
 omega
def rSlT (K : PySem.W.Frag) : V → Option Int → Option Int → Hp → VK → Prop := fun x lo hi H Q => ∃ a xs, x = .ref a ∧ SqT K H a xs ∧
 ¬ (HT.sIx xs.length 0 lo = 0 ∧ HT.sIx xs.length xs.length hi = xs.length) ∧ ∀ p, H p = none → Q (.ref p) (upd H p (.tup (cutV xs lo hi)))
theorem wqI : SlR X (rSlT X.K) := by
 intro pins s σ H x v vl vu lo hi sl Q I rx hs pl pu h
 obtain ⟨a, xs, rfl, hx, hw, q⟩ := h
 cases rx
 obtain ⟨its, r, ht, hz⟩ := I.tuple hx
 have hlen : its.toArray.size = xs.length := by rw [List.size_toArray]; exact r.length.symm
 refine ⟨"tuple", _, PyProof.Rows.slot_tuple_getitem.lookup, ht.typeIs, ?_⟩
 refine HT.getItem_tuple_cut ht hs pl pu (by rw [hlen]; exact hw) ?_ (by rw [hlen]; exact hz)
 rw [hlen]
 refine ⟨.ref s.heap.objs.size, _, I.laid (t' := s.toks) (o := .tup (cutV xs lo hi)) (fun b ob q => Heap.get?_push_of_some _ q) (Nat.le_refl _) ?_, rfl, q _ (I.hok.fresh (Nat.le_refl _))⟩
 exact ⟨Nat.le_trans (jqQ xs lo hi) hz, _, (r.drop (HT.sIx xs.length 0 lo)).take (HT.sIx xs.length xs.length hi - HT.sIx xs.length 0 lo), IsTup.new _ _⟩
def rCatT (K : PySem.W.Frag) : R2 := fun x y H Q => ∃ a b xs ys, x = .ref a ∧ y = .ref b ∧ SqT K H a xs ∧ SqT K H b ys ∧ xs ≠ [] ∧ xs.length + ys.length ≤ sizeLine ∧
 (ys = [] → Q (.ref a) H) ∧ (ys ≠ [] → ∀ p, H p = none → Q (.ref p) (upd H p (.tup (xs ++ ys))))
theorem Vals.nil_iff {xs : List V} {us : List Value} (r : Vals xs us) : us = [] ↔ xs = [] := by
 cases r with
 | nil => simp
 | cons _ _ => simp
theorem uqY : OpR X (binaryOp .Add) (rCatT X.K) := by
 intro pins s σ H x y v u Q I rx ry h
 obtain ⟨a, b, xs, ys, rfl, rfl, ha, hb, hx, hz, q1, q2⟩ := h
 cases rx
 cases ry
 obtain ⟨its, r1, p1, _⟩ := I.tuple ha
 obtain ⟨its2, r2, p2, _⟩ := I.tuple hb
 refine HT.cat_tup p1 p2 (fun z => hx (r1.nil_iff.mp z)) (fun z => ⟨.ref a, H, I, rfl, q1 (r2.nil_iff.mp z)⟩) (fun z => ?_) (by rw [← r1.length, ← r2.length]; exact hz)
 refine ⟨.ref s.heap.objs.size, _, I.laid (t' := s.toks) (o := .tup (xs ++ ys)) (fun b ob q => Heap.get?_push_of_some _ q) (Nat.le_refl _) ?_, rfl, q2 (fun w => z (r2.nil_iff.mpr w)) _ (I.hok.fresh (Nat.le_refl _))⟩
 exact ⟨by rw [List.length_append]; exact hz, _, r1.append r2, IsTup.new _ _⟩
end
end L2
namespace L2
open PySem PySem.Spec PyProof.Rows
def ixN (n : Nat) (i : Int) : Option Nat := if 0 ≤ i then (if i < n then some i.toNat else none) else if -(n : Int) ≤ i then some (i + n).toNat else none
def atI {α : Type} (xs : List α) (i : Int) : Option α := (ixN xs.length i).bind fun j => xs[j]?
theorem pqN {n : Nat} {i : Int} {j : Nat} (h : ixN n i = some j) : seqIndex? i n = some j ∧ j < n ∧ -(n : Int) ≤ i ∧ i < n := by
 unfold ixN at h
 by_cases h0 : 0 ≤ i
 ·rw [if_pos h0] at h
  by_cases h1 : i < n
  ·rw [if_pos h1] at h
   have e : i.toNat = j := Option.some.inj h
   exact ⟨by rw [seqIndex_of h0 h1, e], by omega, by omega, h1⟩
  ·rw [if_neg h1] at h; cases h
 ·rw [if_neg h0] at h
  by_cases h1 : -(n : Int) ≤ i
  ·rw [if_pos h1] at h
   have e : (i + n).toNat = j := Option.some.inj h
   exact ⟨by rw [seqIndex_neg (by omega) h1, e], by omega, h1, by omega⟩
  ·rw [if_neg h1] at h; cases h
theorem nqu {α : Type} {xs : List α} {i : Int} {v : α} (h : atI xs i = some v) : ∃ j, seqIndex? i xs.length = some j ∧ xs[j]? = some v ∧ j < xs.length ∧ -(xs.length : Int) ≤ i ∧ i < xs.length := by
 unfold atI at h
 cases e : ixN xs.length i with
 | none => rw [e] at h; cases h
 | some j =>
  rw [e] at h
  obtain ⟨h1, h2, h3, h4⟩ := pqN e
  exact ⟨j, h1, h, h2, h3, h4⟩
theorem aqI {α : Type} {xs : List α} {j : Nat} {v : α} (h : xs[j]? = some v) : atI xs (j : Int) = some v := by
 have hj : j < xs.length := (List.getElem?_eq_some_iff.mp h).1
 have e : ixN xs.length (j : Int) = some j := by
  unfold ixN
  rw [if_pos (by omega), if_pos (by omega)]; simp
 unfold atI; rw [e]; exact h
def PlainIx (b : Expr) : Prop := ∀ o i, subscripted b false o i = operate [o, i] (getItem o i)
def IxR (X : Cx) (r : R2) : Prop :=
 ∀ (value slice : Expr) (pins : List (Addr × Obj)) (s : Shared) (σ : St) (H : Hp) (x y : V) (v u : Value) (Q : VK), Inv X pins σ H s → RelV x v → RelV y u → r x y H Q →
  subscripted slice false v u = operate [v, u] (getItem v u) → wpAny (model X.prog X.w) X.A (subscriptTail value slice v u) (EP X pins σ Q) X.xe s
def MtR (X : Cx) (id : String) (r : V → List V → Hp → VK → Prop) : Prop :=
 ∀ (pins : List (Addr × Obj)) (s : Shared) (σ : St) (H : Hp) (x : V) (xs : List V) (v : Value) (us : List Value) (Q : VK), Inv X pins σ H s → RelV x v → Vals xs us → r x xs H Q →
  wpAny (model X.prog X.w) X.A (call (.builtin id) (v :: us)) (EP X pins σ Q) X.xe s
section
variable {X : Cx} {a b : Expr} {ta tb : TE} {pos : Pos}
theorem IxR.or {r r' : R2} (h : IxR X r) (h' : IxR X r') : IxR X (fun x y H Q => r x y H Q ∨ r' x y H Q) := by
 intro value slice pins s σ H x y v u Q I rx ry q hs
 rcases q with q | q
 ·exact h value slice pins s σ H x y v u Q I rx ry q hs
 ·exact h' value slice pins s σ H x y v u Q I rx ry q hs
theorem aq5 {r : R2} (hr : IxR X r) (ha : PE X a ta) (hb : PE X b tb) (hs : PlainIx b) : PE X (.Subscript a b pos) (tOp r ta tb) := by
 intro pins s σ H Q I h
 exact Subscript_ (binT ha hb I h fun v u s2 x y H2 I2 rx ry q => hr a b pins s2 σ H2 x y v u Q I2 rx ry q (hs _ _))
def rIxL (K : PySem.W.Frag) : R2 := fun x y H Q => ∃ p xs i v, x = .ref p ∧ y = .int i ∧ SqL K H p xs ∧ atI xs i = some v ∧ Q v H
def rIxT (K : PySem.W.Frag) : R2 := fun x y H Q => ∃ p xs i v, x = .ref p ∧ y = .int i ∧ SqT K H p xs ∧ atI xs i = some v ∧ Q v H
def rIxS : R2 := fun x y H Q => ∃ z i c, x = .str z ∧ y = .int i ∧ z.length ≤ sizeLine ∧ atI z.cps.toList i = some c ∧ Q (.str ⟨#[c]⟩) H
theorem tqQ : IxR X (rIxL X.K) := by
 intro value slice pins s σ H x y v u Q I rx ry h hs
 obtain ⟨p, xs, i, z, rfl, rfl, hq, he, q⟩ := h
 cases rx
 obtain ⟨t, rfl⟩ := ry
 obtain ⟨its, r, pl, hz⟩ := I.list hq
 obtain ⟨j, h1, h2, h3, h4, h5⟩ := nqu he
 obtain ⟨w, ew, rw'⟩ := r.get h2
 have hl := r.length
 have hn := line63
 have fin : EP X pins σ Q w s := ⟨z, H, I, rw', q⟩
 by_cases h0 : 0 ≤ i
 ·have hj : i.toNat = j := by
   rw [seqIndex_of h0 h5] at h1
   exact Option.some.inj h1
  exact item_listR pl.isList h0 (by omega) (by rw [hj]; simpa using ew) fin hs
 ·have hj : (i + (its.toArray.size : Int)).toNat = j := by
   rw [seqIndex_neg (by omega) h4] at h1
   rw [List.size_toArray, ← hl]
   exact Option.some.inj h1
  exact subscriptTail_builtinR (x := w) pl.isList.typeIs slot_list_getitem.lookup
   (wpAny_getItem_list_neg (Q := fun r s' => r = w ∧ EP X pins σ Q r s') pl.isList (by omega) (by rw [List.size_toArray] <;> omega) (by omega) (by rw [hj]; simpa using ew) ⟨rfl, fin⟩) hs
theorem wqF : IxR X (rIxT X.K) := by
 intro value slice pins s σ H x y v u Q I rx ry h hs
 obtain ⟨p, xs, i, z, rfl, rfl, hq, he, q⟩ := h
 cases rx
 obtain ⟨t, rfl⟩ := ry
 obtain ⟨its, r, pl, hz⟩ := I.tuple hq
 obtain ⟨j, h1, h2, h3, h4, h5⟩ := nqu he
 obtain ⟨w, ew, rw'⟩ := r.get h2
 have hl := r.length
 have hn := line63
 have fin : EP X pins σ Q w s := ⟨z, H, I, rw', q⟩
 exact subscriptTail_builtinR (x := w) pl.typeIs slot_tuple_getitem.lookup
  (getItem_tuple (j := j) (Q := fun r s' => r = w ∧ EP X pins σ Q r s') pl (by omega) (by omega) (by rw [List.size_toArray, ← hl]; exact h1) (by simpa using ew) ⟨rfl, fin⟩) hs
theorem wqW : IxR X rIxS := by
 intro value slice pins s σ H x y v u Q I rx ry h hs
 obtain ⟨z, i, c, rfl, rfl, hz, he, q⟩ := h
 obtain ⟨t, rfl⟩ := rx
 obtain ⟨t', rfl⟩ := ry
 obtain ⟨j, h1, h2, h3, h4, h5⟩ := nqu he
 have hl : z.cps.toList.length = z.length := by simp [Str.length]
 rw [hl] at h1 h4 h5
 have hn := line63
 exact tail_any (typeIs_str s z t) slot_str_getitem.lookup (getItem_str (c := c) (by
  have e1 : decide (i < -(2 ^ 63 : Int)) = false := decide_eq_false (by omega)
  have e2 : decide (i ≥ 2 ^ 63) = false := decide_eq_false (by omega)
  rw [e1, e2, Bool.or_false]) (by rw [h1]; simpa using h2) ⟨.str ⟨#[c]⟩, H, I.tok _, ⟨_, rfl⟩, q⟩) hs
def rIx (K : PySem.W.Frag) : R2 := fun x y H Q => rIxL K x y H Q ∨ rIxT K x y H Q ∨ rIxS x y H Q
theorem wqR : IxR X (rIx X.K) := tqQ.or (wqF.or wqW)
theorem pqp (its : List Value) (n j : Nat) (u : Value) : Obj.mapSeq (·.setIfInBounds j u) { cls := .type "list", data := .seq its.toArray n } = { cls := .type "list", data := .seq (its.set j u).toArray n } := by
 simp [Obj.mapSeq]
theorem Inv.lst {pins : List (Addr × Obj)} {σ : St} {H : Hp} {s : Shared} {p : Addr} {xs : List V} (I : Inv X pins σ H s) (h : H p = some (.lst xs)) :
  ∃ (its : List Value) (n : Nat), Vals xs its ∧ s.heap.get? p = some { cls := .type "list", data := .seq its.toArray n } ∧ xs.length ≤ sizeLine := by
 obtain ⟨z, its, n, r, e⟩ := I.hok p _ h
 exact ⟨its, n, r, e, z⟩
theorem Inv.lstUpd {pins : List (Addr × Obj)} {σ : St} {H : Hp} {s : Shared} {p : Addr} {xs ys : List V} {its its' : List Value} {n n' : Nat} {f : Obj → Obj} (I : Inv X pins σ H s) (h : H p = some (.lst xs))
  (ho : s.heap.get? p = some { cls := .type "list", data := .seq its.toArray n }) (hf : f { cls := .type "list", data := .seq its.toArray n } = { cls := .type "list", data := .seq its'.toArray n' }) (r : Vals ys its') (hz : ys.length ≤ sizeLine) (t : Nat) :
  Inv X pins σ (upd H p (.lst ys)) { s with heap := s.heap.update p f, toks := t } := by
 have e : (s.heap.update p f).get? p = some { cls := .type "list", data := .seq its'.toArray n' } := by
  rw [Heap.get?_update_self f ho (by rw [hf] <;> rfl), hf]
 refine I.write (x := p) (e := p) (by rw [h]; trivial) (.inl rfl) (fun b u hb q => (Heap.get?_update_other _ _ (Ne.symm hb)).trans q) ⟨_, e⟩ ?_
 exact ⟨hz, its', n', r, e⟩
def rSetL : V → V → V → Hp → (Hp → Prop) → Prop := fun o i v H Q => ∃ p xs k j, o = .ref p ∧ i = .int k ∧ H p = some (.lst xs) ∧ ixN xs.length k = some j ∧ Q (upd H p (.lst (xs.set j v)))
theorem nq1 : PSet X rSetL := by
 intro pins s σ H o i v ov iv u Q I ro ri rv h
 obtain ⟨p, xs, k, j, rfl, rfl, hp, hj, q⟩ := h
 cases ro
 obtain ⟨t, rfl⟩ := ri
 obtain ⟨its, n, r, ho, hz⟩ := I.lst hp
 obtain ⟨h1, h2, h3, h4⟩ := pqN hj
 have hl := r.length
 have hn := line63
 have I' : Inv X pins σ (upd H p (.lst (xs.set j v))) { s with heap := s.heap.update p (Obj.mapSeq (·.setIfInBounds j u)) } :=
  I.lstUpd hp ho (pqp its n j u) (r.set rv j) (by rw [List.length_set]; exact hz) s.toks
 by_cases h0 : 0 ≤ k
 ·have hk : k.toNat = j := by
   rw [seqIndex_of h0 h4] at h1
   exact Option.some.inj h1
  exact PySem.W.ki_setAt ho h0 (by omega) (by rw [List.size_toArray, ← hl]; exact h4) (by rw [hk]; exact ⟨_, I', q⟩)
 ·have hk : (k + (its.toArray.size : Int)).toNat = j := by
   rw [seqIndex_neg (by omega) h3] at h1
   rw [List.size_toArray, ← hl]
   exact Option.some.inj h1
  exact PySem.W.ki_setBack ho (by omega) (by rw [List.size_toArray, ← hl]; exact h3) (by omega) (by rw [hk]; exact ⟨_, I', q⟩)
theorem mqf (lo hi : Option Int) (n : Nat) : (sliceBounds lo hi none n).1 = ((HT.sIx n 0 lo : Nat) : Int) ∧ (sliceBounds lo hi none n).2.1 = ((HT.sIx n n hi : Nat) : Int) ∧ (sliceBounds lo hi none n).2.2 = 1 := by
 refine ⟨?_, ?_, rfl⟩
 ·cases lo with
  | none => simp [sliceBounds, HT.sIx]
  | some i =>
   simp only [sliceBounds, HT.sIx, Option.getD_none, show (1 : Int) > 0 by decide, if_true]
   by_cases h : i < 0
   ·simp only [h, if_true] <;> omega
   ·simp only [h, if_false] <;> omega
 ·cases hi with
  | none => simp [sliceBounds, HT.sIx]
  | some i =>
   simp only [sliceBounds, HT.sIx, Option.getD_none, show (1 : Int) > 0 by decide, if_true]
   by_cases h : i < 0
   ·simp only [h, if_true] <;> omega
   ·simp only [h, if_false] <;> omega
theorem lqP (its : List Value) (lo hi : Option Int) : slicePick its.toArray lo hi none = ((its.drop (HT.sIx its.length 0 lo)).take (HT.sIx its.length its.length hi - HT.sIx its.length 0 lo)).toArray := by
 obtain ⟨h1, h2, h3⟩ := mqf lo hi its.toArray.size
 unfold slicePick
 rw [h1, h2, h3]
 simp only [sliceRange_one, pick_run, List.size_toArray] <;> rfl
def rSlL (K : PySem.W.Frag) : V → Option Int → Option Int → Hp → VK → Prop := fun x lo hi H Q => ∃ a xs, x = .ref a ∧ SqL K H a xs ∧ ∀ p, H p = none → Q (.ref p) (upd H p (.lst (cutV xs lo hi)))
theorem uqO : SlR X (rSlL X.K) := by
 intro pins s σ H x v vl vu lo hi sl Q I rx hs pl pu h
 obtain ⟨a, xs, rfl, hx, q⟩ := h
 cases rx
 obtain ⟨its, r, ht, hz⟩ := I.list hx
 have hlen := r.length
 refine ⟨"list", _, slot_list_getitem.lookup, ht.isList.typeIs, ?_⟩
 refine wpAny_getItem_list_slice ht.isList hs pl pu .none (by simp) ?_ (by rw [List.size_toArray] <;> omega)
 rw [lqP, ← hlen]
 refine ⟨.ref s.heap.objs.size, _, I.laid (t' := s.toks) (o := .lst (cutV xs lo hi)) (fun b ob q => Heap.get?_push_of_some _ q) (Nat.le_refl _) ?_, rfl, q _ (I.hok.fresh (Nat.le_refl _))⟩
 exact ⟨Nat.le_trans (jqQ xs lo hi) hz, _, 0, (r.drop (HT.sIx xs.length 0 lo)).take (HT.sIx xs.length xs.length hi - HT.sIx xs.length 0 lo), Heap.get?_push_size _ rfl⟩
def flatV : V → Bool
 | .non => true
 | .bl _ => true
 | .int _ => true
 | .str _ => true
 | _ => false
def eqV : V → V → Bool
 | .non, .non => true
 | .bl a, .bl b => a == b
 | .bl a, .int b => (if a then 1 else 0) == b
 | .int a, .bl b => a == (if b then 1 else 0)
 | .int a, .int b => a == b
 | .str a, .str b => a == b
 | _, _ => false
theorem wq7 {A : Around} {s : Shared} {y x : V} {u v : Value} (ry : RelV y u) (rx : RelV x v) (fy : flatV y = true) (fx : flatV x = true) : SeqAt.EqAt A s u v (eqV y x) := by
 cases y with
 | non =>
  cases ry
  cases x with
  | non => cases rx; exact SeqAt.EqAt.same _
  | bl b => cases rx; exact SeqAt.EqAt.none_bool b
  | int b => obtain ⟨t, rfl⟩ := rx; exact SeqAt.EqAt.none_int b t
  | str b => obtain ⟨t, rfl⟩ := rx; exact SeqAt.EqAt.none_str b t
  | _ => exact absurd (show false = true from fx) Bool.false_ne_true
 | bl a =>
  cases ry
  cases x with
  | non => cases rx; exact SeqAt.EqAt.bool_none a
  | bl b => cases rx; exact SeqAt.EqAt.bool_bool a b
  | int b => obtain ⟨t, rfl⟩ := rx; exact SeqAt.EqAt.bool_int a b t
  | str b => obtain ⟨t, rfl⟩ := rx; exact SeqAt.EqAt.bool_str a b t
  | _ => exact absurd (show false = true from fx) Bool.false_ne_true
 | int a =>
  obtain ⟨t', rfl⟩ := ry
  cases x with
  | non => cases rx; exact SeqAt.EqAt.int_none a t'
  | bl b => cases rx; exact SeqAt.EqAt.int_bool a t' b
  | int b => obtain ⟨t, rfl⟩ := rx; exact SeqAt.EqAt.int_int a t' b t
  | str b => obtain ⟨t, rfl⟩ := rx; exact SeqAt.EqAt.int_str a t' b t
  | _ => exact absurd (show false = true from fx) Bool.false_ne_true
 | str a =>
  obtain ⟨t', rfl⟩ := ry
  cases x with
  | non => cases rx; exact SeqAt.EqAt.str_none a t'
  | bl b => cases rx; exact SeqAt.EqAt.str_bool a t' b
  | int b => obtain ⟨t, rfl⟩ := rx; exact SeqAt.EqAt.str_int a t' b t
  | str b => obtain ⟨t, rfl⟩ := rx; exact SeqAt.EqAt.str_str a t' b t
  | _ => exact absurd (show false = true from fx) Bool.false_ne_true
 | _ => exact absurd (show false = true from fy) Bool.false_ne_true
def eqU (x : V) (u : Value) : Bool := match u with
 | .none => eqV .non x
 | .bool b => eqV (.bl b) x
 | .int i _ => eqV (.int i) x
 | .str z _ => eqV (.str z) x
 | _ => false
theorem sq9 {x y : V} {u : Value} (r : RelV y u) (f : flatV y = true) : eqU x u = eqV y x := by
 cases y with
 | non => cases r; rfl
 | bl b => cases r; rfl
 | int i => obtain ⟨t, rfl⟩ := r; rfl
 | str z => obtain ⟨t, rfl⟩ := r; rfl
 | _ => exact absurd (show false = true from f) Bool.false_ne_true
theorem nqB {x : V} : ∀ {xs : List V} {us : List Value}, Vals xs us → xs.all flatV = true → us.any (eqU x) = xs.any fun y => eqV y x
 | _, _, .nil, _ => rfl
 | y :: xs, u :: us, .cons r t, f => by
  rw [List.all_cons, Bool.and_eq_true] at f
  rw [List.any_cons, List.any_cons, sq9 r f.1, nqB t f.2]
theorem lqq {A : Around} {s : Shared} {x : V} {v : Value} (rx : RelV x v) (fx : flatV x = true) : ∀ {xs : List V} {us : List Value}, Vals xs us → xs.all flatV = true → ∀ u ∈ us, SeqAt.EqAt A s u v (eqU x u)
 | _, _, .nil, _ => fun u hu => by cases hu
 | y :: xs, u :: us, .cons r t, f => fun u' hu => by
  rw [List.all_cons, Bool.and_eq_true] at f
  rcases List.mem_cons.mp hu with rfl | hu
  ·rw [sq9 r f.1]; exact wq7 r rx f.1 fx
  ·exact lqq rx fx t f.2 u' hu
def inV (x : V) (xs : List V) : Bool := xs.any fun y => eqV y x
def rIn (K : PySem.W.Frag) (neg : Bool) : R2 := fun x y H Q => ∃ p xs, y = .ref p ∧ (SqL K H p xs ∨ SqT K H p xs) ∧ flatV x = true ∧ xs.all flatV = true ∧ Q (.bl (if neg then !inV x xs else inV x xs)) H
theorem mqz : OpR X (compareOp .NotIn) (rIn X.K true) := by
 intro pins s σ H x y v u Q I rx ry h
 obtain ⟨p, xs, rfl, hq, fx, fs, q⟩ := h
 cases ry
 rcases hq with hq | hq
 ·obtain ⟨its, r, pl, hz⟩ := I.list hq
  refine SeqAt.notIn_listAt (eqU x) pl.isList (fun w hw => lqq rx fx r fs w (by simpa using hw)) ⟨.bl _, H, I, rfl, ?_⟩
  rw [show its.toArray.any (eqU x) = its.any (eqU x) by simp, nqB r fs]
  exact q
 ·obtain ⟨its, r, pl, hz⟩ := I.tuple hq
  refine SeqAt.notIn_tupleAt (eqU x) pl (fun w hw => lqq rx fx r fs w (by simpa using hw)) ⟨.bl _, H, I, rfl, ?_⟩
  rw [show its.toArray.any (eqU x) = its.any (eqU x) by simp, nqB r fs]
  exact q
theorem nqo : CallR X (.builtin "len") (fun xs H Q => ∃ p ys, xs = [.ref p] ∧ (SqL X.K H p ys ∨ SqT X.K H p ys) ∧ Q (.int ys.length) H) := by
 intro pins s σ H xs us Q I r h
 obtain ⟨p, ys, rfl, hq, q⟩ := h
 obtain ⟨u, rfl, rx⟩ := vals1 r
 cases rx
 have hn := line63
 rcases hq with hq | hq
 ·obtain ⟨its, r', pl, hz⟩ := I.list hq
  have hlen := r'.length
  exact Calls.call_len_list pl.isList (by simp only [List.size_toArray] <;> omega) ⟨.int ys.length, H, I.tok _, ⟨s.toks + 1, by rw [List.size_toArray, hlen]⟩, q⟩
 ·obtain ⟨its, r', pl, hz⟩ := I.tuple hq
  have hlen := r'.length
  exact len_tuple pl (by simp only [List.size_toArray] <;> omega) ⟨.int ys.length, H, I.tok _, ⟨s.toks + 1, by rw [List.size_toArray, hlen]⟩, q⟩
theorem mqr : CallR X (.builtin "len") (fun xs H Q => ∃ z, xs = [.str z] ∧ z.length ≤ sizeLine ∧ Q (.int z.length) H) := by
 intro pins s σ H xs us Q I r h
 obtain ⟨z, rfl, hz, q⟩ := h
 obtain ⟨u, rfl, t, rfl⟩ := vals1 r
 have hn := line63
 exact len_str (by omega) ⟨.int z.length, H, I.tok _, ⟨_, rfl⟩, q⟩
theorem fqM : CallR X (.type "tuple") (fun xs H Q => ∃ p ys, xs = [.ref p] ∧ ((SqL X.K H p ys ∧ ∀ l, H l = none → Q (.ref l) (upd H l (.tup ys))) ∨ (SqT X.K H p ys ∧ Q (.ref p) H))) := by
 intro pins s σ H xs us Q I r h
 obtain ⟨p, ys, rfl, h⟩ := h
 obtain ⟨u, rfl, rx⟩ := vals1 r
 cases rx
 rcases h with ⟨hq, q⟩ | ⟨hq, q⟩
 ·obtain ⟨its, r', pl, hz⟩ := I.list hq
  have hlen := r'.length
  refine call_tuple_list pl.isList (fun h' kp => ?_) (by simp only [List.size_toArray] <;> omega)
  have I1 : Inv X pins σ H { s with heap := h' } := I.kept (t' := s.toks) kp
  have I2 : Inv X pins σ (upd H h'.objs.size (.tup ys)) { s with heap := h'.push { cls := .type "tuple", data := .seq its.toArray } } :=
   I1.laid (t' := s.toks) (fun b o e => Heap.get?_push_of_some _ e) (Nat.le_refl _) (show ObjOk X.prog X.w _ _ _ (.tup ys) from ⟨hz, its, r', IsTup.new _ _⟩)
  exact ⟨.ref h'.objs.size, _, I2, rfl, q _ (I1.hok.fresh (Nat.le_refl _))⟩
 ·obtain ⟨its, r', pl, hz⟩ := I.tuple hq
  exact call_tuple_same pl ⟨.ref p, H, I, rfl, q⟩
def tyV (K : PySem.W.Frag) (T : String) (x : V) (H : Hp) : Prop := match x with
 | .str _ => T = "str"
 | .int _ => T = "int"
 | .ref p => (T = "list" ∧ ∃ xs, SqL K H p xs) ∨ (T = "tuple" ∧ ∃ o, K.lookup p = some o ∧ o.cls = .type "tuple" ∧ o.dict = none) ∨
   (T = "dict" ∧ ((∃ kvs, H p = some (.dK kvs)) ∨ ∃ kvs, H p = some (.dT kvs))) ∨ (T = "set" ∧ ∃ S n, H p = some (.set S n))
 | _ => False
theorem tqe {pins : List (Addr × Obj)} {σ : St} {H : Hp} {s : Shared} {T : String} {x : V} {v : Value} (I : Inv X pins σ H s) (r : RelV x v) (ty : tyV X.K T x H) :
  s.TypeIs v T ∧ ∀ a, v = .ref a → ∃ ob, s.heap.get? a = some ob ∧ ob.dict = none := by
 cases x with
 | str z =>
  obtain ⟨t, rfl⟩ := r
  cases (show T = "str" from ty)
  exact ⟨typeIs_str s z t, fun _ e => nomatch e⟩
 | int i =>
  obtain ⟨t, rfl⟩ := r
  cases (show T = "int" from ty)
  exact ⟨typeIs_int s i t, fun _ e => nomatch e⟩
 | ref p =>
  cases r
  rcases ty with ⟨rfl, xs, hq⟩ | ⟨rfl, o, hk, hc, hd⟩ | ⟨rfl, hk⟩ | ⟨rfl, S, n, hk⟩
  ·obtain ⟨its, _, pl, _⟩ := I.list hq
   refine ⟨pl.isList.typeIs, fun a e => ?_⟩
   cases e
   obtain ⟨o, n, e, c, hd, _⟩ := pl
   exact ⟨o, e, hd⟩
  ·refine ⟨⟨o, I.kIn p o hk, hc⟩, fun a e => ?_⟩
   cases e
   exact ⟨o, I.kIn _ o hk, hd⟩
  ·have z : ∃ o, s.heap.get? p = some o ∧ o.ExactDict := by
    rcases hk with ⟨kvs, hk⟩ | ⟨kvs, hk⟩
    ·obtain ⟨_, _, _, _, o, _, _, e, ex, _⟩ := I.hok p _ hk
     exact ⟨o, e, ex⟩
    ·obtain ⟨_, _, _, _, o, _, _, e, ex, _⟩ := I.hok p _ hk
     exact ⟨o, e, ex⟩
   obtain ⟨o, e, ex⟩ := z
   refine ⟨⟨o, e, ex.1⟩, fun a e2 => ?_⟩
   cases e2
   exact ⟨o, e, ex.2.1⟩
  ·obtain ⟨o, _, _, _, e, ex, _⟩ := I.hok p _ hk
   refine ⟨⟨o, e, ex.1⟩, fun a e2 => ?_⟩
   cases e2
   exact ⟨o, e, ex.2.1⟩
 | _ => exact False.elim ty
def tBM0 (K : PySem.W.Frag) (T : String) (r : V → List V → Hp → VK → Prop) (to : TE) : TE := fun σ H Q => to σ H fun x H1 => tyV K T x H1 ∧ r x [] H1 Q
def tBM (K : PySem.W.Frag) (T : String) (r : V → List V → Hp → VK → Prop) (to : TE) (t : TA) : TE := fun σ H Q => to σ H fun x H1 => tyV K T x H1 ∧ t σ H1 fun xs H2 => r x xs H2 Q
variable {o e : Expr} {es : List Expr} {to : TE} {t : TA} {name : Str} {apos cpos : Pos} {T id : String} {r : V → List V → Hp → VK → Prop}
theorem vqT (pa : PlainAttrs T) (slot : Slot T name id) (hty : typeOf (.builtin id) = pure (.type "method_descriptor")) (hm : MtR X id r) (ho : PE X o to)
  (hbase : attributeBase o name X.env (eval o X.env) = eval o X.env := by rfl) (hline : (apos.endLine == cpos.line) = true := by rfl) : PE X (.Call (.Attribute o name apos) [] [] cpos) (tBM0 X.K T r to) := by
 intro pins s σ H Q I h
 refine wpAny_Call_method0_late hbase hline (thn (ho pins s σ H _ I h) fun v s1 ⟨x, H1, I1, r1, ty, q1⟩ => ?_)
 obtain ⟨h1, h2⟩ := tqe I1 r1 ty
 exact ⟨T, id, pa, slot, hty, h1, h2, Calls.callWith_builtin rfl (PySem.evalArgs_none (hm pins s1 σ H1 x [] v [] Q I1 r1 .nil q1))⟩
theorem xqw (pa : PlainAttrs T) (slot : Slot T name id) (hty : typeOf (.builtin id) = pure (.type "method_descriptor")) (hm : MtR X id r) (ho : PE X o to) (ha : PA X (e :: es) t)
  (hbase : attributeBase o name X.env (eval o X.env) = eval o X.env := by rfl)
  (hfew : ((backTo cpos (starEach (e :: es) X.env)).all (fun x => !x.1) && (backToKw cpos (keywordEach [] X.env)).all (fun x => x.1.isSome)
   && decide ((e :: es).length + ([] : List Keyword).length + (if ([] : List Keyword).isEmpty then 0 else 1) < 30)) = true := by rfl)
  (hline : (apos.endLine == cpos.line) = true := by rfl) (hs : starEach (e :: es) X.env = (false, eval e X.env) :: starEach es X.env := by rfl) (hplain : (backTo cpos (starEach es X.env)).any (·.1) = false := by rfl) :
  PE X (.Call (.Attribute o name apos) (e :: es) [] cpos) (tBM X.K T r to t) := by
 intro pins s σ H Q I h
 refine wpAny_Call_method_late hbase hfew hline rfl (thn (ho pins s σ H _ I h) fun v s1 ⟨x, H1, I1, r1, ty, q1⟩ => ?_)
 obtain ⟨h1, h2⟩ := tqe I1 r1 ty
 refine ⟨T, id, pa, slot, hty, h1, h2, ?_⟩
 have hA := ha cpos pins s1 σ H1 _ I1 q1
 rw [hs] at hA ⊢
 refine Calls.callWith_builtin (by show (false || (backTo cpos (starEach es X.env)).any (·.1)) = false; rw [hplain] <;> rfl) (Calls.evalArgs_plain ?_)
 exact thn hA fun us s2 ⟨vs, H2, I2, r2, q2⟩ => hm pins s2 σ H2 x vs v us Q I2 r1 r2 q2
end
end L2
namespace L2
open PySem PySem.Spec PyProof.Rows
def MtM (X : Cx) (id : String) (r : V → List V → Hp → VK → Prop) : Prop :=
 ∀ (pins : List (Addr × Obj)) (s : Shared) (σ : St) (H : Hp) (x : V) (xs : List V) (v : Value) (us : List Value) (Q : VK), Inv X pins σ H s → RelV x v → Vals xs us → r x xs H Q →
  wpAny (model X.prog X.w) X.A (call (.builtin id) (v :: us)) (EP X pins σ Q) X.xe s
theorem Vals.one : ∀ {x : V} {us : List Value}, Vals [x] us → ∃ u, us = [u] ∧ RelV x u
 | _, _, .cons r .nil => ⟨_, rfl, r⟩
section
variable {X : Cx} {pins : List (Addr × Obj)} {σ : St} {H : Hp} {s : Shared} {l b : Addr} {xs ys zs : List V}
theorem Inv.lset {its its' : List Value} {n : Nat} {f : Array Value → Array Value} {t' : Nat} (I : Inv X pins σ H s) (hH : H l = some (.lst xs))
  (e : s.heap.get? l = some { cls := .type "list", data := .seq its.toArray n }) (hf : f its.toArray = its'.toArray) (hv : Vals ys its') (hz : ys.length ≤ sizeLine) :
  Inv X pins σ (upd H l (.lst ys)) { s with heap := s.heap.update l (Obj.mapSeq f), toks := t' } := by
 have q := PySem.IsL.update e f
 rw [hf] at q
 refine I.write (x := l) (e := l) (by rw [hH]; exact trivial) (.inl rfl) (fun b' u hb hu => (Heap.get?_update_other s.heap (Obj.mapSeq f) (Ne.symm hb)).trans hu) ⟨_, q⟩ ?_
 exact ⟨hz, its', _, hv, q⟩
theorem Inv.lnew {its : List Value} {t' : Nat} (I : Inv X pins σ H s) (hv : Vals ys its) (hz : ys.length ≤ sizeLine) :
  Inv X pins σ (upd H s.heap.objs.size (.lst ys)) { s with heap := s.heap.push { cls := .type "list", data := .seq its.toArray }, toks := t' } :=
 I.laid (fun _ _ q => Heap.get?_push_of_some _ q) (Nat.le_refl _) ⟨hz, its, 0, hv, Heap.get?_push_size _ rfl⟩
theorem Inv.fresh (I : Inv X pins σ H s) : H s.heap.objs.size = none := I.hok.fresh (Nat.le_refl _)
theorem Inv.lstM (I : Inv X pins σ H s) (hH : H l = some (.lst xs)) : xs.length ≤ sizeLine ∧ ∃ (its : List Value) (n : Nat), Vals xs its ∧ xs.length = its.length ∧ s.heap.get? l = some { cls := .type "list", data := .seq its.toArray n } := by
 obtain ⟨z, its, n, r, e⟩ := I.hok l _ hH
 exact ⟨z, its, n, r, r.length, e⟩
theorem notLongL {n : Nat} (h : n ≤ sizeLine) : Builtin.List.listTooLong n = false := by
 unfold Builtin.List.listTooLong
 exact decide_eq_false (by omega)
end
section
variable {X : Cx}
def rAppend : V → List V → Hp → VK → Prop := fun x vs H Q => ∃ l xs y, x = .ref l ∧ vs = [y] ∧ H l = some (.lst xs) ∧ xs.length < sizeLine ∧ Q .non (upd H l (.lst (xs ++ [y])))
theorem dqD : MtM X "list.append" rAppend := by
 intro pins s σ H x vs v us Q I rx rv h
 obtain ⟨l, xs, y, rfl, rfl, hH, hz, q⟩ := h
 cases rx
 obtain ⟨u, rfl, ru⟩ := rv.one
 obtain ⟨z, its, n, r, hl, e⟩ := I.lstM hH
 refine call_meets F.slot_list_append ⟨_, e, rfl⟩ F.entry_list_append (F.args_list_append_2 _ _) (PySem.list_append l its.toArray n u (by rw [List.size_toArray]; omega)) ⟨e, ?_⟩
 refine ⟨.non, _, I.lset (its' := its ++ [u]) hH e (by simp) (r.append (.cons ru .nil)) ?_, rfl, q⟩
 rw [List.length_append, List.length_singleton]
 omega
def rExtend : V → List V → Hp → VK → Prop := fun x vs H Q => ∃ l b xs zs, x = .ref l ∧ vs = [.ref b] ∧ H l = some (.lst xs) ∧ H b = some (.lst zs) ∧ xs.length + zs.length ≤ sizeLine ∧ Q .non (upd H l (.lst (xs ++ zs)))
theorem vqm : MtM X "list.extend" rExtend := by
 intro pins s σ H x vs v us Q I rx rv h
 obtain ⟨l, b, xs, zs, rfl, rfl, hH, hB, hz, q⟩ := h
 cases rx
 obtain ⟨u, rfl, ru⟩ := rv.one
 cases ru
 obtain ⟨z, its, n, r, hl, e⟩ := I.lstM hH
 obtain ⟨z2, its2, n2, r2, hl2, e2⟩ := I.lstM hB
 have hsz : its.toArray.size + its2.toArray.size ≤ sizeLine := by rw [List.size_toArray, List.size_toArray]; omega
 have hlong : ¬ (!its.toArray.isEmpty && Builtin.List.listTooLong (its.toArray.size + its2.toArray.size)) = true := by
  rw [notLongL hsz, Bool.and_false]
  exact Bool.false_ne_true
 refine call_meets F.slot_list_extend ⟨_, e, rfl⟩ F.entry_list_extend (F.args_list_extend_2 _ _)
  (AutoSeq1.list_extend_list_list_0 l its.toArray n b its2.toArray n2 hlong (by rw [List.size_toArray]; omega) (by omega)) ⟨e, e2, ?_⟩
 refine ⟨.non, _, I.lset (its' := its ++ its2) hH e (by simp) (r.append r2) ?_, rfl, q⟩
 rw [List.length_append]
 omega
def rPop : V → List V → Hp → VK → Prop := fun x vs H Q => ∃ l xs y, x = .ref l ∧ vs = [] ∧ H l = some (.lst xs) ∧ xs[xs.length - 1]? = some y ∧ Q y (upd H l (.lst xs.dropLast))
def rPopAt : V → List V → Hp → VK → Prop := fun x vs H Q => ∃ l xs i k y, x = .ref l ∧ vs = [.int i] ∧ H l = some (.lst xs) ∧ -(2 ^ 63) ≤ i ∧ i < 2 ^ 63 ∧ seqIndex? i xs.length = some k ∧ xs[k]? = some y ∧ Q y (upd H l (.lst (xs.eraseIdx k)))
def rReverse : V → List V → Hp → VK → Prop := fun x vs H Q => ∃ l xs, x = .ref l ∧ vs = [] ∧ H l = some (.lst xs) ∧ Q .non (upd H l (.lst xs.reverse))
def rCat : R2 := fun x y H Q => ∃ l b xs zs, x = .ref l ∧ y = .ref b ∧ H l = some (.lst xs) ∧ H b = some (.lst zs) ∧ xs.length + zs.length ≤ sizeLine ∧ ∀ p, H p = none → Q (.ref p) (upd H p (.lst (xs ++ zs)))
theorem wqm : OpR X (binaryOp .Add) rCat := by
 intro pins s σ H x y v u Q I rx ry h
 obtain ⟨l, b, xs, zs, rfl, rfl, hH, hB, hz, q⟩ := h
 cases rx
 cases ry
 obtain ⟨z, its, n, r, hl, e⟩ := I.lstM hH
 obtain ⟨z2, its2, n2, r2, hl2, e2⟩ := I.lstM hB
 refine PySem.P.add_list e e2 ?_ (by rw [List.size_toArray, List.size_toArray]; omega)
 have ea : its.toArray ++ its2.toArray = (its ++ its2).toArray := by simp
 rw [ea]
 exact ⟨.ref _, _, I.lnew (t' := s.toks) (r.append r2) (by rw [List.length_append]; omega), rfl, q _ I.fresh⟩
end
section
variable {prog : Program} {w : World} {A : Around} {E : Value → Shared → Prop} {s : Shared}
set_option maxRecDepth 100000 in
end
section
variable {X : Cx}
end
end L2
namespace Att
open PySem PySem.W PySem.Calls PyProof.Rows
theorem jqO {P : Params} {h : Heap} : ∀ (ns : List Int) (vs : List Value), WellAll P h vs (ns.map WData.int) → IntsAre vs ns := by
 intro ns
 induction ns with
 | nil =>
  intro vs w
  rw [List.map_nil] at w
  cases w
  exact .nil
 | cons n ns ih =>
  intro vs w
  rw [List.map_cons] at w
  cases w with
  | cons a b =>
   cases a
   exact .cons _ _ (ih _ b)
theorem pqK {l : OpenLaw} {n : Nat} (hn : l.most = some n) {P : Params} {h : Heap} {args : List WData} {vals : List Value}
  (hpre : l.row.toRowW.claim.pre args = true) (hwl : WellAll P h vals args) :
  ∃ a vs ns, vals = [Value.ref a] ∧ args = [WData.list (ns.map WData.int)] ∧ h.get? a = some { cls := .type "list", data := .seq vs.toArray } ∧ IntsAre vs ns ∧ ns.length ≤ n := by
 have hsh : WShape.hasAll [] args [.list .int] = true := (pre_splitW hpre).1
 have hc : l.pre.holds [] { args := args } = true := (pre_splitW hpre).2
 obtain ⟨d, r, rfl, h1, h2⟩ := hasAllW_cons hsh
 obtain rfl := hasAllW_nil h2
 obtain ⟨xs, rfl, h3⟩ := hasW_list h1
 obtain ⟨ns, rfl⟩ := items_int h3
 have hlen : ns.length ≤ n := by
  unfold OpenLaw.pre at hc
  have h4 : (WTm.not (.lt (.lit (.int (n : Int))) (.len (.arg 0)))).holds [] { args := [.list (ns.map .int)] } = true := by
   have h4 := (holds_andW hc).1
   rw [hn] at h4
   exact h4
  have h5 := condW_of h4 (w_not (w_lt w_lit (w_len_list (w_arg rfl))))
  rw [List.length_map] at h5
  refine Nat.le_of_not_lt fun q => ?_
  have q' : (n : Int) < ((ns.length : Nat) : Int) := by omega
  first
   | (rw [decide_eq_true q'] at h5; exact absurd h5 (by decide))
   | (simp at h5; omega)
 cases hwl with
 | cons w1 w2 =>
  cases w2
  cases w1 with
  | list ho hall => exact ⟨_, _, ns, rfl, rfl, ho, jqO ns _ hall, hlen⟩
theorem pqX (l : OpenLaw) (args : List WData) : l.row.toRowW.claim.post args (.bool true) args = true :=
 postW_of (r := l.row.toRowW) (X := (true == true))
  (show WShape.has [] (.bool true) .bool = true by first | rfl | decide | simp [WShape.has, WShape.arms, WShape.armsAll])
  (show (WTm.eq .res (.lit (.bool true))).value [] { args := args, res := some (.bool true), after := args } = some (.bool (true == true)) from w_eq_bool (w_res rfl) w_lit) rfl
theorem attach_call {l : OpenLaw} {n : Nat} {q : Program} {loose : List Str} {XP : (Str → Option Value) → Heap → Prop} {YP : World → Heap → Prop} {d : DefRec}
  (hn : l.most = some n) (hdf : d.params.defaults = [])
  (call : ∀ (w : World) (s₀ s₁ : Shared) (mg mb : Str → Option Value) (fa : Addr) (o : Obj) (pm cd doc : Value) (a : Addr) (vs : List Value) (ns : List Int),
   Ground q loose [] XP w s₀ mg mb s₁.heap → YP w s₁.heap →
   s₁.heap.get? fa = some o → o.data = .func (docDef d.name d.params d.body d.scope pm cd doc) → s₁.heap.CodeRec cd d.name → mg d.name = some (.ref fa) →
   s₁.heap.get? a = some { cls := .type "list", data := .seq vs.toArray } → IntsAre vs ns → ns.length ≤ n → s₁.gens = #[] →
   codeAny (model l.prog w) callerA (.call (.ref fa) ⟨[.ref a], []⟩) (fun r s' => r = .ok (.ret (.bool true)) ∧ OldK s₁.heap s'.heap ∧ s'.os = s₁.os ∧ AllBare s'.gens) s₁) :
  WalkO q loose XP YP l.row.toRowW d [] (fun f vs => PySem.call f vs) := by
 intro w s₀ s₁ mg mb G Y fa o pm cd doc dV kV ho hd hcd hD hmg hg args vals as hpre hlay hrd hwl hlo
 obtain rfl : dV = .none := Dflts.none hD hdf
 obtain rfl : kV = .none := Dflts.noKw hD
 obtain ⟨a, vs, ns, rfl, rfl, hobj, hints, hlen⟩ := pqK hn hpre hwl
 refine enter_call (codeAny_mono (call w s₀ s₁ mg mb fa o pm cd doc a vs ns G Y ho (fd_plain hd) hcd hmg hobj hints hlen hg) fun r s' hq => ?_)
 obtain ⟨rfl, h2, h3, h4⟩ := hq
 exact ⟨.inl ⟨.bool true, .bool true, [], rfl, fun _ => rfl, .bool true, pqX l _, fun _ => ⟨List.Pairwise.nil, fun _ hm => (nomatch hm)⟩⟩, h2, h3, h4⟩
section
variable {prog : Program} {w : World} {A : Around} {E : Value → Shared → Prop} {s : Shared} {K : Frag}
def ledger (h : Heap) (L d : Addr) : List (Addr × Obj) := (List.range h.objs.size).filterMap fun a => if a = L ∨ a = d then none else (h.get? a).map fun o => (a, o)
end
end Att
namespace L2
open PySem PySem.Spec PyProof.Rows
theorem mq9 : ∀ {vs : List Value} {ns : List Int}, IntsAre vs ns → Vals (ns.map V.int) vs
 | _, _, .nil => .nil
 | _, _, .cons n t h => .cons ⟨t, rfl⟩ (mq9 h)
def Only (H : Hp) : Prop := ∀ b, H b = none ∨ ∃ o xs, H b = some (.frz o (.lst xs))
theorem rqT {P : Program} {w : World} {K : PySem.W.Frag} {mg mb : Str → Option Value} {CX : CXT} {k : Nat} {fa a : Addr} {fd : FuncData} {x : Str} {sp : Sp} {s₁ : Shared} {vs : List Value} {ns : List Int}
  (KX : K.In s₁.heap) (hns : s₁.heap.Ns mainGlobals mg) (hb : s₁.heap.Ns builtinsNs mb) (hbb : ∀ x : Str, x ≠ "__name__" → mb x = bootBuiltins x) (hlim : s₁.heap.NoLimit) (hg : s₁.gens = #[])
  (ha : s₁.heap.get? a = some { cls := .type "list", data := .seq vs.toArray }) (hi : IntsAre vs ns) (hl : ns.length ≤ sizeLine) (hr : Room k callerA)
  (F : ∀ base : Heap, K.In base → base.Ns mainGlobals mg → FnOk P w K mg base CX k fa fd [x] sp) (hbind : ∀ (s : Shared) (u : Value), BindsTo s fd ⟨[u], []⟩ [(x, u)])
  (hsp : ∀ H : Hp, Only H → SqL K H a (ns.map V.int) → sp [.ref a] H (fun v _ => v = .bl true) fun _ _ _ => False)
  (hCX : ∀ H e s', CX [] H s₁ (fun _ _ _ => False) e s' → False) :
  codeAny (model P w) callerA (.call (.ref fa) ⟨[.ref a], []⟩) (fun r s' => r = .ok (.ret (.bool true)) ∧ OldK s₁.heap s'.heap ∧ s'.os = s₁.os ∧ AllBare s'.gens) s₁ := by
 have rv := mq9 hi
 have lenV := hi.length
 have core : ∀ H : Hp, Only H → SqL K H a (ns.map V.int) → HOk P w H s₁.heap → (∀ b, H b ≠ none → b = a) → (H a ≠ none → K.lookup a = none) →
   codeAny (model P w) callerA (.call (.ref fa) ⟨[.ref a], []⟩) (fun r s' => r = .ok (.ret (.bool true)) ∧ OldK s₁.heap s'.heap ∧ s'.os = s₁.os ∧ AllBare s'.gens) s₁ := by
  intro H hO hS hok hA hK
  have base_of : ∀ {b : Addr} {o : Obj}, s₁.heap.get? b = some o → H b = none → (hidT s₁.heap H).get? b = some o := fun e n => rqt e n
  have noA : ∀ {b : Addr} {o : Obj} {es : Array DictEntry} {ep : Nat}, s₁.heap.get? b = some o → o.data = .dict es ep → H b = none := fun {b o es ep} e d => by
   cases q : H b with
   | none => rfl
   | some u =>
    have e' : b = a := hA b (by rw [q]; simp)
    subst e'
    rw [ha] at e; cases e
    have d' : Data.seq vs.toArray _ = Data.dict es ep := d
    cases d'
  have nsK : ∀ {b : Addr} {m : Str → Option Value}, s₁.heap.Ns b m → (hidT s₁.heap H).Ns b m := fun {b m} ⟨o, es, ep, e, d, r⟩ => ⟨o, es, ep, base_of e (noA e d), d, r⟩
  have hKb : K.In (hidT s₁.heap H) := fun b o e => base_of (KX b o e) (by
   cases q : H b with
   | none => rfl
   | some u =>
    have e' : b = a := hA b (by rw [q]; simp)
    subst e'
    rw [hK (by rw [q]; simp)] at e; cases e)
  have hM : Mod K mg (hidT s₁.heap H) := ⟨hKb, nsK hns, ⟨mb, nsK hb, hbb⟩, let ⟨mc, h1, h2⟩ := hlim; ⟨mc, nsK h1, h2⟩⟩
  have e0 : Env0 P w K mg (hidT s₁.heap H) callerA [] s₁ H := ⟨rfl, hM, fun b o e => uqw e, Nat.le_of_eq (qqo _ _), trivial, fun b hb => absurd (show b ∈ ([] : List Addr) from hb) (by simp), hok, .of_eq hg⟩
  refine codeAny_mono ((F _ hKb (nsK hns)).run callerA [] s₁ H ⟨[.ref a], []⟩ [.ref a] [.ref a] _ _ hr e0 (hbind s₁ (.ref a)) (.cons rfl .nil) (hsp H hO hS)) fun r s' h => ?_
  cases r with
  | error e => exact (hCX H e s' h).elim
  | ok fl =>
   cases fl with
   | next => exact False.elim h
   | brk => exact False.elim h
   | cont => exact False.elim h
   | ret u =>
    obtain ⟨v, H', os, bare, un, hok', r', q⟩ := h
    have q' : v = .bl true := q
    subst q'
    obtain rfl : u = Value.bool true := r'
    refine ⟨rfl, OldK.of_keep fun b o e => ?_, os, bare⟩
    cases q : H b with
    | none => exact un.keep b o e q (by intro z; exact absurd (show b ∈ ([] : List Addr) from z) (by simp)) (by simp)
    | some u =>
     rcases hO b with z | ⟨ob, xs, z⟩
     ·rw [q] at z; cases z
     ·have z2 := un.frzs b ob _ z
      obtain ⟨e1, _⟩ := hok b _ z
      obtain ⟨e2, _⟩ := hok' b _ z2
      rw [e] at e1; cases e1
      exact e2
 cases hk : K.lookup a with
 | some o =>
  have e := KX a o hk
  rw [ha] at e
  cases e
  refine core (fun _ => none) (fun _ => .inl rfl) (.inr ⟨_, vs.toArray, _, hk, rfl, rfl, rfl, by rw [List.size_toArray, lenV]; exact hl, by simpa using rv⟩) (fun b u z => by have z' : (none : Option HO) = some u := z; cases z') (fun b z => absurd rfl z) fun z => absurd rfl z
 | none =>
  refine core (fun b => if b = a then some (.frz { cls := .type "list", data := .seq vs.toArray } (.lst (ns.map V.int))) else none) (fun b => ?_) (.inl (.inr ⟨{ cls := .type "list", data := .seq vs.toArray }, if_pos rfl⟩)) (fun b u z => ?_) (fun b z => ?_) fun _ => hk
  ·by_cases hb : b = a
   ·exact .inr ⟨_, _, if_pos hb⟩
   ·exact .inl (if_neg hb)
  ·by_cases hb : b = a
   ·have z' := (if_pos hb).symm.trans z
    cases z'
    subst hb
    exact ⟨ha, by rw [List.length_map]; exact hl, vs, _, rv, ha⟩
   ·have z' := (if_neg hb).symm.trans z
    cases z'
  ·by_cases hb : b = a
   ·exact hb
   ·exact absurd (if_neg hb) z
end L2
namespace L2
open PySem PySem.Spec PyProof.Rows
abbrev KOf {K : PySem.W.Frag} {h : Heap} (_ : K.In h) : PySem.W.Frag := K
theorem uqr {l : PySem.W.OpenLaw} {n k : Nat} {q : Program} {loose : List Str} {XP : (Str → Option Value) → Heap → Prop} {YP : World → Heap → Prop} {d : DefRec} {K : Params → PySem.W.Frag} {CX : World → CXT} {sp : World → Sp} {x : Str}
  (hn : l.most = some n) (hn2 : n ≤ sizeLine) (hdf : d.params.defaults = []) (hr : Room k callerA)
  (hY : ∀ (w : World) (h : Heap), YP w h → (K w.params).In h)
  (F : ∀ (w : World) (mg : Str → Option Value) (fa : Addr) (h : Heap), (K w.params).In h → h.Ns mainGlobals mg → mg d.name = some (.ref fa) →
   ∃ fd : FuncData, (∀ (s : Shared) (u : Value), BindsTo s fd ⟨[u], []⟩ [(x, u)]) ∧
    ∀ base : Heap, (K w.params).In base → base.Ns mainGlobals mg → FnOk l.prog w (K w.params) mg base (CX w) k fa fd [x] (sp w))
  (hsp : ∀ (w : World) (H : Hp) (a : Addr) (ns : List Int), ns.length ≤ n → Only H → SqL (K w.params) H a (ns.map V.int) → sp w [.ref a] H (fun v _ => v = .bl true) fun _ _ _ => False)
  (hCX : ∀ (w : World) (H : Hp) (s : Shared) (e : Value) (s' : Shared), CX w [] H s (fun _ _ _ => False) e s' → False) :
  PySem.W.WalkO q loose XP YP l.row.toRowW d [] (fun f vs => PySem.call f vs) := by
 refine Att.attach_call hn hdf fun w s₀ s₁ mg mb fa o pm cd doc a vs ns G Y ho hd hcd hmg hobj hints hlen hg => ?_
 have KX := hY w _ Y
 obtain ⟨fd, hb, hF⟩ := F w mg fa _ KX G.T.g hmg
 exact rqT KX G.T.g G.T.b G.T.builtins G.T.nolimit hg hobj hints (Nat.le_trans hlen hn2) hr hF hb (fun H hO hS => hsp w H a ns hlen hO hS) fun H e s' => hCX w H s₁ e s'
end L2
namespace L2
open PySem PySem.Spec PyProof.Rows
def inClass (s : Stmt) (j : Nat) : Stmt := match s with
 | .ClassDef _ _ _ body _ _ _ _ _ _ _ => body.getD j (.Pass ⟨0, 0, 0, 0⟩)
 | _ => .Pass ⟨0, 0, 0, 0⟩
def defArgs (s : Stmt) : Arguments := match s with
 | .FunctionDef _ a _ _ _ _ _ _ _ _ => a
 | _ => { posonlyargs := [], args := [], vararg := none, kwonlyargs := [], kw_defaults := [], kwarg := none, defaults := [] }
def defBody (s : Stmt) : List Stmt := match s with
 | .FunctionDef _ _ b _ _ _ _ _ _ _ => b
 | _ => []
def defScope (s : Stmt) : Scope := match s with
 | .FunctionDef _ _ _ _ _ _ sc _ _ _ => sc
 | _ => { kind := .function, names := [], isGenerator := false, isCoroutine := false }
abbrev CX0 : CXT := fun _ _ _ _ _ _ => False
abbrev E0 : XK := fun _ _ _ => False
theorem pass0 {X : Cx} : Passes CX0 X E0 := fun _ _ _ _ _ _ _ h => h.elim
structure Fun (K : PySem.W.Frag) (x qual : Str) (st : Stmt) (f : Addr) (fd : FuncData) : Prop where
 ex : ∃ (oc : Value) (od : Option Addr) (kV doc pm : Value) (an : Option Addr) (cdv ct : Value) (osl : Array (Option Value)),
  fd = PySem.W.fnOf x qual (defArgs st) (defBody st) (defScope st) .none kV doc pm an cdv ct ∧ K.lookup f = some ⟨oc, od, .func fd, osl⟩ ∧ PySem.W.codeIn K cdv qual = true
 kp : PySem.W.keepIn K (.ref f) = true
section
variable {P : Program} {w : World} {K : PySem.W.Frag} {mg : Str → Option Value} {base : Heap}
theorem Fun.ok {x qual : Str} {st : Stmt} {f : Addr} {fd : FuncData} {N ps : List Str} {k : Nat} {sp : Sp} (F : Fun K x qual st f fd) (S : FnScope N ps (defScope st)) (len : ∀ vs H Q E, sp vs H Q E → vs.length = ps.length)
  (hbody : ∀ (cdv : Value) (A : Around) (outer : List Env) (s : Shared) (H : Hp) (vs : List V) (Q : VK) (E : XK), Room k (A.deeper (envOfC qual (defScope st) s.heap.objs.size f cdv)) → sp vs H Q E →
   ∃ t, PSs (cxOf CX0 P w K mg base N qual (defScope st) f cdv A outer s H E).nox (defBody st) t ∧ t { nx := fun _ H' => Q .non H', rt := Q } (start N vs) H) : FnOk P w K mg base CX0 (k + 1) f fd ps sp := by
 obtain ⟨oc, od, kV, doc, pm, an, cdv, ct, osl, rfl, lk, hcd⟩ := F.ex
 refine uqm lk hcd S len fun A outer s H vs Q E hr hsp => ?_
 obtain ⟨t, h, q⟩ := hbody cdv A outer s H vs Q E hr hsp
 exact ⟨t, h.nox, q⟩
theorem Fun.binds {x qual : Str} {st : Stmt} {f : Addr} {fd : FuncData} {ps : List Str} (F : Fun K x qual st f fd)
  (h : ∀ (kV doc pm : Value) (an : Option Addr) (cdv ct : Value) (us : List Value), us.length = ps.length → bindArgs (PySem.W.fnOf x qual (defArgs st) (defBody st) (defScope st) .none kV doc pm an cdv ct) ⟨us, []⟩ = pure (ps.zip us)) : Binds K fd ps [] := by
 obtain ⟨oc, od, kV, doc, pm, an, cdv, ct, osl, rfl, lk, hcd⟩ := F.ex
 exact .all (h kV doc pm an cdv ct)
theorem aqi {x qual : Str} {st : Stmt} {f : Addr} {oc : Value} {od an : Option Addr} {osl : Array (Option Value)} {kV doc pm cdv ct : Value} (l : K.lookup f = some ⟨oc, od, .func (PySem.W.fnOf x qual (defArgs st) (defBody st) (defScope st) .none kV doc pm an cdv ct), osl⟩)
  (c : PySem.W.codeIn K cdv qual = true) (k : PySem.W.keepIn K (.ref f) = true) : Fun K x qual st f (PySem.W.fnOf x qual (defArgs st) (defBody st) (defScope st) .none kV doc pm an cdv ct) := ⟨⟨oc, od, kV, doc, pm, an, cdv, ct, osl, rfl, l, c⟩, k⟩
end
section
variable {X : Cx}
theorem pv (i : Nat) {x : Str} {pos : Pos} (hN : X.N[i]? = some x := by rfl) (hv : Vis X.env.scope x := by first | exact Or.inl rfl | exact Or.inr (Or.inl rfl) | exact Or.inr (Or.inr rfl)) (hd : (x == ("__debug__" : Str)) = false := by decide)
  (hcd : (x == ("__classdict__" : Str)) = false := by decide) : PE X (.Name x pos) (tVar i) := wql hN hv hd hcd
end
theorem ite2 {c A B : Prop} [Decidable c] (h1 : c → A) (h2 : ¬ c → B) : if c then A else B := by
 by_cases h : c
 ·rw [if_pos h]
  exact h1 h
 ·rw [if_neg h]
  exact h2 h
def Same (H H' : Hp) : Prop := ∀ b o, H b = some o → H' b = some o
theorem Same.refl (H : Hp) : Same H H := fun _ _ h => h
theorem Same.trans {H H1 H2 : Hp} (a : Same H H1) (b : Same H1 H2) : Same H H2 := fun c o h => b c o (a c o h)
theorem Same.seq {K : PySem.W.Frag} {H H' : Hp} {a : Addr} {xs : List V} (e : Same H H') (h : SqL K H a xs) : SqL K H' a xs := by
 rcases h with (h | ⟨o, h⟩) | h
 ·exact .inl (.inl (e _ _ h))
 ·exact .inl (.inr ⟨o, e _ _ h⟩)
 ·exact .inr h
end L2
set_option maxHeartbeats 4000000
namespace L2
open PySem PySem.Spec PyProof.Rows
def Its (z : Str) : It := ⟨fun i _ => i < z.length, fun i H x H' => H' = H ∧ ∃ c, z.cps.toList[i]? = some c ∧ x = .str ⟨#[c]⟩, fun i _ => z.length ≤ i⟩
theorem qqs {z : Str} {i : Nat} (h : i < z.length) : ∃ c, z.cps[i]? = some c ∧ z.cps.toList[i]? = some c := by
 have h' : i < z.cps.size := h
 exact ⟨z.cps[i], by simp [h'], by simp [h']⟩
theorem oqP {z : Str} {i : Nat} (h : z.length ≤ i) : z.cps[i]? = none := by
 have h' : z.cps.size ≤ i := h
 simp [h']
theorem qqy {P : Program} {w : World} {K : PySem.W.Frag} {tg : Expr} (it : Addr) (z : Str) (t : Tok) : Turn P w K tg (Its z) [it] it (fun i h => h.IsStrIter it "str_ascii_iterator" z t i) where
 mem := by simp
 obj := fun i h st b hb => by
  have e : b = it := by simpa using hb
  subst e
  obtain ⟨o, e, c, d⟩ := st
  exact ⟨o, e, fun v z => by rw [d] at z; cases z⟩
 keep := fun i h h' st k => by
  obtain ⟨o, e, r⟩ := st
  exact ⟨o, k it (by simp) o e, r⟩
 item := by
  intro X hP hw hK hc i pins s σ H E I hf st hg
  subst hP hw hK
  obtain ⟨c, h1, h2⟩ := qqs (z := z) (i := i) hg
  obtain ⟨f0, f1, f2, f3, f4, f5⟩ := hf it (by simp)
  refine wpAny_pyNext_ascii_item st h1 fun h' st' sb => ?_
  have I1 : Inv X pins σ H { s with heap := h', toks := s.toks + 1 } := I.turned (t' := s.toks + 1) (fun b o hb e => (sb.2 b hb).trans e) f0 f1 f3 f4 f5
  obtain ⟨o, e, cl, d⟩ := id st'
  exact ⟨_, rfl, qqI (s := { s with heap := h', toks := s.toks + 1 }) e cl d (by decide) ⟨.str ⟨#[c]⟩, H, I1, ⟨_, rfl⟩, ⟨rfl, c, h2, rfl⟩, st', fun b hb => (hf b hb).1⟩⟩
 done := by
  intro X hP hw hK hc i pins s σ H E I hf st hg
  subst hP hw hK
  obtain ⟨f0, f1, f2, f3, f4, f5⟩ := hf it (by simp)
  exact wpAny_pyNext_ascii_end (I.ok.hd hc) st (oqP hg) fun h' eb => ⟨rfl, I.turned (t' := s.toks) (fun b o hb e => eb b o hb e) f0 f1 f3 f4 f5⟩
 self := fun _ _ _ _ _ st h => wpAny_pyIter_striter_ascii st h
theorem pq7 {P : Program} {w : World} {K : PySem.W.Frag} {tg : Expr} (it : Addr) (z : Str) (t : Tok) : Turn P w K tg (Its z) [it] it (fun i h => h.IsStrIter it "str_iterator" z t i) where
 mem := by simp
 obj := fun i h st b hb => by
  have e : b = it := by simpa using hb
  subst e
  obtain ⟨o, e, c, d⟩ := st
  exact ⟨o, e, fun v z => by rw [d] at z; cases z⟩
 keep := fun i h h' st k => by
  obtain ⟨o, e, r⟩ := st
  exact ⟨o, k it (by simp) o e, r⟩
 item := by
  intro X hP hw hK hc i pins s σ H E I hf st hg
  subst hP hw hK
  obtain ⟨c, h1, h2⟩ := qqs (z := z) (i := i) hg
  obtain ⟨f0, f1, f2, f3, f4, f5⟩ := hf it (by simp)
  refine wpAny_pyNext_wide_item st h1 fun h' st' sb => ?_
  have I1 : Inv X pins σ H { s with heap := h', toks := s.toks + 1 } := I.turned (t' := s.toks + 1) (fun b o hb e => (sb.2 b hb).trans e) f0 f1 f3 f4 f5
  obtain ⟨o, e, cl, d⟩ := id st'
  exact ⟨_, rfl, qqI (s := { s with heap := h', toks := s.toks + 1 }) e cl d (by decide) ⟨.str ⟨#[c]⟩, H, I1, ⟨_, rfl⟩, ⟨rfl, c, h2, rfl⟩, st', fun b hb => (hf b hb).1⟩⟩
 done := by
  intro X hP hw hK hc i pins s σ H E I hf st hg
  subst hP hw hK
  obtain ⟨f0, f1, f2, f3, f4, f5⟩ := hf it (by simp)
  exact wpAny_pyNext_wide_end (I.ok.hd hc) st (oqP hg) fun h' eb => ⟨rfl, I.turned (t' := s.toks) (fun b o hb e => eb b o hb e) f0 f1 f3 f4 f5⟩
 self := fun _ _ _ _ _ st h => wpAny_pyIter_striter_wide st h
section
variable {X : Cx} {tg : Expr}
def iStr (tl : TE) : TI := fun σ H R => tl σ H fun x H1 => ∃ z, x = .str z ∧ R (Its z) H1
theorem sqI {l : Expr} {tl : TE} (hl : PE X l tl) : PI X tg l (iStr tl) := by
 intro pins s σ H R I h
 refine thn (hl pins s σ H _ I h) fun v s1 ⟨x, H1, I1, r1, q1⟩ => ?_
 obtain ⟨z, rfl, q⟩ := q1
 obtain ⟨t, rfl⟩ := r1
 have fp : ∀ b ∈ [s1.heap.objs.size], FpOk X pins H1 b := fun b hb => by
  have e : b = s1.heap.objs.size := by simpa using hb
  subst e
  exact I1.fpOk (Nat.le_refl _) (I1.hok.fresh (Nat.le_refl _))
 cases ha : z.cps.all (· < 128)
 ·refine wpAny_pyIter_wide ha ?_
  exact ⟨s1.heap.objs.size, [s1.heap.objs.size], _, _, H1, rfl, I1.kept (t' := s1.toks) fun b o e => Heap.get?_push_of_some _ e, pq7 _ z t, ⟨_, Heap.get?_push_size _ rfl, rfl, rfl⟩, fp, q⟩
 ·refine wpAny_pyIter_ascii ha ?_
  exact ⟨s1.heap.objs.size, [s1.heap.objs.size], _, _, H1, rfl, I1.kept (t' := s1.toks) fun b o e => Heap.get?_push_of_some _ e, qqy _ z t, ⟨_, Heap.get?_push_size _ rfl, rfl, rfl⟩, fp, q⟩
end
section
variable {X : Cx}
def rSlS : V → Option Int → Option Int → Hp → VK → Prop := fun x lo hi H Q => ∃ z, x = .str z ∧ z.length ≤ sizeLine ∧ Q (.str (Txt.slice z lo hi)) H
theorem wq0 : SlR X rSlS := by
 intro pins s σ H x v vl vu lo hi sl Q I rx hs pl pu h
 obtain ⟨z, rfl, hz, q⟩ := h
 obtain ⟨t, rfl⟩ := rx
 refine ⟨"str", _, F.slot_str_getitem.lookup, typeIs_str _ _ _, ?_⟩
 obtain ⟨o, ho, hc, hd⟩ := hs
 cases pl with
 | none =>
  cases pu with
  | none => exact wpAny_getItem_str_slice (l := none) (u := none) (st := none) ⟨o, ho, hc, hd⟩ rfl (post_val_or_str ⟨Nat.le_trans (Txt.slice_le z none none) hz, fun t' k => ⟨.str (Txt.slice z none none), H, I.tok k, ⟨t', rfl⟩, q⟩⟩)
  | int j uj => exact wpAny_getItem_str_slice (l := none) (u := some (j, uj)) (st := none) ⟨o, ho, hc, hd⟩ rfl (post_val_or_str ⟨Nat.le_trans (Txt.slice_le z none (some j)) hz, fun t' k => ⟨.str (Txt.slice z none (some j)), H, I.tok k, ⟨t', rfl⟩, q⟩⟩)
 | int i ui =>
  cases pu with
  | none => exact wpAny_getItem_str_slice (l := some (i, ui)) (u := none) (st := none) ⟨o, ho, hc, hd⟩ rfl (post_val_or_str ⟨Nat.le_trans (Txt.slice_le z (some i) none) hz, fun t' k => ⟨.str (Txt.slice z (some i) none), H, I.tok k, ⟨t', rfl⟩, q⟩⟩)
  | int j uj => exact wpAny_getItem_str_slice (l := some (i, ui)) (u := some (j, uj)) (st := none) ⟨o, ho, hc, hd⟩ rfl (post_val_or_str ⟨Nat.le_trans (Txt.slice_le z (some i) (some j)) hz, fun t' k => ⟨.str (Txt.slice z (some i) (some j)), H, I.tok k, ⟨t', rfl⟩, q⟩⟩)
def rSl (K : PySem.W.Frag) : V → Option Int → Option Int → Hp → VK → Prop := fun x lo hi H Q => rSlL K x lo hi H Q ∨ rSlS x lo hi H Q
theorem wqy : SlR X (rSl X.K) := uqO.or wq0
def rIndex : V → List V → Hp → VK → Prop := fun x vs H Q => match x, vs with
 | .str z, [.str y] => ∃ i r, Builtin.Str.occurrences z y 0 z.length 1 = i :: r ∧ Q (.int (i : Nat)) H
 | _, _ => False
theorem rqL {z y : Str} {H : Hp} {Q : VK} : rIndex (.str z) [.str y] H Q ↔ ∃ i r, Builtin.Str.occurrences z y 0 z.length 1 = i :: r ∧ Q (.int (i : Nat)) H := Iff.rfl
theorem lqC : MtR X "str.index" rIndex := by
 intro pins s σ H x vs v us Q I rx rv h
 unfold rIndex at h
 split at h
 rotate_left
 ·exact h.elim
 rename_i z y
 obtain ⟨i, r, ho, q⟩ := h
 obtain ⟨t, rfl⟩ := rx
 obtain ⟨u, rfl, t', rfl⟩ := vals1 rv
 exact SC.index ho ⟨.int (i : Nat), H, I.tok _, ⟨_, rfl⟩, q⟩
theorem notTooLong {n : Nat} (h : n ≤ 1000000) : Builtin.Str.tooLong n = false := by
 unfold Builtin.Str.tooLong
 rw [sizeLine_eq]
 exact decide_eq_false (by omega)
def rUpper : V → List V → Hp → VK → Prop := fun x vs H Q => match x, vs with
 | .str z, [] => (∀ c ∈ z.cps.toList, c < 128) ∧ z.length ≤ 1000000 ∧ Q (.str ⟨z.cps.map up1⟩) H
 | _, _ => False
theorem vq4 {z : Str} {H : Hp} {Q : VK} : rUpper (.str z) [] H Q ↔ (∀ c ∈ z.cps.toList, c < 128) ∧ z.length ≤ 1000000 ∧ Q (.str ⟨z.cps.map up1⟩) H := Iff.rfl
theorem rq5 : MtR X "str.upper" rUpper := by
 intro pins s σ H x vs v us Q I rx rv h
 unfold rUpper at h
 split at h
 rotate_left
 ·exact h.elim
 rename_i z
 obtain ⟨ha, hz, q⟩ := h
 obtain ⟨t, rfl⟩ := rx
 cases rv
 have e := upper_ascii ha
 refine SC.upper ?_ ⟨.str ⟨z.cps.map up1⟩, H, I.tok _, ⟨_, by rw [e]⟩, q⟩
 rw [e]
 exact notTooLong (by show (z.cps.map up1).size ≤ _; rw [Array.size_map]; exact hz)
def rLower : V → List V → Hp → VK → Prop := fun x vs H Q => match x, vs with
 | .str z, [] => (∀ c ∈ z.cps.toList, c < 128) ∧ z.length ≤ 1000000 ∧ Q (.str ⟨z.cps.map lo1⟩) H
 | _, _ => False
theorem vq2 {z : Str} {H : Hp} {Q : VK} : rLower (.str z) [] H Q ↔ (∀ c ∈ z.cps.toList, c < 128) ∧ z.length ≤ 1000000 ∧ Q (.str ⟨z.cps.map lo1⟩) H := Iff.rfl
def rAlnum : V → List V → Hp → VK → Prop := fun x vs H Q => match x, vs with
 | .str z, [] => Q (.bl (Txt.isalnum z)) H
 | _, _ => False
theorem wqp {z : Str} {H : Hp} {Q : VK} : rAlnum (.str z) [] H Q ↔ Q (.bl (Txt.isalnum z)) H := Iff.rfl
theorem rqp : MtR X "str.isalnum" rAlnum := by
 intro pins s σ H x vs v us Q I rx rv q
 unfold rAlnum at q
 split at q
 rotate_left
 ·exact q.elim
 rename_i z
 obtain ⟨t, rfl⟩ := rx
 cases rv
 exact SC.isalnum ⟨.bl _, H, I, rfl, q⟩
theorem pqj {ys : List Str} : ∀ {us : List Value}, Vals (ys.map V.str) us → StrsAre us ys := by
 induction ys with
 | nil => intro us r; rw [List.map_nil] at r; cases r; exact .nil
 | cons y ys ih =>
  intro us r
  rw [List.map_cons] at r
  cases r with
  | cons r1 r2 =>
   obtain ⟨t, e⟩ := r1
   subst e
   exact .cons y t (ih r2)
def rJoin (K : PySem.W.Frag) : V → List V → Hp → VK → Prop := fun x vs H Q => ∃ z p ys, x = .str z ∧ vs = [.ref p] ∧ SqL K H p (ys.map V.str) ∧ (ys.map (·.length)).sum + ys.length * z.length ≤ 16777216 ∧ Q (.str (Txt.join z ys)) H
theorem uqR : MtR X "str.join" (rJoin X.K) := by
 intro pins s σ H x vs v us Q I rx rv h
 obtain ⟨z, p, ys, rfl, rfl, hq, hz, q⟩ := h
 obtain ⟨t, rfl⟩ := rx
 obtain ⟨u, rfl, ru⟩ := vals1 rv
 cases ru
 obtain ⟨its, r, pl, hl⟩ := I.list hq
 exact join_list pl.isList (by simpa using pqj r) hz fun t' k => ⟨.str (Txt.join z ys), H, I.tok k, ⟨t', rfl⟩, q⟩
def rIsi (K : PySem.W.Frag) : List V → Hp → VK → Prop := fun vs H Q => ∃ x T t b, vs = [x, .ty T] ∧ TyOf K H x t ∧ PySem.W.kitOne K t (.type T) = some b ∧ Q (.bl b) H
theorem oqS : CallR X (.builtin "isinstance") (rIsi X.K) := by
 intro pins s σ H xs us Q I r h
 obtain ⟨x, T, t, b, rfl, ty, e, q⟩ := h
 obtain ⟨u, v, rfl, ru, rv⟩ := vals2 r
 cases (show v = Value.type T from rv)
 exact qqn I ru ty e fun tk => ⟨.bl b, H, I.tok tk, rfl, q⟩
def rCatD : R2 := fun x y H Q => ∃ a b xs ys, x = .ref a ∧ y = .ref b ∧ H a = some (.tup xs) ∧ H b = some (.tup ys) ∧ xs.length + ys.length ≤ sizeLine ∧ ∀ p H', Same H H' → H' p = some (.tup (xs ++ ys)) → Q (.ref p) H'
theorem uqe : OpR X (binaryOp .Add) rCatD := by
 intro pins s σ H x y v u Q I rx ry h
 obtain ⟨a, b, xs, ys, rfl, rfl, ha, hb, hz, q⟩ := h
 by_cases hx : xs = []
 ·subst hx
  cases rx
  cases ry
  obtain ⟨its, r1, p1, _⟩ := I.tuple (SqT.of ha)
  obtain ⟨its2, r2, p2, _⟩ := I.tuple (SqT.of hb)
  cases r1
  obtain ⟨⟨cls, dd, data, sl⟩, ho, hc, n, hd⟩ := id p1
  obtain ⟨⟨cls2, dd2, data2, sl2⟩, ho2, hc2, n2, hd2⟩ := id p2
  simp only at hc hd hc2 hd2
  subst hc hd hc2 hd2
  exact concat_meets ⟨_, ho, rfl⟩ ⟨_, ho2, rfl⟩ noFill_tuple_add seq_tuple_add PySem.F.slot_tuple_add PySem.F.entry_tuple_add (PySem.F.args_tuple_add_2 _ _)
   (tuple_addW0 a b ([] : List Value).toArray its2.toArray n n2 dd dd2 sl sl2 rfl) ⟨ho, ho2, ⟨.ref b, H, I, rfl, q b H (Same.refl _) hb⟩⟩
 ·refine uqY pins s σ H _ _ v u Q I rx ry ⟨a, b, xs, ys, rfl, rfl, SqT.of ha, SqT.of hb, hx, hz, fun e => q a H (Same.refl _) (by rw [e, List.append_nil]; exact ha), fun _ p hp => q p _ (fun b o e => by rw [aqv (aql e hp)]; exact e) aqg⟩
def rAddU (K : PySem.W.Frag) : R2 := fun x y H Q => match x, y with
 | .int i, .int j => Q (.int (i + j)) H
 | .str i, .str j => i.length + j.length ≤ sizeLine ∧ Q (.str (i ++ j)) H
 | .ref a, .ref b => (∃ xs zs, H a = some (.lst xs) ∧ H b = some (.lst zs) ∧ xs.length + zs.length ≤ sizeLine ∧ ∀ p, H p = none → Q (.ref p) (upd H p (.lst (xs ++ zs)))) ∨
   (∃ xs ys, H a = some (.tup xs) ∧ H b = some (.tup ys) ∧ xs.length + ys.length ≤ sizeLine ∧ ∀ p H', Same H H' → H' p = some (.tup (xs ++ ys)) → Q (.ref p) H')
 | _, _ => False
theorem pqQ : OpR X (binaryOp .Add) (rAddU X.K) := by
 intro pins s σ H x y v u Q I rx ry h
 cases x with
 | int i =>
  cases y with
  | int j => exact vqR pins s σ H _ _ v u Q I rx ry ⟨i, j, rfl, rfl, h⟩
  | _ => exact h.elim
 | str i =>
  cases y with
  | str j => exact pqc pins s σ H _ _ v u Q I rx ry ⟨i, j, rfl, rfl, h.1, h.2⟩
  | _ => exact h.elim
 | ref a =>
  cases y with
  | ref b =>
   rcases h with ⟨xs, zs, h1, h2, h3, h4⟩ | ⟨xs, ys, h1, h2, h3, h4⟩
   ·exact wqm pins s σ H _ _ v u Q I rx ry ⟨a, b, xs, zs, rfl, rfl, h1, h2, h3, h4⟩
   ·exact uqe pins s σ H _ _ v u Q I rx ry ⟨a, b, xs, ys, rfl, rfl, h1, h2, h3, h4⟩
  | _ => exact h.elim
 | _ => exact h.elim
theorem wqJ {K : PySem.W.Frag} {i j : Int} {H : Hp} {Q : VK} : rAddU K (.int i) (.int j) H Q ↔ Q (.int (i + j)) H := Iff.rfl
theorem wqf {K : PySem.W.Frag} {i j : Str} {H : Hp} {Q : VK} : rAddU K (.str i) (.str j) H Q ↔ i.length + j.length ≤ sizeLine ∧ Q (.str (i ++ j)) H := Iff.rfl
end
section
variable {X : Cx}
def rMulU : R2 := fun x y H Q => match x, y with
 | .int i, .int j => CMul i j ∧ Q (.int (i * j)) H
 | .str z, .int k => MulOk z k ∧ Q (.str (Txt.mul z k)) H
 | _, _ => False
theorem cqA : OpR X (binaryOp .Mult) rMulU := by
 intro pins s σ H x y v u Q I rx ry h
 cases x with
 | int i =>
  cases y with
  | int j => exact wqY pins s σ H _ _ v u Q I rx ry ⟨i, j, rfl, rfl, h.1, h.2⟩
  | _ => exact h.elim
 | str z =>
  cases y with
  | int k =>
   obtain ⟨t, rfl⟩ := rx
   obtain ⟨t', rfl⟩ := ry
   exact SB.mul h.1 fun t' k' => ⟨.str (Txt.mul z k), H, I.tok k', ⟨t', rfl⟩, h.2⟩
  | _ => exact h.elim
 | _ => exact h.elim
theorem wqa {i j : Int} {H : Hp} {Q : VK} : rMulU (.int i) (.int j) H Q ↔ CMul i j ∧ Q (.int (i * j)) H := Iff.rfl
theorem wq5 {z : Str} {k : Int} {H : Hp} {Q : VK} : rMulU (.str z) (.int k) H Q ↔ MulOk z k ∧ Q (.str (Txt.mul z k)) H := Iff.rfl
def rLenU (K : PySem.W.Frag) : List V → Hp → VK → Prop := fun xs H Q => match xs with
 | [.str z] => z.length ≤ sizeLine ∧ Q (.int z.length) H
 | [.ref p] => ∃ ys, (SqL K H p ys ∨ SqT K H p ys) ∧ Q (.int ys.length) H
 | _ => False
theorem qqR : CallR X (.builtin "len") (rLenU X.K) := by
 intro pins s σ H xs us Q I r h
 unfold rLenU at h
 split at h
 ·exact mqr pins s σ H _ us Q I r ⟨_, rfl, h.1, h.2⟩
 ·obtain ⟨ys, h1, h2⟩ := h
  exact nqo pins s σ H _ us Q I r ⟨_, ys, rfl, h1, h2⟩
 ·exact h.elim
theorem wqX {K : PySem.W.Frag} {z : Str} {H : Hp} {Q : VK} : rLenU K [.str z] H Q ↔ z.length ≤ sizeLine ∧ Q (.int z.length) H := Iff.rfl
theorem vq6 {K : PySem.W.Frag} {p : Addr} {H : Hp} {Q : VK} : rLenU K [.ref p] H Q ↔ ∃ ys, (SqL K H p ys ∨ SqT K H p ys) ∧ Q (.int ys.length) H := Iff.rfl
def rOrdU : List V → Hp → VK → Prop := fun xs H Q => match xs with
 | [.str z] => z.length = 1 ∧ Q (.int (z.cps.getD 0 0 : Nat)) H
 | _ => False
theorem pqZ : CallR X (.builtin "ord") rOrdU := by
 intro pins s σ H xs us Q I r h
 unfold rOrdU at h
 split at h
 ·exact rqy pins s σ H _ us Q I r ⟨_, rfl, h.1, h.2⟩
 ·exact h.elim
theorem wqh {c : Nat} {H : Hp} {Q : VK} : rOrdU [.str ⟨#[c]⟩] H Q ↔ Q (.int (c : Nat)) H := ⟨fun h => h.2, fun h => ⟨rfl, h⟩⟩
theorem hqb : bootBuiltins "int" = some (.type "int") := by decide +kernel
theorem nqV : bootBuiltins "str" = some (.type "str") := by decide +kernel
theorem tqy : bootBuiltins "bool" = some (.type "bool") := by decide +kernel
theorem jqr : bootBuiltins "tuple" = some (.type "tuple") := by decide +kernel
theorem rq4 : bootBuiltins "ord" = some (.builtin "ord") := by decide +kernel
theorem aqH : bootBuiltins "isinstance" = some (.builtin "isinstance") := by decide +kernel
def rIntU : List V → Hp → VK → Prop := fun xs H Q => match xs with
 | [.int i] => Q (.int i) H
 | [.bl k] => Q (.int (if k then 1 else 0)) H
 | _ => False
theorem eqj : CallR X (.type "int") rIntU := by
 intro pins s σ H xs us Q I r h
 unfold rIntU at h
 split at h
 ·exact mqg pins s σ H _ us Q I r (.inl ⟨_, rfl, h⟩)
 ·exact mqg pins s σ H _ us Q I r (.inr ⟨_, rfl, h⟩)
 ·exact h.elim
theorem xqu {k : Bool} {H : Hp} {Q : VK} : rIntU [.bl k] H Q ↔ Q (.int (if k then 1 else 0)) H := Iff.rfl
def rInU : R2 := fun x y H Q => match x, y with
 | .str i, .str j => Q (.bl (!(Builtin.Str.occurrences j i 0 j.length 1).isEmpty)) H
 | _, _ => False
theorem jqF : OpR X (compareOp .In) rInU := by
 intro pins s σ H x y v u Q I rx ry h
 cases x with
 | str i =>
  cases y with
  | str j => exact pqW pins s σ H _ _ v u Q I rx ry ⟨i, j, rfl, rfl, h⟩
  | _ => exact h.elim
 | _ => exact h.elim
def rNotInU : R2 := fun x y H Q => match x, y with
 | .str i, .str j => Q (.bl (!(!(Builtin.Str.occurrences j i 0 j.length 1).isEmpty))) H
 | _, _ => False
theorem wqL {c : Nat} {j : Str} {H : Hp} {Q : VK} : rInU (.str ⟨#[c]⟩) (.str j) H Q ↔ Q (.bl (decide (c ∈ j.cps.toList))) H := by
 show Q (.bl (!(Builtin.Str.occurrences j ⟨#[c]⟩ 0 j.length 1).isEmpty)) H ↔ _
 rw [StrLaws.found_one]
theorem pqv {c : Nat} {j : Str} {H : Hp} {Q : VK} : rNotInU (.str ⟨#[c]⟩) (.str j) H Q ↔ Q (.bl (!decide (c ∈ j.cps.toList))) H := by
 show Q (.bl (!(!(Builtin.Str.occurrences j ⟨#[c]⟩ 0 j.length 1).isEmpty))) H ↔ _
 rw [StrLaws.found_one]
def rIsN (neg : Bool) : R2 := fun x y H Q => y = .non ∧ Q (.bl (if neg then !decide (x = .non) else decide (x = .non))) H
theorem fqb : OpR X (compareOp .Is) (rIsN false) := fun pins s σ H x y v u Q I rx ry h => wqv pins s σ H x y v u Q I rx ry h
theorem fqz : OpR X (compareOp .IsNot) (rIsN true) := fun pins s σ H x y v u Q I rx ry h => uqf pins s σ H x y v u Q I rx ry h
theorem xqc {x : V} {H : Hp} {Q : VK} : rIsN false x .non H Q ↔ Q (.bl (decide (x = .non))) H := ⟨fun h => h.2, fun h => ⟨rfl, h⟩⟩
theorem xqx {x : V} {H : Hp} {Q : VK} : rIsN true x .non H Q ↔ Q (.bl (!decide (x = .non))) H := ⟨fun h => h.2, fun h => ⟨rfl, h⟩⟩
def kindV (x : V) (H : Hp) : Option String := match x with
 | .non => some "NoneType"
 | .bl _ => some "bool"
 | .int _ => some "int"
 | .str _ => some "str"
 | .ref a => match H a with
  | some (.lst _) => some "list"
  | some (.tup _) => some "tuple"
  | _ => none
 | _ => none
def subT (a b : String) : Bool := a == b || (a == "bool" && b == "int")
theorem qqe (K : PySem.W.Frag) : ∀ a ∈ ["NoneType", "bool", "int", "str", "list", "tuple"], ∀ b ∈ ["bool", "int", "str", "list", "tuple"], PySem.W.kitOne K (.type a) (.type b) = some (subT a b) := by
 intro a ha b hb
 simp only [List.mem_cons, List.not_mem_nil, or_false] at ha hb
 rcases ha with rfl | rfl | rfl | rfl | rfl | rfl <;> rcases hb with rfl | rfl | rfl | rfl | rfl <;> with_unfolding_all kernel_rfl
def rIsiU : List V → Hp → VK → Prop := fun vs H Q => match vs with
 | [x, .ty T] => ∃ k, kindV x H = some k ∧ T ∈ ["bool", "int", "str", "list", "tuple"] ∧ Q (.bl (subT k T)) H
 | _ => False
theorem jqJ : CallR X (.builtin "isinstance") rIsiU := by
 intro pins s σ H xs us Q I r h
 unfold rIsiU at h
 split at h
 ·rename_i x T
  obtain ⟨k, hk, hT, q⟩ := h
  have key : TyOf X.K H x (.type k) ∧ k ∈ ["NoneType", "bool", "int", "str", "list", "tuple"] := by
   unfold kindV at hk
   split at hk
   ·cases hk; exact ⟨.non, by decide⟩
   ·cases hk; exact ⟨.bl _, by decide⟩
   ·cases hk; exact ⟨.int _, by decide⟩
   ·cases hk; exact ⟨.str _, by decide⟩
   ·split at hk
    ·rename_i e; cases hk; exact ⟨.lst e, by decide⟩
    ·rename_i e; cases hk; exact ⟨.tup e, by decide⟩
    ·cases hk
   ·cases hk
  exact oqS pins s σ H _ us Q I r ⟨x, T, .type k, subT k T, rfl, key.1, qqe X.K k key.2 T hT, q⟩
 ·exact h.elim
end
section
variable {σ : St} {H : Hp} {Q : VK} {D : Ends} {K : PySem.W.Frag} {ta tb te : TE} {tt tu : TT} {t u : TS} {aa ab : TA} {v x y : V} {r r' : R2}
theorem vqB {i : Nat} : tVar i σ H Q ↔ ∃ v, σ[i]? = some (some v) ∧ Q v H := Iff.rfl
theorem rd_C : tC v σ H Q ↔ Q v H := Iff.rfl
theorem qqa : tSeq t u D σ H ↔ t { D with nx := u D } σ H := Iff.rfl
theorem wq3 {g : TG} : tAsg te g D σ H ↔ te σ H fun x H1 => g x σ H1 D.nx := Iff.rfl
theorem uqi {i : Nat} {R : St → Hp → Prop} : gName i v σ H R ↔ R (σ.set i (some v)) H := Iff.rfl
theorem wqZ : tIfS tt t u D σ H ↔ tt σ H fun b H1 => if b = true then t D σ H1 else u D σ H1 := Iff.rfl
theorem uq5 : tNext D σ H ↔ D.nx σ H := Iff.rfl
theorem vq1 : tBreak D σ H ↔ D.bk σ H := Iff.rfl
theorem vqA : tRet te D σ H ↔ te σ H D.rt := Iff.rfl
theorem uqN : tDrop te D σ H ↔ te σ H fun _ H1 => D.nx σ H1 := Iff.rfl
theorem xqB : tOp r ta tb σ H Q ↔ ta σ H fun x H1 => tb σ H1 fun y H2 => r x y H2 Q := Iff.rfl
theorem uqC {R : Bool → Hp → Prop} : tTest te σ H R ↔ te σ H fun x H' => ∃ k, x = .bl k ∧ R k H' := Iff.rfl
theorem rd_B {R : Bool → Hp → Prop} : tB te σ H R ↔ te σ H fun x H' => ∃ k, x = .bl k ∧ R k H' := Iff.rfl
theorem vq9 {R : Bool → Hp → Prop} : tAnd tt tu σ H R ↔ tt σ H fun c H1 => if c = true then tu σ H1 R else R false H1 := Iff.rfl
theorem xqj {R : Bool → Hp → Prop} : tOr tt tu σ H R ↔ tt σ H fun c H1 => if c = true then R true H1 else tu σ H1 R := Iff.rfl
theorem wqj {R : Bool → Hp → Prop} : tNot tt σ H R ↔ tt σ H fun c H1 => R (!c) H1 := Iff.rfl
theorem uqS : tAndV ta tb σ H Q ↔ ta σ H fun x H1 => ∃ c, x = .bl c ∧ if c = true then tb σ H1 Q else Q (.bl false) H1 := Iff.rfl
theorem wqn : tOrV ta tb σ H Q ↔ ta σ H fun x H1 => ∃ c, x = .bl c ∧ if c = true then Q (.bl true) H1 else tb σ H1 Q := Iff.rfl
theorem uqd : tNotV ta σ H Q ↔ ta σ H fun x H1 => ∃ c, x = .bl c ∧ Q (.bl (!c)) H1 := Iff.rfl
theorem xqp : tIf tt ta tb σ H Q ↔ tt σ H fun c H1 => if c = true then ta σ H1 Q else tb σ H1 Q := Iff.rfl
theorem rqu {tc : TE} : tChain r r' ta tb tc σ H Q ↔ ta σ H fun x H1 => tb σ H1 fun y H2 => r x y H2 fun z H3 => ∃ k, z = .bl k ∧ (if k = true then tc σ H3 fun w' H4 => r' y w' H4 Q else Q (.bl false) H3) := Iff.rfl
theorem wqE {R : List V → Hp → Prop} : tNil σ H R ↔ R [] H := Iff.rfl
theorem uq6 {R : List V → Hp → Prop} : tCons te aa σ H R ↔ te σ H fun x H1 => aa σ H1 fun xs H2 => R (x :: xs) H2 := Iff.rfl
theorem wqP : tLst aa σ H Q ↔ aa σ H fun xs H1 => xs.length ≤ sizeLine ∧ ∀ p, H1 p = none → Q (.ref p) (upd H1 p (.lst xs)) := Iff.rfl
theorem wq6 : tTup aa σ H Q ↔ aa σ H fun xs H1 => xs.length ≤ sizeLine ∧ ∀ p, H1 p = none → Q (.ref p) (upd H1 p (.tup xs)) := Iff.rfl
theorem uqG {sp : Sp} {dvs : List V} {E : XK} : tCall sp dvs E aa σ H Q ↔ aa σ H fun vs H1 => sp (vs ++ dvs) H1 Q E := Iff.rfl
theorem xqo {c : List V → Hp → VK → Prop} : tCB c aa σ H Q ↔ aa σ H fun vs H1 => c vs H1 Q := Iff.rfl
theorem xqe {T : String} {m : V → List V → Hp → VK → Prop} : tBM K T m te aa σ H Q ↔ te σ H fun x H1 => tyV K T x H1 ∧ aa σ H1 fun xs H2 => m x xs H2 Q := Iff.rfl
theorem wqN {T : String} {m : V → List V → Hp → VK → Prop} : tBM0 K T m te σ H Q ↔ te σ H fun x H1 => tyV K T x H1 ∧ m x [] H1 Q := Iff.rfl
theorem xqC {m : V → Option Int → Option Int → Hp → VK → Prop} {tl th : TO} : tSl m te tl th σ H Q ↔ te σ H fun x H1 => tl σ H1 fun l H2 => th σ H2 fun u H3 => m x l u H3 Q := Iff.rfl
theorem pqO {R : Option Int → Hp → Prop} : tNoPart σ H R ↔ R none H := Iff.rfl
theorem uqy {R : Option Int → Hp → Prop} : tPart te σ H R ↔ te σ H fun x H1 => ∃ i, x = .int i ∧ R (some i) H1 := Iff.rfl
theorem rqJ {z : Str} : tyV K "str" (.str z) H ↔ True := ⟨fun _ => trivial, fun _ => rfl⟩
theorem rd_I {C : Int → Int → Prop} {g : Int → Int → V} {i j : Int} : rI C g (.int i) (.int j) H Q ↔ C i j ∧ Q (g i j) H :=
 ⟨fun ⟨_, _, h1, h2, h3⟩ => by cases h1; cases h2; exact h3, fun h => ⟨i, j, rfl, rfl, h⟩⟩
theorem xqf {g : Int → Int → V} {i j : Int} : rI0 g (.int i) (.int j) H Q ↔ Q (g i j) H :=
 ⟨fun ⟨_, _, h1, h2, h3⟩ => by cases h1; cases h2; exact h3, fun h => ⟨i, j, rfl, rfl, h⟩⟩
theorem uqH {i j : Int} : rEq (.int i) (.int j) H Q ↔ Q (.bl (decide (i = j))) H := by
 unfold rEq scal; simp only [true_and, V.int.injEq]
theorem iqy {i j : Str} : rEq (.str i) (.str j) H Q ↔ Q (.bl (decide (i = j))) H := by
 unfold rEq scal; simp only [true_and, V.str.injEq]
theorem tqN {i j : Bool} : rEq (.bl i) (.bl j) H Q ↔ Q (.bl (decide (i = j))) H := by
 unfold rEq scal; simp only [true_and, V.bl.injEq]
theorem vqd {i j : Int} : rNe (.int i) (.int j) H Q ↔ Q (.bl (!decide (i = j))) H := by
 unfold rNe scal; simp only [true_and, V.int.injEq]
theorem uq9 {i j : Str} : rNe (.str i) (.str j) H Q ↔ Q (.bl (!decide (i = j))) H := by
 unfold rNe scal; simp only [true_and, V.str.injEq]
theorem tq6 {i j : Bool} : rNe (.bl i) (.bl j) H Q ↔ Q (.bl (!decide (i = j))) H := by
 unfold rNe scal; simp only [true_and, V.bl.injEq]
theorem tqC : rNe .non .non H Q ↔ Q (.bl false) H := ⟨fun h => h.2, fun h => ⟨rfl, h⟩⟩
theorem vqb {i : Str} : rNe (.str i) .non H Q ↔ Q (.bl true) H := ⟨fun h => h.2, fun h => ⟨rfl, h⟩⟩
theorem rqE {i : Str} : rNe .non (.str i) H Q ↔ Q (.bl true) H := ⟨fun h => h.2, fun h => ⟨rfl, h⟩⟩
theorem uqZ : rEq .non .non H Q ↔ Q (.bl true) H := ⟨fun h => h.2, fun h => ⟨rfl, h⟩⟩
theorem uqW {i : Str} : rEq (.str i) .non H Q ↔ Q (.bl false) H := ⟨fun h => h.2, fun h => ⟨rfl, h⟩⟩
theorem rqs {i : Str} : rEq .non (.str i) H Q ↔ Q (.bl false) H := ⟨fun h => h.2, fun h => ⟨rfl, h⟩⟩
theorem vqQ {z : Str} {i : Int} : rIx K (.str z) (.int i) H Q ↔ ∃ c, z.length ≤ sizeLine ∧ atI z.cps.toList i = some c ∧ Q (.str ⟨#[c]⟩) H := by
 constructor
 ·rintro (⟨p, xs, j, v, h, _⟩ | ⟨p, xs, j, v, h, _⟩ | ⟨z', j, c, h1, h2, h3, h4, h5⟩)
  ·cases h
  ·cases h
  ·cases h1; cases h2; exact ⟨c, h3, h4, h5⟩
 ·rintro ⟨c, h3, h4, h5⟩
  exact .inr (.inr ⟨z, i, c, rfl, rfl, h3, h4, h5⟩)
theorem wq9 {z : Str} {lo hi : Option Int} : rSl K (.str z) lo hi H Q ↔ z.length ≤ sizeLine ∧ Q (.str (Txt.slice z lo hi)) H := by
 constructor
 ·rintro (⟨a, xs, h, _⟩ | ⟨z', h1, h2, h3⟩)
  ·cases h
  ·cases h1; exact ⟨h2, h3⟩
 ·rintro ⟨h2, h3⟩
  exact .inr ⟨z, rfl, h2, h3⟩
end
section
variable {σ : St} {H : Hp} {Q : VK} {K : PySem.W.Frag}
theorem wqw {a : Addr} {lo hi : Option Int} : rSl K (.ref a) lo hi H Q ↔ ∃ xs, SqL K H a xs ∧ ∀ p, H p = none → Q (.ref p) (upd H p (.lst (cutV xs lo hi))) := by
 constructor
 ·rintro (⟨a', xs, h, h2⟩ | ⟨z', h1, _⟩)
  ·cases h; exact ⟨xs, h2⟩
  ·cases h1
 ·rintro ⟨xs, h2⟩
  exact .inl ⟨a, xs, rfl, h2⟩
theorem iqR {p : Addr} {i : Int} : rIx K (.ref p) (.int i) H Q ↔ ∃ xs v, (SqL K H p xs ∨ SqT K H p xs) ∧ atI xs i = some v ∧ Q v H := by
 constructor
 ·rintro (⟨p', xs, j, v, h, h2, h3, h4⟩ | ⟨p', xs, j, v, h, h2, h3, h4⟩ | ⟨z', j, c, h1, _⟩)
  ·cases h; cases h2; exact ⟨xs, v, .inl h3, h4⟩
  ·cases h; cases h2; exact ⟨xs, v, .inr h3, h4⟩
  ·cases h1
 ·rintro ⟨xs, v, h | h, h2⟩
  ·exact .inl ⟨p, xs, i, v, rfl, rfl, h, h2⟩
  ·exact .inr (.inl ⟨p, xs, i, v, rfl, rfl, h, h2⟩)
theorem vqY {a b : Addr} : rAddU K (.ref a) (.ref b) H Q ↔ (∃ xs zs, H a = some (.lst xs) ∧ H b = some (.lst zs) ∧ xs.length + zs.length ≤ sizeLine ∧ ∀ p, H p = none → Q (.ref p) (upd H p (.lst (xs ++ zs)))) ∨
   (∃ xs ys, H a = some (.tup xs) ∧ H b = some (.tup ys) ∧ xs.length + ys.length ≤ sizeLine ∧ ∀ p H', Same H H' → H' p = some (.tup (xs ++ ys)) → Q (.ref p) H') := Iff.rfl
theorem cx_K {CX : CXT} {P : Program} {w : World} {mg : Str → Option Value} {base : Heap} {N : List Str} {qual : Str} {scope : Scope} {f : Addr} {cd : Value} {A : Around} {outer : List Env} {s : Shared} {E : XK} :
  (cxOf CX P w K mg base N qual scope f cd A outer s H E).K = K := rfl
end
def LoopI (J : It) (g : TG) (tb : TS) (D : Ends) (σ : St) (H : Hp) : Prop := ∃ W : Nat → Nat → St → Hp → Prop, (∃ m, W 0 m σ H) ∧ ∀ i m σ H, W i m σ H →
 (J.stop i H ∧ D.nx σ H) ∨ (J.go i H ∧ ∃ N : St → Hp → Prop, (∀ σ' H', N σ' H' → ∃ m', m' < m ∧ W (i + 1) m' σ' H') ∧ ∀ x H', J.yld i H x H' → g x σ H' fun σ2 H2 => tb { D with nx := N, ct := N, bk := D.nx } σ2 H2)
section
variable {σ : St} {H : Hp} {D : Ends} {K : PySem.W.Frag} {te : TE} {g : TG} {tb : TS} {aa : TA}
theorem uq3 : tFor (iStr te) g tb D σ H ↔ te σ H fun x H1 => ∃ z, x = .str z ∧ LoopI (Its z) g tb D σ H1 := Iff.rfl
theorem tqs : tFor (iList K te) g tb D σ H ↔ te σ H fun x H1 => ∃ a, x = .ref a ∧ (∃ xs, SqL K H1 a xs) ∧ LoopI (Itl K a) g tb D σ H1 := Iff.rfl
theorem uqK : tFor (iRng1 aa) g tb D σ H ↔ aa σ H fun vs H1 => ∃ j : Int, vs = [.int j] ∧ -(2 ^ 62) ≤ j ∧ j < 2 ^ 62 ∧ LoopI (Itr 0 j.toNat) g tb D σ H1 := Iff.rfl
theorem qqA {a : Addr} {xs : List V} (Pv : Nat → St → Hp → Prop) (h0 : Pv 0 σ H) (hl : ∀ i σ H, i ≤ xs.length → Pv i σ H → SqL K H a xs)
  (hs : ∀ i x σ H, xs[i]? = some x → Pv i σ H → g x σ H fun σ2 H2 => tb { D with nx := Pv (i + 1), ct := Pv (i + 1), bk := D.nx } σ2 H2) (hd : ∀ σ H, Pv xs.length σ H → D.nx σ H) : LoopI (Itl K a) g tb D σ H := sqk Pv h0 hl hs hd
theorem eqf {lo : Int} {n : Nat} (Pv : Nat → St → Hp → Prop) (h0 : Pv 0 σ H)
  (hs : ∀ i σ H, i < n → Pv i σ H → g (.int (lo + i)) σ H fun σ2 H2 => tb { D with nx := Pv (i + 1), ct := Pv (i + 1), bk := D.nx } σ2 H2) (hd : ∀ σ H, Pv n σ H → D.nx σ H) : LoopI (Itr lo n) g tb D σ H := pqF Pv h0 hs hd
end
end L2
namespace L2
open PySem PySem.Spec PyProof.Rows
section
variable {prog : Program} {w : World} {A : Around} {R : Result → Shared → Prop} {s : Shared}
theorem iqQ {elt target iter : Expr} {ifs : List Expr} {scope : Scope} {pos : Pos} {it acc : Value} {env : Env} (I : Nat → Shared → Prop)
  (turn : ∀ n s, I n s → wpAny (model prog w) A (pyNext it) (fun r s₁ => match r with
   | none => R (.ok .next) s₁
   | some v => wpAny (model prog w) A (letOwnedTupleGo target it v) (fun _ s₁' => wpAny (model prog w) A (assign target env v) (fun _ s₂ =>
     wpAny (model prog w) A (forIn ifs true fun c r => if r = true then do let ok ← isTrue c env (eval c env); pure (ForInStep.yield ok) else pure (ForInStep.yield r)) (fun ok s₃ =>
      if ok = true then wpAny (model prog w) A (eval elt env) (fun x s₄ =>
       wpAny (model prog w) A (call (.builtin "list.append") [acc, x]) (fun _ s₅ => ∃ m, m < n ∧ I m s₅) (fun _ _ => False) s₄) (fun _ _ => False) s₃
      else ∃ m, m < n ∧ I m s₃) (fun _ _ => False) s₂) (fun _ _ => False) s₁') (fun _ _ => False) s₁) (fun _ _ => False) s)
  (n : Nat) (h : I n s) : codeAny (model prog w) A (.compLoop (.ListComp elt [⟨target, iter, ifs, 0⟩] scope pos) 0 it acc env) R s := by
 refine codeAny_loop rfl I (fun n s hI => ?_) n h
 show wpAny _ A ((compTurn (.ListComp elt [⟨target, iter, ifs, 0⟩] scope pos) 0 it acc env).onRaise (fun x => do noteFrame x env; theTreesLotGoes x)) _ _ s
 refine wpAny_noted ?_
 rw [compTurn_list]
 refine wpAny_bind (wpAny_standAt (wpAny_bind (wpAny_mono (turn n s hI) (fun r s₁ h₁ => ?_) fun _ _ h' => h'.elim)))
 cases r with
 | none => exact wpAny_pure h₁
 | some v =>
  refine wpAny_bind (wpAny_mono h₁ (fun _ s₁' h₁' => wpAny_bind (wpAny_mono h₁' (fun _ s₂ h₂ => wpAny_bind (wpAny_mono h₂ (fun ok s₃ h₃ => ?_) fun _ _ h' => h'.elim)) fun _ _ h' => h'.elim)) fun _ _ h' => h'.elim)
  cases ok with
  | false => exact wpAny_pure ⟨rfl, h₃⟩
  | true =>
   exact wpAny_bind (wpAny_bind (wpAny_mono h₃ (fun x s₄ h₄ => wpAny_bind (wpAny_mono h₄ (fun _ s₅ h₅ => wpAny_pure (wpAny_pure ⟨rfl, h₅⟩)) fun _ _ h' => h'.elim)) fun _ _ h' => h'.elim))
end
def compCx (X : Cx) (N' : List Str) (scope : Scope) (cl : List (Str × Addr)) (s : Shared) (H : Hp) (fp : List Addr) : Cx :=
 { X with N := N', s₀ := s, H₀ := H, env := compEnvC scope cl s.heap.objs.size X.env, outer := X.stack, stack := X.stack, ex := fp, fn := fun _ => false, pn := [], xe := fun _ _ => False }
inductive Frees (X : Cx) (rs : Scope) (cl : List (Str × Addr)) : List Str → List Nat → Prop where
 | nil : Frees X rs cl [] []
 | cons {y : Str} {i : Nat} {fx : List Str} {fr : List Nat} (h1 : X.N[i]? = some y) (h2 : X.env.kindOf y = some .cell) (h3 : rs.names.lookup y = some .cell) (h4 : cl.lookup y = X.env.cells.lookup y) (r : Frees X rs cl fx fr) : Frees X rs cl (y :: fx) (i :: fr)
def frV (σ : St) (fr : List Nat) : St := fr.map fun i => (σ[i]?).getD none
theorem Frees.len {X : Cx} {rs : Scope} {cl : List (Str × Addr)} {fx : List Str} {fr : List Nat} (F : Frees X rs cl fx fr) : fr.length = fx.length := by
 induction F with
 | nil => rfl
 | cons _ _ _ _ _ ih => simp [ih]
theorem Frees.at {X : Cx} {rs : Scope} {cl : List (Str × Addr)} {σ : St} : ∀ {fx : List Str} {fr : List Nat}, Frees X rs cl fx fr → ∀ (j : Nat) (y : Str) (v : V), fx[j]? = some y → (frV σ fr)[j]? = some (some v) →
  ∃ i : Nat, X.N[i]? = some y ∧ σ[i]? = some (some v) ∧ X.env.kindOf y = some .cell ∧ rs.names.lookup y = some .cell ∧ cl.lookup y = X.env.cells.lookup y
 | _, _, .nil, j, y, v, h, _ => by simp at h
 | _, _, .cons (y := z) (i := i) h1 h2 h3 h4 r, 0, y, v, h, hv => by
  simp only [List.getElem?_cons_zero, Option.some.injEq] at h
  subst h
  simp only [frV, List.map_cons, List.getElem?_cons_zero, Option.some.injEq] at hv
  refine ⟨i, h1, ?_, h2, h3, h4⟩
  cases e : σ[i]? with
  | none => rw [e] at hv; cases hv
  | some o => rw [e] at hv; exact congrArg some hv
 | _, _, .cons h1 h2 h3 h4 r, j + 1, y, v, h, hv => by
  simp only [List.getElem?_cons_succ] at h
  simp only [frV, List.map_cons, List.getElem?_cons_succ] at hv
  exact r.at j y v h hv
theorem Frees.mem {X : Cx} {rs : Scope} {cl : List (Str × Addr)} : ∀ {fx : List Str} {fr : List Nat}, Frees X rs cl fx fr → ∀ y ∈ fx, X.env.kindOf y = some .cell ∧ cl.lookup y = X.env.cells.lookup y
 | _, _, .nil, y, h => by simp at h
 | _, _, .cons h1 h2 h3 h4 r, y, h => by
  rcases List.mem_cons.mp h with rfl | h
  ·exact ⟨h2, h4⟩
  ·exact r.mem y h
section
variable {X : Cx} {pins : List (Addr × Obj)} {σ : St} {H1 : Hp} {s3 : Shared} {x : Str} {fx : List Str} {fr : List Nat} {scope : Scope} {cl : List (Str × Addr)} {fp : List Addr}
theorem tqF (I : Inv X pins σ H1 s3) (hkind : scope.kind = .function) (hcl : ∀ y c, cl.lookup y = some c → X.env.cells.lookup y = some c)
  (F : Frees X (relabel scope X.env) cl fx fr) (hfx : ((relabel scope X.env).names.all fun p => if (p.2 == .cell || p.2 == .free) then fx.contains p.1 else true) = true)
  (ffp : ∀ b ∈ fp, FpOk X pins H1 b) (flt : ∀ b ∈ fp, b < s3.heap.objs.size) : (compCx X (x :: fx) scope cl s3 H1 fp).Ok where
 mod := I.ok.mod
 kind := hkind
 glob := I.ok.glob
 blt := I.ok.blt
 above := Nat.le_refl _
 inj := fun y z c h1 h2 => I.ok.inj y z c (hcl y c h1) (hcl z c h2)
 has := fun y h => by
  have h : (relabel scope X.env).names.lookup y = some .cell ∨ (relabel scope X.env).names.lookup y = some .free := h
  have key : y ∈ fx := by
   rcases h with h | h
   ·have q := List.all_eq_true.mp hfx _ (PySem.mem_of_lookup h)
    simpa using q
   ·have q := List.all_eq_true.mp hfx _ (PySem.mem_of_lookup h)
    simpa using q
  obtain ⟨k1, k2⟩ := F.mem y key
  obtain ⟨c, e⟩ := I.ok.has y (.inl k1)
  exact ⟨c, k2.trans e⟩
 cab := fun y c h => by cases (show false = true from h)
 hd := I.ok.hd
 frames := I.ok.frames
 stk := .inl rfl
 exf := fun b hb => ⟨Nat.ne_of_lt (flt b hb), fun y c e => (ffp b hb).2.2.2.2.1 y c (hcl y c e)⟩
 bs := I.bs
 bsz := Nat.le_trans I.ok.bsz I.sz
 noex := fun b o e hb => by
  rcases (ffp b hb).2.2.2.1 with z | z
  ·exact I.ok.noex b o e z
  ·exact absurd (Nat.lt_of_lt_of_le (Heap.lt_size (I.ok.bs b o e).1) z) (Nat.lt_irrefl _)
 exfs := fun b hb z => by
  rcases List.mem_cons.mp (I.stkSub b z) with q | q
  ·exact (ffp b hb).2.1 q
  ·exact (ffp b hb).2.2.1 q
 funs := I.stack
 frf := I.stkFree
theorem oq5 (I : Inv X pins σ H1 s3) (hkind : scope.kind = .function) (hcl : ∀ y c, cl.lookup y = some c → X.env.cells.lookup y = some c)
  (F : Frees X (relabel scope X.env) cl fx fr) (hfx : ((relabel scope X.env).names.all fun p => if (p.2 == .cell || p.2 == .free) then fx.contains p.1 else true) = true)
  (ffp : ∀ b ∈ fp, FpOk X pins H1 b) (flt : ∀ b ∈ fp, b < s3.heap.objs.size) {h1 : Heap} {t : Nat} {m : Str → Option Value} (hn : h1.Ns s3.heap.objs.size m)
  (keep : ∀ b u, s3.heap.get? b = some u → h1.get? b = some u) : Inv (compCx X (x :: fx) scope cl s3 H1 fp) [] (none :: frV σ fr) H1 { s3 with heap := h1, toks := t } := by
 refine ⟨tqF I hkind hcl F hfx ffp flt, rfl, I.bare, Un.kept keep, ⟨m, hn, fun i y v e1 e2 e3 => ?_⟩, fun y c e => ?_, I.hok.fresh (Nat.le_refl _), fun y c e => I.freeC y c (hcl y c e), fun p hp => absurd (show p ∈ ([] : List (Addr × Obj)) from hp) (by simp), I.hok.kept keep, ?_⟩
 ·cases i with
  | zero => simp at e2
  | succ j =>
   obtain ⟨i0, k1, k2, k3, k4, k5⟩ := F.at (σ := σ) j y v (by simpa [compCx] using e1) (by simpa using e2)
   obtain ⟨m0, hn0, hl0⟩ := I.loc
   obtain ⟨u, r, l⟩ := hl0 i0 y v k1 k2 (.inr (.inl k3))
   refine ⟨u, r, ?_⟩
   rcases l with ⟨z, _⟩ | ⟨_, c, e, o, ho, hd⟩
   ·rw [k3] at z; cases z
   ·exact .inr ⟨.inl k4, c, k5.trans e, o, keep c o ho, hd⟩
 ·obtain ⟨v, o, ho, hd⟩ := I.cell y c (hcl y c e)
  exact ⟨v, o, keep c o ho, hd⟩
 ·show (none :: frV σ fr).length = (x :: fx).length
  simp [frV, F.len]
theorem nqh {N' : List Str} {pins' : List (Addr × Obj)} {σ' : St} {H2 : Hp} {s' : Shared} {h' : Heap} (I : Inv X pins σ H1 s3) (J : Inv (compCx X N' scope cl s3 H1 fp) pins' σ' H2 s') (ffp : ∀ b ∈ fp, FpOk X pins H1 b)
  (sb : Heap.SameBut s3.heap.objs.size s'.heap h') : Inv X pins σ H2 { s' with heap := h' } := by
 have k : ∀ b u, b ≠ s3.heap.objs.size → s'.heap.get? b = some u → h'.get? b = some u := fun b u hb e => sb.extBut b u hb e
 have lt : ∀ b u, s3.heap.get? b = some u → b ≠ s3.heap.objs.size := fun b u e => Nat.ne_of_lt (Heap.lt_size e)
 have u : Un (frs X.stack) fp H1 H2 s3.heap s'.heap := J.base
 have u' : Un (frs X.stack) fp H1 H2 s3.heap h' :=
  ⟨fun b o q n hb hx => k b o (lt b o q) (u.keep b o q n hb hx), fun b o q n hb hx => by
    obtain ⟨sl, e⟩ := u.slot b o q n hb hx
    exact ⟨sl, k b _ (lt b o q) e⟩, u.free, fun b o q hx => by
    obtain ⟨o', e⟩ := u.there b o q hx
    exact ⟨o', k b _ (lt b o q) e⟩, u.tups, u.frzs, u.tbls⟩
 have nC : H2 s3.heap.objs.size = none := J.free
 have hok : HOk X.prog X.w H2 h' := fun b uo e => by
  refine (J.hok b uo e).stay (fun c v hc q => k c v ?_ q) (fun _ q => q) fun _ _ q => q
  rintro rfl
  rcases hc with z | z
  ·rw [← z, nC] at e; cases e
  ·rw [nC] at z; cases z
 have os : s'.os = s3.os := J.os
 have bare := J.bare
 obtain ⟨hh, g, d, t, os'⟩ := s'
 obtain rfl : os' = s3.os := os
 have fin := I.call (h' := h') (g' := g) (d' := d) (t' := t) (ch := fp) u' hok bare fun b hb => by
  obtain ⟨f0, f1, f2, f3, f4, f5⟩ := ffp b hb
  exact ⟨f3, f1, f4, f5⟩
 exact fin
end
def PF (X : Cx) (ifs : List Expr) (t : TT) : Prop :=
 ∀ (pins : List (Addr × Obj)) (s : Shared) (σ : St) (H : Hp) (Q : Bool → Hp → Prop), Inv X pins σ H s → t σ H Q →
  wpAny (model X.prog X.w) X.A (forIn ifs true fun c r => if r = true then do let ok ← isTrue c X.env (eval c X.env); pure (ForInStep.yield ok) else pure (ForInStep.yield r)) (TP X pins σ Q) X.xe s
def tYes : TT := fun _ H Q => Q true H
theorem mqA {X : Cx} : PF X [] tYes := fun _ _ _ H _ I h => wpAny_tests_nil ⟨H, I, h⟩
def CompI (J : It) (p : Addr) (fv : St) (tt : TT) (te : TE) (Q : VK) (H1 : Hp) : Prop :=
 ∃ W : Nat → Nat → List V → Hp → Prop, (∃ m, W 0 m [] (upd H1 p (.lst []))) ∧ ∀ i m ys H2, W i m ys H2 → H2 p = some (.lst ys) ∧
  ((J.stop i H2 ∧ Q (.ref p) H2) ∨ (J.go i H2 ∧ ys.length < sizeLine ∧ ∀ x H3, J.yld i H2 x H3 → tt (some x :: fv) H3 fun b H4 =>
   if b = true then te (some x :: fv) H4 fun y H5 => H5 p = some (.lst ys) ∧ ∃ m', m' < m ∧ W (i + 1) m' (ys ++ [y]) (upd H5 p (.lst (ys ++ [y])))
   else ∃ m', m' < m ∧ W (i + 1) m' ys H4))
def tComp (wi : TI) (fr : List Nat) (tt : TT) (te : TE) : TE := fun σ H Q => wi σ H fun J H1 => ∀ p, H1 p = none → CompI J p (frV σ fr) tt te Q H1
section
variable {X : Cx} {elt iter : Expr} {x : Str} {px pos : Pos} {ifs : List Expr} {scope : Scope} {cl : List (Str × Addr)} {fx : List Str} {fr : List Nat} {wi : TI} {tt : TT} {te : TE}
theorem oqY {pins : List (Addr × Obj)} {σ : St} {H3 : Hp} {s3 : Shared} {it p : Addr} {fp : List Addr} {tn : Nat → Heap → Prop} {J : It} {Q : VK} {W : Nat → Nat → List V → Hp → Prop} {m0 t : Nat} {h₁ : Heap} {m : Str → Option Value} {RR : Result → Shared → Prop}
  (hc : X.calm = true) (hkind : scope.kind = .function) (hx : scope.names.lookup x = some .local) (hnd : (x :: fx).Nodup)
  (hcl : ∀ y c, cl.lookup y = some c → X.env.cells.lookup y = some c) (F : Frees X (relabel scope X.env) cl fx fr)
  (hfx : ((relabel scope X.env).names.all fun p => if (p.2 == .cell || p.2 == .free) then fx.contains p.1 else true) = true)
  (ht : ∀ s H fp, PF (compCx X (x :: fx) scope cl s H fp) ifs tt) (he : ∀ s H fp, PE (compCx X (x :: fx) scope cl s H fp) elt te)
  (I3 : Inv X pins σ H3 s3) (T : Turn X.prog X.w X.K (.Name x px) J fp it tn) (st3 : tn 0 s3.heap) (ffp : ∀ b ∈ fp, FpOk X pins H3 b) (flt3 : ∀ b ∈ fp, b < s3.heap.objs.size)
  (w0 : W 0 m0 [] H3) (turn : ∀ i m ys H2, W i m ys H2 → H2 p = some (.lst ys) ∧
   ((J.stop i H2 ∧ Q (.ref p) H2) ∨ (J.go i H2 ∧ ys.length < sizeLine ∧ ∀ x H3, J.yld i H2 x H3 → tt (some x :: frV σ fr) H3 fun b H4 =>
    if b = true then te (some x :: frV σ fr) H4 fun y H5 => H5 p = some (.lst ys) ∧ ∃ m', m' < m ∧ W (i + 1) m' (ys ++ [y]) (upd H5 p (.lst (ys ++ [y])))
    else ∃ m', m' < m ∧ W (i + 1) m' ys H4)))
  (hns : h₁.Ns s3.heap.objs.size m) (keep1 : ∀ b u, s3.heap.get? b = some u → h₁.get? b = some u)
  (fin : ∀ s6 H5 o, Inv (compCx X (x :: fx) scope cl s3 H3 fp) [] (o :: frV σ fr) H5 s6 → Q (.ref p) H5 → RR (.ok .next) s6) :
  codeAny (model X.prog X.w) X.A (.compStart (.ListComp elt [⟨.Name x px, iter, ifs, 0⟩] scope pos) 0 (.ref it) (.ref p) (compEnvC scope cl s3.heap.objs.size X.env))
   RR { s3 with heap := h₁, toks := t } := by
 have I4 := oq5 (x := x) (t := t) I3 hkind hcl F hfx ffp flt3 hns keep1
 have st4 : tn 0 h₁ := T.keep _ _ _ st3 fun b hb o e => keep1 b o e
 have fp0 : ∀ b ∈ fp, H3 b = none := fun b hb => (ffp b hb).1
 have hcal : (compCx X (x :: fx) scope cl s3 H3 fp).calm = true := hc
 have stat : ∀ {H' : Hp}, (∀ b ∈ fp, H' b = none) → ∀ b ∈ fp, FpOk (compCx X (x :: fx) scope cl s3 H3 fp) [] H' b := fun {H'} hn b hb => by
  obtain ⟨f0, f1, f2, f3, f4, f5⟩ := ffp b hb
  exact ⟨hn b hb, Nat.ne_of_lt (flt3 b hb), I4.ok.exfs b hb, .inl hb, fun y c e => f4 y c (hcl y c e), fun q hq => absurd (show q ∈ ([] : List (Addr × Obj)) from hq) (by simp)⟩
 have hxl : (relabel scope X.env).names.lookup x = some .local := lookup_relabel_local hx
 have pg : PG (compCx X (x :: fx) scope cl s3 H3 fp) (.Name x px) (gName 0) := bqN (i := 0) hnd rfl (.inl hxl) (.inr hxl)
 have loop : codeAny (model X.prog X.w) X.A (.compLoop (.ListComp elt [⟨.Name x px, iter, ifs, 0⟩] scope pos) 0 (.ref it) (.ref p) (compEnvC scope cl s3.heap.objs.size X.env))
    RR { s3 with heap := h₁, toks := t } := by
  refine iqQ (fun n s' => ∃ i ys H' o, Inv (compCx X (x :: fx) scope cl s3 H3 fp) [] (o :: frV σ fr) H' s' ∧ tn i s'.heap ∧ (∀ b ∈ fp, H' b = none) ∧ W i n ys H') ?_ m0 ⟨0, [], _, none, I4, st4, fp0, w0⟩
  rintro n s5 ⟨i, ys, H5, o, I5, st5, fr5, w5⟩
  obtain ⟨hp5, alt⟩ := turn i n ys H5 w5
  rcases alt with ⟨stop, qn⟩ | ⟨go, hlen, step⟩
  ·refine thn (T.done (compCx X (x :: fx) scope cl s3 H3 fp) rfl rfl rfl hcal i [] s5 (o :: frV σ fr) H5 _ I5 (stat fr5) st5 stop) fun r s6 ⟨hr, I6⟩ => ?_
   subst hr
   exact fin s6 H5 o I6 qn
  ·refine thn (T.item (compCx X (x :: fx) scope cl s3 H3 fp) rfl rfl rfl hcal i [] s5 (o :: frV σ fr) H5 _ I5 (stat fr5) st5 go) fun r s6 ⟨u, hr, h6⟩ => ?_
   subst hr
   refine thn h6 fun _ s7 ⟨y7, H7, I7, r7, yl7, st7, fr7⟩ => ?_
   have I7' := I7.pinned (stat fr7) (T.obj _ _ st7)
   have back : ∀ {σ' : St} {H' : Hp} {s' : Shared}, Inv (compCx X (x :: fx) scope cl s3 H3 fp) ([] ++ pinsAt fp s7.heap) σ' H' s' → tn (i + 1) s'.heap ∧ ∀ b ∈ fp, H' b = none := fun {σ' H' s'} I' => by
    refine ⟨T.keep _ _ _ st7 fun b hb o e => (I'.pin (b, o) (List.mem_append_right _ (List.mem_append_right _ (eqg hb e)))).1, fun b hb => ?_⟩
    obtain ⟨o, e, d⟩ := T.obj _ _ st7 b hb
    exact (I'.pin (b, o) (List.mem_append_right _ (List.mem_append_right _ (eqg hb e)))).2.1
   refine thn (pg _ s7 _ H7 y7 u (fun σ' H' => σ' = some y7 :: frV σ fr ∧ H' = H7) I7' r7 ⟨rfl, rfl⟩) fun _ s8 ⟨σ8, H8, I8, e8, e8'⟩ => ?_
   subst e8 e8'
   refine thn (ht s3 H3 fp _ s8 _ _ _ I8 (step y7 _ yl7)) fun b s9 ⟨H9, I9, q9⟩ => ?_
   cases b with
   | false =>
    rw [if_neg Bool.false_ne_true] at q9 ⊢
    obtain ⟨m', hm, w9⟩ := q9
    exact ⟨m', hm, i + 1, ys, H9, some y7, I9.unpinned, (back I9).1, (back I9).2, w9⟩
   | true =>
    rw [if_pos rfl] at q9 ⊢
    refine thn (he s3 H3 fp _ s9 _ H9 _ I9 q9) fun u10 s10 ⟨y10, H10, I10, r10, hp10, m', hm, w10⟩ => ?_
    refine thn (dqD _ s10 _ H10 (.ref p) [y10] (.ref p) [u10] (fun _ H' => H' = upd H10 p (.lst (ys ++ [y10]))) I10 rfl (.cons r10 .nil) ⟨p, ys, y10, rfl, rfl, hp10, hlen, rfl⟩) fun _ s11 ⟨_, H11, I11, _, e11⟩ => ?_
    subst e11
    exact ⟨m', hm, i + 1, ys ++ [y10], _, some y7, I11.unpinned, (back I11).1, (back I11).2, w10⟩
 exact codeAny_compStart_list loop (T.self _ 0 _ _ _ st4 loop)
theorem lqO (hc : X.calm = true) (hclos : closureFor scope X.env = pure cl) (hcell : ∀ y ∈ scope.names, y.2 ≠ .cell) (hkind : scope.kind = .function)
  (hnames : ∀ y ∈ scope.names, y.2 = .local → scope.names.lookup y.1 = some .local) (hx : scope.names.lookup x = some .local) (hnd : (x :: fx).Nodup)
  (hk : (cl.all fun q => fx.contains q.1) = true) (F : Frees X (relabel scope X.env) cl fx fr)
  (hfx : ((relabel scope X.env).names.all fun p => if (p.2 == .cell || p.2 == .free) then fx.contains p.1 else true) = true)
  (hi : PI X (.Name x px) iter wi) (ht : ∀ s H fp, PF (compCx X (x :: fx) scope cl s H fp) ifs tt) (he : ∀ s H fp, PE (compCx X (x :: fx) scope cl s H fp) elt te)
  (hs : ∀ x, foldedSetIterable iter X.env x = pure x := by intro _; rfl) :
  PE X (.ListComp elt [⟨.Name x px, iter, ifs, 0⟩] scope pos) (tComp wi fr tt te) := by
 intro pins s σ H Q I h
 have hcl : ∀ y c, cl.lookup y = some c → X.env.cells.lookup y = some c := fun y c e => by
  have q := List.all_eq_true.mp hk _ (PySem.mem_of_lookup e)
  rw [← (F.mem y (by simpa using q)).2]
  exact e
 rw [eval_ListComp]
 refine wpAny_comprehension_free (use := none) rfl hs hclos hkind hnames ?_
 refine thn (hi pins s σ H _ I h) fun v s1 h1 => thn h1 fun itv s2 h2 => ?_
 obtain ⟨it, fp, tn, J, H2, e, I2, T, st2, f2, q2⟩ := h2
 subst e
 have hp0 : H2 s2.heap.objs.size = none := I2.hok.fresh (Nat.le_refl _)
 obtain ⟨W, ⟨m0, w0⟩, turn⟩ := q2 _ hp0
 have flt : ∀ b ∈ fp, b < s2.heap.objs.size := fun b hb => by
  obtain ⟨o, e, _⟩ := T.obj _ _ st2 b hb
  exact Heap.lt_size e
 refine wpAny_newObj_type (wpAny_newFunctionEnv hcell (by intro y hy; simp at hy) (fun h₁ hns₁ hsb₁ => ?_) hkind)
 dsimp only at hns₁ hsb₁ ⊢
 have hlay : ∀ b u, s2.heap.get? b = some u → (s2.heap.push { cls := .type "list", dict := none, data := .seq ([] : List Value).toArray }).get? b = some u := fun b u e => Heap.get?_push_of_some _ e
 have hnew : (s2.heap.push { cls := .type "list", dict := none, data := .seq ([] : List Value).toArray }).get? s2.heap.objs.size = some { cls := .type "list", dict := none, data := .seq ([] : List Value).toArray } := Heap.get?_push_size _ rfl
 have hsz : (s2.heap.push { cls := .type "list", dict := none, data := .seq ([] : List Value).toArray }).objs.size = s2.heap.objs.size + 1 := Heap.size_push _ _
 generalize hHH : s2.heap.push { cls := .type "list", dict := none, data := .seq ([] : List Value).toArray } = HH at hns₁ hsb₁ hlay hnew hsz ⊢
 have I3 : Inv X pins σ (upd H2 s2.heap.objs.size (.lst [])) { s2 with heap := HH, toks := s2.toks } :=
  I2.laid (t' := s2.toks) (o := .lst []) hlay (Nat.le_refl _) ⟨Nat.zero_le _, [], 0, .nil, hnew⟩
 have ffp : ∀ b ∈ fp, FpOk X pins (upd H2 s2.heap.objs.size (.lst [])) b := fun b hb => by
  obtain ⟨f0, fr'⟩ := f2 b hb
  exact ⟨by rw [aqv (Nat.ne_of_lt (flt b hb))]; exact f0, fr'⟩
 have keep1 : ∀ b u, HH.get? b = some u → h₁.get? b = some u := fun b u e => hsb₁.extBut b u (Nat.ne_of_lt (Heap.lt_size e)) (Heap.get?_push_of_some _ e)
 exact oqY (s3 := { s2 with heap := HH, toks := s2.toks }) hc hkind hx hnd hcl F hfx ht he I3 T (T.keep _ _ _ st2 fun b hb o e => hlay b o e) ffp (fun b hb => by show b < HH.objs.size; rw [hsz]; exact Nat.lt_succ_of_lt (flt b hb)) w0 turn hns₁ keep1 fun s6 H5 o I6 qn => by
  obtain ⟨m, hn6, _⟩ := id I6.loc
  exact ⟨m, hn6, fun h' sb => ⟨.ref _, H5, nqh I3 I6 ffp sb, rfl, qn⟩⟩
end
section
variable {p : Addr} {fv : St} {te : TE} {Q : VK} {H1 : Hp}
theorem oqc {z : Str} (hz : z.length ≤ sizeLine) (hp : H1 p = none) (f : Nat → V)
  (he : ∀ c, c ∈ z.cps.toList → ∀ (H' : Hp) (R : VK), (∀ H'', Same H' H'' → R (f c) H'') → te (some (.str ⟨#[c]⟩) :: fv) H' R)
  (hQ : ∀ H', Same H1 H' → H' p = some (.lst (z.cps.toList.map f)) → Q (.ref p) H') : CompI (Its z) p fv tYes te Q H1 := by
 have hl : z.cps.toList.length = z.length := by simp [Str.length]
 refine ⟨fun i m ys H2 => m = z.length - i ∧ i ≤ z.length ∧ ys = (z.cps.toList.take i).map f ∧ H2 p = some (.lst ys) ∧ Same H1 H2, ⟨z.length, by simp, Nat.zero_le _, by simp, aqg, fun b o e => by rw [aqv (aql e hp)]; exact e⟩, ?_⟩
 rintro i m ys H2 ⟨rfl, hi, rfl, hp2, sm⟩
 refine ⟨hp2, ?_⟩
 by_cases hlt : i < z.length
 ·refine .inr ⟨hlt, ?_, fun x H3 y => ?_⟩
  ·rw [List.length_map, List.length_take]; omega
  ·obtain ⟨rfl, c, hc, rfl⟩ := y
   unfold tYes
   dsimp only
   rw [if_pos rfl]
   refine he c (List.mem_of_getElem? hc) _ _ fun H5 s5 => ⟨s5 _ _ hp2, z.length - (i + 1), by omega, rfl, hlt, ?_, aqg, fun b o e => ?_⟩
   ·rw [List.take_add_one, hc, List.map_append]; rfl
   ·rw [aqv (aql e hp)]; exact s5 _ _ (sm _ _ e)
 ·have e : i = z.length := by omega
  subst e
  refine .inl ⟨Nat.le_refl _, hQ H2 sm ?_⟩
  rw [hp2, ← hl, List.take_length]
end
section
variable {σ : St} {H : Hp} {Q : VK} {K : PySem.W.Frag} {tl te : TE} {tt : TT} {fr : List Nat}
theorem tql : frV σ [] = [] := rfl
theorem rqG {i : Nat} {r : List Nat} : frV σ (i :: r) = (σ[i]?).getD none :: frV σ r := rfl
theorem vqS {z : Str} {p : Addr} : rJoin K (.str z) [.ref p] H Q ↔ ∃ ys : List Str, SqL K H p (ys.map V.str) ∧ (ys.map (·.length)).sum + ys.length * z.length ≤ 16777216 ∧ Q (.str (Txt.join z ys)) H := by
 constructor
 ·rintro ⟨z', p', ys, h1, h2, h3⟩
  cases h1; cases h2
  exact ⟨ys, h3⟩
 ·rintro ⟨ys, h⟩
  exact ⟨z, p, ys, rfl, rfl, h⟩
theorem rq8 : tComp (iStr tl) fr tt te σ H Q ↔ tl σ H fun x H1 => ∃ z, x = .str z ∧ ∀ p, H1 p = none → CompI (Its z) p (frV σ fr) tt te Q H1 := Iff.rfl
theorem rqX : tComp (iList K tl) fr tt te σ H Q ↔ tl σ H fun x H1 => ∃ a, x = .ref a ∧ (∃ xs, SqL K H1 a xs) ∧ ∀ p, H1 p = none → CompI (Itl K a) p (frV σ fr) tt te Q H1 := Iff.rfl
end
section
variable {X : Cx} {K : PySem.W.Frag}
theorem aqz (h : X.K = K) : OpR X (binaryOp .Add) (rAddU K) := by subst h; exact pqQ
theorem aqA (h : X.K = K) : IxR X (rIx K) := by subst h; exact wqR
theorem lqn (h : X.K = K) : SlR X (rSl K) := by subst h; exact wqy
theorem bqJ (h : X.K = K) : CallR X (.builtin "len") (rLenU K) := by subst h; exact qqR
theorem gqW (h : X.K = K) : MtR X "str.join" (rJoin K) := by subst h; exact uqR
theorem rqF {tg l : Expr} {tl : TE} (h : X.K = K) (hl : PE X l tl) : PI X tg l (iList K tl) := by subst h; exact tqM hl
variable {o e : Expr} {es : List Expr} {to : TE} {t : TA} {name : Str} {apos cpos : Pos} {T id : String} {r : V → List V → Hp → VK → Prop}
theorem qqz (h : X.K = K) (pa : PlainAttrs T) (slot : Slot T name id) (hty : typeOf (.builtin id) = pure (.type "method_descriptor")) (hm : MtR X id r) (ho : PE X o to)
  (hbase : attributeBase o name X.env (eval o X.env) = eval o X.env := by rfl) (hline : (apos.endLine == cpos.line) = true := by rfl) : PE X (.Call (.Attribute o name apos) [] [] cpos) (tBM0 K T r to) := by
 subst h; exact vqT pa slot hty hm ho hbase hline
theorem dqB (h : X.K = K) (pa : PlainAttrs T) (slot : Slot T name id) (hty : typeOf (.builtin id) = pure (.type "method_descriptor")) (hm : MtR X id r) (ho : PE X o to) (ha : PA X (e :: es) t)
  (hbase : attributeBase o name X.env (eval o X.env) = eval o X.env := by rfl)
  (hfew : ((backTo cpos (starEach (e :: es) X.env)).all (fun x => !x.1) && (backToKw cpos (keywordEach [] X.env)).all (fun x => x.1.isSome)
   && decide ((e :: es).length + ([] : List Keyword).length + (if ([] : List Keyword).isEmpty then 0 else 1) < 30)) = true := by rfl)
  (hline : (apos.endLine == cpos.line) = true := by rfl) (hs : starEach (e :: es) X.env = (false, eval e X.env) :: starEach es X.env := by rfl) (hplain : (backTo cpos (starEach es X.env)).any (·.1) = false := by rfl) :
  PE X (.Call (.Attribute o name apos) (e :: es) [] cpos) (tBM K T r to t) := by
 subst h; exact xqw pa slot hty hm ho ha hbase hfew hline hs hplain
end
structure FunD (K : PySem.W.Frag) (x qual : Str) (st : Stmt) (f : Addr) (fd : FuncData) (T : Addr) : Prop where
 ex : ∃ (oc : Value) (od : Option Addr) (kV doc pm : Value) (an : Option Addr) (cdv ct : Value) (osl : Array (Option Value)),
  fd = PySem.W.fnOf x qual (defArgs st) (defBody st) (defScope st) (.ref T) kV doc pm an cdv ct ∧ K.lookup f = some ⟨oc, od, .func fd, osl⟩ ∧ PySem.W.codeIn K cdv qual = true
 kp : PySem.W.keepIn K (.ref f) = true
section
variable {P : Program} {w : World} {K : PySem.W.Frag} {mg : Str → Option Value} {base : Heap}
theorem FunD.binds {x qual : Str} {st : Stmt} {f T : Addr} {fd : FuncData} {ps : List Str} {ds : List Value} {oc : Value} {od : Option Addr} {items : Array Value} {n : Nat} {sl : Array (Option Value)} (F : FunD K x qual st f fd T) (hT : K.lookup T = some ⟨oc, od, .seq items n, sl⟩)
  (h : ∀ (kV doc pm : Value) (an : Option Addr) (cdv ct : Value) (us : List Value), (us ++ ds).length = ps.length → ∃ k : Option (Array Value) → Sem (List (Str × Value)),
   bindArgs (PySem.W.fnOf x qual (defArgs st) (defBody st) (defScope st) (.ref T) kV doc pm an cdv ct) ⟨us, []⟩ = seqItems? (.ref T) >>= k ∧ k (some items) = pure (ps.zip (us ++ ds))) : Binds K fd ps ds := by
 obtain ⟨oc', od', kV, doc, pm, an, cdv, ct, osl, rfl, lk, hcd⟩ := F.ex
 intro s us X hl
 obtain ⟨k, h1, h2⟩ := h kV doc pm an cdv ct us hl
 exact BindsTo.of_defaults (T := T) rfl (X T _ hT) rfl h1 h2
theorem iqw {x qual : Str} {st : Stmt} {f T : Addr} {oc : Value} {od an : Option Addr} {osl : Array (Option Value)} {kV doc pm cdv ct : Value} (l : K.lookup f = some ⟨oc, od, .func (PySem.W.fnOf x qual (defArgs st) (defBody st) (defScope st) (.ref T) kV doc pm an cdv ct), osl⟩)
  (c : PySem.W.codeIn K cdv qual = true) (k : PySem.W.keepIn K (.ref f) = true) : FunD K x qual st f (PySem.W.fnOf x qual (defArgs st) (defBody st) (defScope st) (.ref T) kV doc pm an cdv ct) T := ⟨⟨oc, od, kV, doc, pm, an, cdv, ct, osl, rfl, l, c⟩, k⟩
end
theorem lqu {c : TT} {tb : TS} {D : Ends} {σ : St} {H : Hp} (W : Nat → St → Hp → Prop) (m0 : Nat) (h0 : W m0 σ H)
  (hs : ∀ m σ H, W m σ H → c σ H fun b H1 => if b = true then ∃ N : St → Hp → Prop, (∀ σ' H', N σ' H' → ∃ m', m' < m ∧ W m' σ' H') ∧ tb { D with nx := N, ct := N, bk := D.nx } σ H1 else D.nx σ H1) : tWhile c tb D σ H := ⟨W, ⟨m0, h0⟩, hs⟩
section
variable {σ : St} {H : Hp} {Q : VK}
theorem xqD {r : V → Hp → VK → Prop} {ta : TE} : tUn r ta σ H Q ↔ ta σ H fun x H1 => r x H1 Q := Iff.rfl
theorem rd_U {g : Int → V} {i : Int} : rU g (.int i) H Q ↔ Q (g i) H := ⟨fun ⟨_, h1, h2⟩ => by cases h1; exact h2, fun h => ⟨i, rfl, h⟩⟩
theorem wqe {l : Addr} {y : V} : rAppend (.ref l) [y] H Q ↔ ∃ xs, H l = some (.lst xs) ∧ xs.length < sizeLine ∧ Q .non (upd H l (.lst (xs ++ [y]))) := by
 constructor
 ·rintro ⟨l', xs, y', h1, h2, h3⟩
  cases h1; cases h2
  exact ⟨xs, h3⟩
 ·rintro ⟨xs, h⟩
  exact ⟨l, xs, y, rfl, rfl, h⟩
theorem uql {K : PySem.W.Frag} {p : Addr} : tyV K "list" (.ref p) H ↔ ∃ xs, SqL K H p xs := by
 constructor
 ·rintro (⟨_, h⟩ | ⟨h, _⟩ | ⟨h, _⟩ | ⟨h, _⟩)
  ·exact h
  ·exact absurd h (by decide)
  ·exact absurd h (by decide)
  ·exact absurd h (by decide)
 ·intro h; exact .inl ⟨rfl, h⟩
end
end L2
namespace L2
open PySem PySem.Spec PyProof.Rows
mutual
inductive Is (H : Hp) : PyData → V → Prop
 | non : Is H .none .non
 | bl (b : Bool) : Is H (.bool b) (.bl b)
 | int (i : Int) : Is H (.int i) (.int i)
 | str (x : Str) : Is H (.str x) (.str x)
 | lst {p : Addr} {xs : List V} {ds : List PyData} : H p = some (.lst xs) → IsAll H ds xs → Is H (.list ds) (.ref p)
 | tup {p : Addr} {xs : List V} {ds : List PyData} : H p = some (.tup xs) → IsAll H ds xs → Is H (.tuple ds) (.ref p)
inductive IsAll (H : Hp) : List PyData → List V → Prop
 | nil : IsAll H [] []
 | cons {d : PyData} {x : V} {ds : List PyData} {xs : List V} : Is H d x → IsAll H ds xs → IsAll H (d :: ds) (x :: xs)
end
mutual
theorem Is.mono {H H' : Hp} (sm : Same H H') : ∀ {d : PyData} {x : V}, Is H d x → Is H' d x
 | _, _, .non => .non
 | _, _, .bl b => .bl b
 | _, _, .int i => .int i
 | _, _, .str x => .str x
 | _, _, .lst h r => .lst (sm _ _ h) (IsAll.mono sm r)
 | _, _, .tup h r => .tup (sm _ _ h) (IsAll.mono sm r)
theorem IsAll.mono {H H' : Hp} (sm : Same H H') : ∀ {ds : List PyData} {xs : List V}, IsAll H ds xs → IsAll H' ds xs
 | _, _, .nil => .nil
 | _, _, .cons h r => .cons (Is.mono sm h) (IsAll.mono sm r)
end
theorem IsAll.length {H : Hp} : ∀ {ds : List PyData} {xs : List V}, IsAll H ds xs → ds.length = xs.length
 | _, _, .nil => rfl
 | _, _, .cons _ r => by rw [List.length_cons, List.length_cons, IsAll.length r]
section
variable {X : Cx} {pins : List (Addr × Obj)} {σ : St} {H : Hp} {s : Shared}
mutual
theorem Is.reads (I : Inv X pins σ H s) : ∀ {d : PyData} {x : V} {v : Value}, Is H d x → RelV x v → ∃ as, Reads s.heap v d as
 | _, _, _, .non, r => by cases r; exact ⟨_, .none⟩
 | _, _, _, .bl b, r => by cases r; exact ⟨_, .bool b⟩
 | _, _, _, .int i, r => by obtain ⟨t, rfl⟩ := r; exact ⟨_, .int i t⟩
 | _, _, _, .str x, r => by obtain ⟨t, rfl⟩ := r; exact ⟨_, .str x t⟩
 | _, _, _, .lst h q, r => by
  cases r
  obtain ⟨its, vs, ⟨o, n, e, c, _, dt⟩, _⟩ := I.list (SqL.of h)
  obtain ⟨as, ra⟩ := IsAll.reads I q vs
  exact ⟨_, .list e c dt (by simpa using ra)⟩
 | _, _, _, .tup h q, r => by
  cases r
  obtain ⟨its, vs, ⟨o, e, c, n, dt⟩, _⟩ := I.tuple (SqT.of h)
  obtain ⟨as, ra⟩ := IsAll.reads I q vs
  exact ⟨_, .tuple e c dt (by simpa using ra)⟩
theorem IsAll.reads (I : Inv X pins σ H s) : ∀ {ds : List PyData} {xs : List V} {vs : List Value}, IsAll H ds xs → Vals xs vs → ∃ as, ReadsAll s.heap vs ds as
 | _, _, _, .nil, r => by cases r; exact ⟨_, .nil⟩
 | _, _, _, .cons q t, r => by
  cases r with
  | cons r1 r2 =>
   obtain ⟨as, h1⟩ := Is.reads I q r1
   obtain ⟨bs, h2⟩ := IsAll.reads I t r2
   exact ⟨_, .cons h1 h2⟩
end
def rEqD : R2 := fun x y H Q => ∃ d e, Is H d x ∧ Is H e y ∧ SeqAt.shaped d = true ∧ SeqAt.shaped e = true ∧ Q (.bl (PyData.eqv d e)) H
def rNeD : R2 := fun x y H Q => ∃ d e, Is H d x ∧ Is H e y ∧ SeqAt.shaped d = true ∧ SeqAt.shaped e = true ∧ Q (.bl (!PyData.eqv d e)) H
theorem wqB (hu : X.A.units + 64 < cLine) : OpR X (compareOp .Eq) rEqD := by
 intro pins s σ H x y v u Q I rx ry h
 obtain ⟨d, e, hx, hy, sx, sy, q⟩ := h
 obtain ⟨as, ra⟩ := hx.reads I rx
 obtain ⟨bs, rb⟩ := hy.reads I ry
 exact eq_dataH ra rb sx sy hu ⟨.bl _, H, I, rfl, q⟩
theorem pq0 (hu : X.A.units + 64 < cLine) : OpR X (compareOp .NotEq) rNeD := by
 intro pins s σ H x y v u Q I rx ry h
 obtain ⟨d, e, hx, hy, sx, sy, q⟩ := h
 obtain ⟨as, ra⟩ := hx.reads I rx
 obtain ⟨bs, rb⟩ := hy.reads I ry
 exact ne_dataH ra rb sx sy hu ⟨.bl _, H, I, rfl, q⟩
end
mutual
inductive IsT (H : Hp) : PyData → V → Prop
 | non : IsT H .none .non
 | bl (b : Bool) : IsT H (.bool b) (.bl b)
 | int (i : Int) : IsT H (.int i) (.int i)
 | str (x : Str) : IsT H (.str x) (.str x)
 | tup {p : Addr} {xs : List V} {ds : List PyData} : H p = some (.tup xs) → IsTAll H ds xs → IsT H (.tuple ds) (.ref p)
inductive IsTAll (H : Hp) : List PyData → List V → Prop
 | nil : IsTAll H [] []
 | cons {d : PyData} {x : V} {ds : List PyData} {xs : List V} : IsT H d x → IsTAll H ds xs → IsTAll H (d :: ds) (x :: xs)
end
def SameT (H H' : Hp) : Prop := ∀ b xs, H b = some (.tup xs) → H' b = some (.tup xs)
theorem Same.toT {H H' : Hp} (h : Same H H') : SameT H H' := fun b xs e => h b _ e
theorem SameT.trans {H H' H'' : Hp} (h : SameT H H') (h' : SameT H' H'') : SameT H H'' := fun b xs e => h' b xs (h b xs e)
theorem mq5 {H : Hp} {p : Addr} {xs : List V} {o : HO} (h : H p = some (.lst xs)) : SameT H (upd H p o) := fun b ys e => by
 rw [aqv (tq5 e h (by intro z; cases z))]; exact e
theorem iqi {H : Hp} {p : Addr} {o : HO} (h : H p = none) : SameT H (upd H p o) := fun b ys e => by
 rw [aqv (aql e h)]; exact e
mutual
theorem IsT.mono {H H' : Hp} (sm : SameT H H') : ∀ {d : PyData} {x : V}, IsT H d x → IsT H' d x
 | _, _, .non => .non
 | _, _, .bl b => .bl b
 | _, _, .int i => .int i
 | _, _, .str x => .str x
 | _, _, .tup h r => .tup (sm _ _ h) (IsTAll.mono sm r)
theorem IsTAll.mono {H H' : Hp} (sm : SameT H H') : ∀ {ds : List PyData} {xs : List V}, IsTAll H ds xs → IsTAll H' ds xs
 | _, _, .nil => .nil
 | _, _, .cons h r => .cons (IsT.mono sm h) (IsTAll.mono sm r)
end
mutual
theorem IsT.is {H : Hp} : ∀ {d : PyData} {x : V}, IsT H d x → Is H d x
 | _, _, .non => .non
 | _, _, .bl b => .bl b
 | _, _, .int i => .int i
 | _, _, .str x => .str x
 | _, _, .tup h r => .tup h (IsTAll.is r)
theorem IsTAll.is {H : Hp} : ∀ {ds : List PyData} {xs : List V}, IsTAll H ds xs → IsAll H ds xs
 | _, _, .nil => .nil
 | _, _, .cons h r => .cons (IsT.is h) (IsTAll.is r)
end
theorem IsTAll.append {H : Hp} : ∀ {ds es : List PyData} {xs ys : List V}, IsTAll H ds xs → IsTAll H es ys → IsTAll H (ds ++ es) (xs ++ ys)
 | _, _, _, _, .nil, r => r
 | _, _, _, _, .cons h t, r => .cons h (t.append r)
theorem IsTAll.length {H : Hp} {ds : List PyData} {xs : List V} (h : IsTAll H ds xs) : ds.length = xs.length := h.is.length
section
variable {p : Addr} {fv : St} {te : TE} {Q : VK} {H1 : Hp}
inductive All2 (R : V → V → Hp → Prop) (H : Hp) : List V → List V → Prop
 | nil : All2 R H [] []
 | cons {x y : V} {xs ys : List V} : R x y H → All2 R H xs ys → All2 R H (x :: xs) (y :: ys)
end
section
variable {X : Cx}
def rAllB (K : PySem.W.Frag) : List V → Hp → VK → Prop := fun vs H Q => ∃ (p : Addr) (bs : List Bool), vs = [.ref p] ∧ SqL K H p (bs.map V.bl) ∧ Q (.bl (bs.all id)) H
def rAnyB (K : PySem.W.Frag) : List V → Hp → VK → Prop := fun vs H Q => ∃ (p : Addr) (bs : List Bool), vs = [.ref p] ∧ SqL K H p (bs.map V.bl) ∧ Q (.bl (bs.any id)) H
theorem sqq {bs : List Bool} : ∀ {us : List Value}, Vals (bs.map V.bl) us → ∀ (i : Nat) (v : Value), us[i]? = some v → ∃ b, bs[i]? = some b ∧ v = .bool b := by
 induction bs with
 | nil => intro us r i v h; rw [List.map_nil] at r; cases r; simp at h
 | cons b bs ih =>
  intro us r i v h
  rw [List.map_cons] at r
  cases r with
  | cons r1 r2 =>
   cases i with
   | zero => simp at h; subst h; exact ⟨b, rfl, r1⟩
   | succ i =>
    obtain ⟨c, h1, h2⟩ := ih r2 i v (by simpa using h)
    exact ⟨c, by simpa using h1, h2⟩
theorem rqb (hc : X.calm = true) : CallR X (.builtin "all") (rAllB X.K) := by
 intro pins s σ H xs us Q I r h
 obtain ⟨p, bs, rfl, hq, q⟩ := h
 obtain ⟨u, rfl, ru⟩ := vals1 r
 cases ru
 obtain ⟨its, vs, pl, hl⟩ := I.list hq
 have hI := pl.isList
 have hlt : p < s.heap.objs.size := by obtain ⟨_, e, _⟩ := hI; exact Heap.lt_size e
 refine call_all_walk (wpAny_pyIter_list hI ?_)
 refine ⟨s.heap.objs.size, [s.heap.objs.size, p], [s.heap.objs.size], its.toArray.size, _, _, fun i => (bs[i]?).getD true, rfl, Walks.list (A := X.A.in1) (I.ok.hd hc) _ p (Nat.ne_of_lt hlt) its.toArray,
  ⟨⟨_, Heap.get?_push_size _ rfl, rfl, rfl⟩, hI.push _⟩, fun i v s' Q' E' hP hQ => ?_, fun h' tk hk => ?_⟩
 ·obtain ⟨b, e, rfl⟩ := sqq vs i v (by simpa using hP)
  simp only [e, Option.getD_some] at hQ
  exact wpAny_truthy_bool hQ
 ·have hbl := vs.length
  rw [List.length_map] at hbl
  have e : ((List.range its.toArray.size).all fun i => (bs[i]?).getD true) = bs.all id := by
   rw [List.size_toArray, ← hbl]; exact PyProof.Rows.LSm.range_all bs
  exact ⟨.bl _, H, I.kept (t' := tk) (PyProof.Rows.LSm.kept_iter hk), rfl, by rw [e]; exact q⟩
variable {K : PySem.W.Frag}
theorem qq8 (h : X.K = K) (hc : X.calm = true) : CallR X (.builtin "all") (rAllB K) := by subst h; exact rqb hc
def rListU (K : PySem.W.Frag) : List V → Hp → VK → Prop := fun xs H Q => ∃ p ys, xs = [.ref p] ∧ (SqL K H p ys ∨ SqT K H p ys) ∧ ∀ l, H l = none → Q (.ref l) (upd H l (.lst ys))
def rTupleU (K : PySem.W.Frag) : List V → Hp → VK → Prop := fun xs H Q => ∃ p ys, xs = [.ref p] ∧ ((SqL K H p ys ∧ ∀ l, H l = none → Q (.ref l) (upd H l (.tup ys))) ∨ (SqT K H p ys ∧ Q (.ref p) H))
theorem kqz (h : X.K = K) : CallR X (.type "tuple") (rTupleU K) := by subst h; exact fqM
theorem pqw {tg l : Expr} {tl : TE} (h : X.K = K) (hl : PE X l tl) : PI X tg l (iTup K tl) := by subst h; exact vqo hl
end
section
variable {H : Hp} {Q : VK} {K : PySem.W.Frag}
theorem uqQ {x : V} {T : String} : rIsiU [x, .ty T] H Q ↔ ∃ k, kindV x H = some k ∧ T ∈ ["bool", "int", "str", "list", "tuple"] ∧ Q (.bl (subT k T)) H := Iff.rfl
theorem rq9 : kindV .non H = some "NoneType" := rfl
theorem uqg {b : Bool} : kindV (.bl b) H = some "bool" := rfl
theorem rqv {i : Int} : kindV (.int i) H = some "int" := rfl
theorem rqV {x : Str} : kindV (.str x) H = some "str" := rfl
theorem rqw {p : Addr} {xs : List V} (h : H p = some (.lst xs)) : kindV (.ref p) H = some "list" := by simp only [kindV, h]
theorem rqA {p : Addr} {xs : List V} (h : H p = some (.tup xs)) : kindV (.ref p) H = some "tuple" := by simp only [kindV, h]
theorem qqj : ("bool" ∈ ["bool", "int", "str", "list", "tuple"]) = True := by simp
theorem sqr : ("int" ∈ ["bool", "int", "str", "list", "tuple"]) = True := by simp
theorem rqB : ("str" ∈ ["bool", "int", "str", "list", "tuple"]) = True := by simp
theorem pqM : ("list" ∈ ["bool", "int", "str", "list", "tuple"]) = True := by simp
theorem pql : ("tuple" ∈ ["bool", "int", "str", "list", "tuple"]) = True := by simp
theorem iqB : subT "NoneType" "bool" = false := by decide
theorem jqg : subT "NoneType" "int" = false := by decide
theorem jqc : subT "NoneType" "str" = false := by decide
theorem iqx : subT "NoneType" "list" = false := by decide
theorem hqV : subT "NoneType" "tuple" = false := by decide
theorem lqy : subT "bool" "bool" = true := by decide
theorem mqW : subT "bool" "int" = true := by decide
theorem mq4 : subT "bool" "str" = false := by decide
theorem lqL : subT "bool" "list" = false := by decide
theorem kq1 : subT "bool" "tuple" = false := by decide
theorem mqw : subT "int" "bool" = false := by decide
theorem nqF : subT "int" "int" = true := by decide
theorem nqL : subT "int" "str" = false := by decide
theorem nqj : subT "int" "list" = false := by decide
theorem lqm : subT "int" "tuple" = false := by decide
theorem mqm : subT "str" "bool" = false := by decide
theorem nqv : subT "str" "int" = false := by decide
theorem nqQ : subT "str" "str" = true := by decide
theorem mqQ : subT "str" "list" = false := by decide
theorem lq2 : subT "str" "tuple" = false := by decide
theorem lqB : subT "list" "bool" = false := by decide
theorem mqu : subT "list" "int" = false := by decide
theorem mqe : subT "list" "str" = false := by decide
theorem lqE : subT "list" "list" = true := by decide
theorem kq0 : subT "list" "tuple" = false := by decide
theorem kqX : subT "tuple" "bool" = false := by decide
theorem lqS : subT "tuple" "int" = false := by decide
theorem lqF : subT "tuple" "str" = false := by decide
theorem kqQ : subT "tuple" "list" = false := by decide
theorem jqS : subT "tuple" "tuple" = true := by decide
theorem tqV {n : Nat} {t : TGs} {v : V} {σ : St} {R : St → Hp → Prop} : gTup K n t v σ H R ↔ ∃ a xs, v = .ref a ∧ SqT K H a xs ∧ xs.length = n ∧ t xs σ H R := Iff.rfl
theorem rqR {t : TG} {u : TGs} {vs : List V} {σ : St} {R : St → Hp → Prop} : gCons t u vs σ H R ↔ ∃ v r, vs = v :: r ∧ t v σ H fun σ' H' => u r σ' H' R := Iff.rfl
theorem uqX {vs : List V} {σ : St} {R : St → Hp → Prop} : gNil vs σ H R ↔ vs = [] ∧ R σ H := Iff.rfl
theorem tqJ {to ti : TE} {t : TSet} {v : V} {σ : St} {R : St → Hp → Prop} : gSub to ti t v σ H R ↔ to σ H fun o H1 => ti σ H1 fun i H2 => t o i v H2 fun H3 => R σ H3 := Iff.rfl
theorem tq3 {p : Addr} {k : Int} {v : V} {R : Hp → Prop} : rSetL (.ref p) (.int k) v H R ↔ ∃ xs j, H p = some (.lst xs) ∧ ixN xs.length k = some j ∧ R (upd H p (.lst (xs.set j v))) := by
 constructor
 ·rintro ⟨p', xs, k', j, h1, h2, h3⟩; cases h1; cases h2; exact ⟨xs, j, h3⟩
 ·rintro ⟨xs, j, h⟩; exact ⟨p, xs, k, j, rfl, rfl, h⟩
end
section
variable {X : Cx} {K : PySem.W.Frag}
theorem rqa {es : List Expr} {k : Nat} {t : TGs} {n : Nat} {pos : Pos} (h : X.K = K) (hc : X.calm = true) (hg : PGs X es t)
  (hn : (assignEach es X.env).length = n := by rfl) (hst : (assignEach es X.env).findIdx? (·.1) = none := by rfl) : PG X (.Tuple es k pos) (gTup K n t) := by
 subst h; exact tqf hc hg hn hst
end
def SameBut (p : Addr) (H H' : Hp) : Prop := ∀ b o, b ≠ p → H b = some o → H' b = some o
theorem SameBut.refl (p : Addr) (H : Hp) : SameBut p H H := fun _ _ _ e => e
theorem SameBut.trans {p : Addr} {H H' H'' : Hp} (h : SameBut p H H') (h' : SameBut p H' H'') : SameBut p H H'' := fun b o n e => h' b o n (h b o n e)
theorem Same.but {p : Addr} {H H' : Hp} (h : Same H H') : SameBut p H H' := fun b o _ e => h b o e
theorem fqF {p : Addr} {H : Hp} {o : HO} : SameBut p H (upd H p o) := fun b u n e => by rw [aqv n]; exact e
theorem SameBut.toT {p : Addr} {H H' : Hp} {xs : List V} (h : SameBut p H H') (hp : H p = some (.lst xs)) : SameT H H' := fun b ys e => h b _ (tq5 e hp (by intro z; cases z)) e
theorem SameBut.same {p : Addr} {H H' : Hp} (h : SameBut p H H') (hp : H p = none) : Same H H' := fun b o e => h b o (aql e hp) e
section
variable {p : Addr} {fv : St} {te : TE} {Q : VK} {H1 : Hp} {K : PySem.W.Frag}
theorem Same.tup {H H' : Hp} {a : Addr} {xs : List V} (e : Same H H') (h : SqT K H a xs) : SqT K H' a xs := by
 rcases h with (h | ⟨o, h⟩) | h
 ·exact .inl (.inl (e _ _ h))
 ·exact .inl (.inr ⟨o, e _ _ h⟩)
 ·exact .inr h
theorem qqO {a : Addr} {xs zs : List V} (hxs : SqT K H1 a xs) (hlen : xs.length ≤ sizeLine) (hp : H1 p = none) (hz : zs.length = xs.length)
  (he : ∀ (i : Nat) (x z : V), xs[i]? = some x → zs[i]? = some z → ∀ (H' : Hp) (T : VK), Same H1 H' → (∀ H'', Same H' H'' → T z H'') → te (some x :: fv) H' T)
  (hQ : ∀ H', Same H1 H' → H' p = some (.lst zs) → Q (.ref p) H') : CompI (Itt K a) p fv tYes te Q H1 := by
 refine ⟨fun i m ys H2 => m = xs.length - i ∧ i ≤ xs.length ∧ ys = zs.take i ∧ H2 p = some (.lst ys) ∧ Same H1 H2, ⟨xs.length, by simp, Nat.zero_le _, by simp, aqg, fun b o e => by rw [aqv (aql e hp)]; exact e⟩, ?_⟩
 rintro i m ys H2 ⟨rfl, hi, rfl, hp2, sm⟩
 refine ⟨hp2, ?_⟩
 have q := sm.tup hxs
 by_cases hlt : i < xs.length
 ·refine .inr ⟨⟨xs, xs[i], q, by simp [hlt]⟩, ?_, fun x H3 y => ?_⟩
  ·rw [List.length_take]; omega
  ·obtain ⟨rfl, y⟩ := y
   have hc := y xs q
   have hzi : zs[i]? = some zs[i] := List.getElem?_eq_getElem (by omega)
   unfold tYes
   dsimp only
   rw [if_pos rfl]
   refine he i x _ hc hzi _ _ sm fun H5 s5 => ⟨s5 _ _ hp2, xs.length - (i + 1), by omega, rfl, hlt, ?_, aqg, fun b o e => ?_⟩
   ·rw [List.take_add_one, hzi]; rfl
   ·rw [aqv (aql e hp)]; exact s5 _ _ (sm _ _ e)
 ·have e : i = xs.length := by omega
  subst e
  refine .inl ⟨⟨xs, q, Nat.le_refl _⟩, hQ H2 sm ?_⟩
  rw [hp2, ← hz, List.take_length]
variable {σ : St} {H : Hp} {tl : TE} {tt : TT} {fr : List Nat} {g : TG} {tb : TS} {D : Ends}
theorem sqA : tComp (iTup K tl) fr tt te σ H Q ↔ tl σ H fun x H1 => ∃ a, x = .ref a ∧ (∃ xs, SqT K H1 a xs) ∧ ∀ p, H1 p = none → CompI (Itt K a) p (frV σ fr) tt te Q H1 := Iff.rfl
theorem uqx : tFor (iTup K te) g tb D σ H ↔ te σ H fun x H1 => ∃ a, x = .ref a ∧ (∃ xs, SqT K H1 a xs) ∧ LoopI (Itt K a) g tb D σ H1 := Iff.rfl
theorem qqv {a : Addr} : rAllB K [.ref a] H Q ↔ ∃ bs : List Bool, SqL K H a (bs.map V.bl) ∧ Q (.bl (bs.all id)) H := by
 constructor
 ·rintro ⟨p, bs, h1, h2⟩; cases h1; exact ⟨bs, h2⟩
 ·rintro ⟨bs, h⟩; exact ⟨a, bs, rfl, h⟩
theorem uqb {a : Addr} : rAnyB K [.ref a] H Q ↔ ∃ bs : List Bool, SqL K H a (bs.map V.bl) ∧ Q (.bl (bs.any id)) H := by
 constructor
 ·rintro ⟨p, bs, h1, h2⟩; cases h1; exact ⟨bs, h2⟩
 ·rintro ⟨bs, h⟩; exact ⟨a, bs, rfl, h⟩
theorem wq4 {a : Addr} : rListU K [.ref a] H Q ↔ ∃ ys, (SqL K H a ys ∨ SqT K H a ys) ∧ ∀ l, H l = none → Q (.ref l) (upd H l (.lst ys)) := by
 constructor
 ·rintro ⟨p, bs, h1, h2⟩; cases h1; exact ⟨bs, h2⟩
 ·rintro ⟨bs, h⟩; exact ⟨a, bs, rfl, h⟩
theorem vqN {a : Addr} : rTupleU K [.ref a] H Q ↔ ∃ ys, (SqL K H a ys ∧ ∀ l, H l = none → Q (.ref l) (upd H l (.tup ys))) ∨ (SqT K H a ys ∧ Q (.ref a) H) := by
 constructor
 ·rintro ⟨p, bs, h1, h2⟩; cases h1; exact ⟨bs, h2⟩
 ·rintro ⟨bs, h⟩; exact ⟨a, bs, rfl, h⟩
theorem uqq {a : Addr} {lo hi : Option Int} : rSlT K (.ref a) lo hi H Q ↔ ∃ xs, SqT K H a xs ∧ ¬ (HT.sIx xs.length 0 lo = 0 ∧ HT.sIx xs.length xs.length hi = xs.length) ∧ ∀ p, H p = none → Q (.ref p) (upd H p (.tup (cutV xs lo hi))) := by
 constructor
 ·rintro ⟨p, bs, h1, h2⟩; cases h1; exact ⟨bs, h2⟩
 ·rintro ⟨bs, h⟩; exact ⟨a, bs, rfl, h⟩
end
def tCut (t u : TS) : TS := fun D σ H => ∃ P : St → Hp → Prop, t { D with nx := P } σ H ∧ ∀ σ' H', P σ' H' → u D σ' H'
section
variable {X : Cx} {st : Stmt} {rest : List Stmt} {t u : TS}
theorem aqQ (h1 : PS X st t) (h2 : PSs X rest u) : PSs X (st :: rest) (tCut t u) := by
 intro pins s σ H D I h
 obtain ⟨P, h, hu⟩ := h
 refine wpAny_execs_cons (thn (h1 pins s σ H { D with nx := P } I h) fun f s1 q => ?_)
 cases f with
 | next =>
  obtain ⟨σ', H', I', q⟩ := q
  exact h2 pins s1 σ' H' D I' (hu _ _ q)
 | ret v => exact q
 | brk => exact q
 | cont => exact q
def Later (u : TS) (D : Ends) (σ : St) (H : Hp) : Prop := u D σ H
theorem sqc {D : Ends} {x : Option V} {σ : St} {H : Hp} : Later u D (x :: σ) H ↔ u D (x :: σ) H := Iff.rfl
theorem wqi {D : Ends} {σ : St} {H : Hp} : tCut t u D σ H ↔ ∃ P : St → Hp → Prop, t { D with nx := P } σ H ∧ ∀ σ' H', P σ' H' → Later u D σ' H' := Iff.rfl
end
theorem SameBut.free {p q : Addr} {H H' : Hp} (sb : SameBut p H H') (hq : H' q = none) (hne : q ≠ p) : H q = none := by
 cases e : H q with
 | none => rfl
 | some o => rw [sb q o hne e] at hq; cases hq
theorem SameBut.upd {p q : Addr} {H H' : Hp} {o : HO} (sb : SameBut p H H') (hq : H q = none) : SameBut p H (upd H' q o) := fun b u n e => by
 rw [aqv (aql e hq)]; exact sb b u n e
theorem IsTAll.strs {H : Hp} : ∀ (l : List (List Nat)), IsTAll H (l.map fun z => PyData.str ⟨z.toArray⟩) (l.map fun z => V.str ⟨z.toArray⟩)
 | [] => .nil
 | x :: r => .cons (.str _) (IsTAll.strs r)
theorem IsTAll.snoc {H : Hp} {ds : List PyData} {xs : List V} {d : PyData} {x : V} (h : IsTAll H ds xs) (hd : IsT H d x) : IsTAll H (ds ++ [d]) (xs ++ [x]) := h.append (.cons hd .nil)
theorem cq0 {H : Hp} {p : Addr} {o : HO} (hp : H p = none) : Same H (upd H p o) := fun b u e => by rw [aqv (aql e hp)]; exact e
def tTupS (t : TA) : TE := fun σ H Q => t σ H fun xs H1 => xs.length ≤ sizeLine ∧ ∀ p H', H1 p = none → Same H1 H' → H' p = some (.tup xs) → Q (.ref p) H'
def tLstS (t : TA) : TE := fun σ H Q => t σ H fun xs H1 => xs.length ≤ sizeLine ∧ ∀ p H', H1 p = none → Same H1 H' → H' p = some (.lst xs) → Q (.ref p) H'
section
variable {X : Cx} {es : List Expr} {t : TA} {pos : Pos} {K : PySem.W.Frag}
theorem dqI {x1} (h : PA X es t) : PE X (.Tuple es x1 pos) (tTupS t) := by
 intro pins s σ H Q I hq
 refine wpAny_Tuple_spliced (thn (h pos pins s σ H _ I hq) fun us s1 ⟨xs, H1, I1, r, z, q⟩ => ⟨by rw [← r.length]; exact z, ?_⟩)
 have hf : H1 s1.heap.objs.size = none := I1.hok.fresh (Nat.le_refl _)
 refine ⟨.ref s1.heap.objs.size, upd H1 s1.heap.objs.size (.tup xs), I1.laid (t' := s1.toks) (fun b u e => Heap.get?_push_of_some _ e) (Nat.le_refl _) ?_, rfl, q _ _ hf (cq0 hf) aqg⟩
 exact ⟨z, us, r, ⟨_, Heap.get?_push_size _ rfl, rfl, _, rfl⟩⟩
theorem jqH (h : PA X es t) : PE X (.List es pos) (tLstS t) := by
 intro pins s σ H Q I hq
 refine wpAny_List_spliced (thn (h pos pins s σ H _ I hq) fun us s1 ⟨xs, H1, I1, r, z, q⟩ => ⟨by rw [← r.length]; exact z, ?_⟩)
 have hf : H1 s1.heap.objs.size = none := I1.hok.fresh (Nat.le_refl _)
 refine ⟨.ref s1.heap.objs.size, upd H1 s1.heap.objs.size (.lst xs), I1.laid (t' := s1.toks) (fun b u e => Heap.get?_push_of_some _ e) (Nat.le_refl _) ?_, rfl, q _ _ hf (cq0 hf) aqg⟩
 exact ⟨z, us, 0, r, Heap.get?_push_size _ rfl⟩
def rAddS (K : PySem.W.Frag) : R2 := fun x y H Q => match x, y with
 | .int i, .int j => Q (.int (i + j)) H
 | .str i, .str j => i.length + j.length ≤ sizeLine ∧ Q (.str (i ++ j)) H
 | .ref a, .ref b => (∃ xs zs, H a = some (.lst xs) ∧ H b = some (.lst zs) ∧ xs.length + zs.length ≤ sizeLine ∧ ∀ p H', H p = none → Same H H' → H' p = some (.lst (xs ++ zs)) → Q (.ref p) H') ∨
   (∃ xs ys, H a = some (.tup xs) ∧ H b = some (.tup ys) ∧ xs.length + ys.length ≤ sizeLine ∧ ∀ p H', Same H H' → H' p = some (.tup (xs ++ ys)) → Q (.ref p) H')
 | _, _ => False
theorem bqw : OpR X (binaryOp .Add) (rAddS K) := by
 intro pins s σ H x y v u Q I rx ry h
 refine pqQ pins s σ H x y v u Q I rx ry ?_
 cases x with
 | int i =>
  cases y with
  | int j => exact h
  | _ => exact h.elim
 | str i =>
  cases y with
  | str j => exact h
  | _ => exact h.elim
 | ref a =>
  cases y with
  | ref b =>
   rcases h with ⟨xs, zs, h1, h2, h3, h4⟩ | h
   ·exact .inl ⟨xs, zs, h1, h2, h3, fun p hp => h4 p _ hp (cq0 hp) aqg⟩
   ·exact .inr h
  | _ => exact h.elim
 | _ => exact h.elim
def rListS (K : PySem.W.Frag) : List V → Hp → VK → Prop := fun xs H Q => ∃ p ys, xs = [.ref p] ∧ (SqL K H p ys ∨ SqT K H p ys) ∧ ∀ l H', H l = none → Same H H' → H' l = some (.lst ys) → Q (.ref l) H'
def rTupleS (K : PySem.W.Frag) : List V → Hp → VK → Prop := fun xs H Q => ∃ p ys, xs = [.ref p] ∧ (SqL K H p ys ∨ H p = some (.tup ys)) ∧ ∀ l H', Same H H' → H' l = some (.tup ys) → Q (.ref l) H'
theorem jq7 (h : X.K = K) : CallR X (.type "tuple") (rTupleS K) := by
 subst h
 intro pins s σ H xs us Q I r h
 obtain ⟨p, ys, h1, h2, h3⟩ := h
 rcases h2 with h2 | h2
 ·exact fqM pins s σ H xs us Q I r ⟨p, ys, h1, .inl ⟨h2, fun l hl => h3 l _ (cq0 hl) aqg⟩⟩
 ·exact fqM pins s σ H xs us Q I r ⟨p, ys, h1, .inr ⟨SqT.of h2, h3 p H (Same.refl _) h2⟩⟩
def rSlS2 (K : PySem.W.Frag) : V → Option Int → Option Int → Hp → VK → Prop := fun x lo hi H Q => ∃ a xs, x = .ref a ∧ SqT K H a xs ∧
 ¬ (HT.sIx xs.length 0 lo = 0 ∧ HT.sIx xs.length xs.length hi = xs.length) ∧ ∀ p H', H p = none → Same H H' → H' p = some (.tup (cutV xs lo hi)) → Q (.ref p) H'
theorem tqA (h : X.K = K) : SlR X (rSlS2 K) := by
 subst h
 intro pins s σ H x v vl vu lo hi sl Q I rx hs pl pu h
 obtain ⟨a, xs, h1, h2, h3, h4⟩ := h
 exact wqI pins s σ H x v vl vu lo hi sl Q I rx hs pl pu ⟨a, xs, h1, h2, h3, fun p hp => h4 p _ hp (cq0 hp) aqg⟩
end
section
variable {σ : St} {H : Hp} {Q : VK} {K : PySem.W.Frag} {aa : TA}
theorem tqT : tTupS aa σ H Q ↔ aa σ H fun xs H1 => xs.length ≤ sizeLine ∧ ∀ p H', H1 p = none → Same H1 H' → H' p = some (.tup xs) → Q (.ref p) H' := Iff.rfl
theorem uqo : tLstS aa σ H Q ↔ aa σ H fun xs H1 => xs.length ≤ sizeLine ∧ ∀ p H', H1 p = none → Same H1 H' → H' p = some (.lst xs) → Q (.ref p) H' := Iff.rfl
theorem vqf {i j : Int} : rAddS K (.int i) (.int j) H Q ↔ Q (.int (i + j)) H := Iff.rfl
theorem vqa {i j : Str} : rAddS K (.str i) (.str j) H Q ↔ i.length + j.length ≤ sizeLine ∧ Q (.str (i ++ j)) H := Iff.rfl
theorem tqO {a : Addr} : rListS K [.ref a] H Q ↔ ∃ ys, (SqL K H a ys ∨ SqT K H a ys) ∧ ∀ l H', H l = none → Same H H' → H' l = some (.lst ys) → Q (.ref l) H' := by
 constructor
 ·rintro ⟨p, bs, h1, h2⟩; cases h1; exact ⟨bs, h2⟩
 ·rintro ⟨bs, h⟩; exact ⟨a, bs, rfl, h⟩
theorem tq2 {a : Addr} : rTupleS K [.ref a] H Q ↔ ∃ ys, (SqL K H a ys ∨ H a = some (.tup ys)) ∧ ∀ l H', Same H H' → H' l = some (.tup ys) → Q (.ref l) H' := by
 constructor
 ·rintro ⟨p, bs, h1, h2⟩; cases h1; exact ⟨bs, h2⟩
 ·rintro ⟨bs, h⟩; exact ⟨a, bs, rfl, h⟩
theorem pqy {a : Addr} {lo hi : Option Int} : rSlS2 K (.ref a) lo hi H Q ↔ ∃ xs, SqT K H a xs ∧ ¬ (HT.sIx xs.length 0 lo = 0 ∧ HT.sIx xs.length xs.length hi = xs.length) ∧ ∀ p H', H p = none → Same H H' → H' p = some (.tup (cutV xs lo hi)) → Q (.ref p) H' := by
 constructor
 ·rintro ⟨p, bs, h1, h2⟩; cases h1; exact ⟨bs, h2⟩
 ·rintro ⟨bs, h⟩; exact ⟨a, bs, rfl, h⟩
end
def rSlLS (K : PySem.W.Frag) : V → Option Int → Option Int → Hp → VK → Prop := fun x lo hi H Q => ∃ a xs, x = .ref a ∧ SqL K H a xs ∧ ∀ p H', H p = none → Same H H' → H' p = some (.lst (cutV xs lo hi)) → Q (.ref p) H'
theorem sqh {K : PySem.W.Frag} {H : Hp} {Q : VK} {a : Addr} {lo hi : Option Int} : rSlLS K (.ref a) lo hi H Q ↔ ∃ xs, SqL K H a xs ∧ ∀ p H', H p = none → Same H H' → H' p = some (.lst (cutV xs lo hi)) → Q (.ref p) H' := by
 constructor
 ·rintro ⟨p, bs, h1, h2⟩; cases h1; exact ⟨bs, h2⟩
 ·rintro ⟨bs, h⟩; exact ⟨a, bs, rfl, h⟩
def rIsB (neg : Bool) : R2 := fun x y H Q => match x, y with
 | .bl b, .bl c => Q (.bl (if neg then !decide (b = c) else decide (b = c))) H
 | _, _ => False
theorem xqh {b c : Bool} {H : Hp} {Q : VK} : rIsB false (.bl b) (.bl c) H Q ↔ Q (.bl (decide (b = c))) H := Iff.rfl
end L2
namespace Wm
open PySem L2
def isSg (c : Nat) : Bool := decide (32 ≤ c) && decide (c ≤ 126) && !decide (c = 37)
def SG : List Nat := (List.range 127).filter isSg
def hexd (n : Nat) : Nat := if n < 10 then 48 + n else 87 + n
def fig (a : Nat) : Option Nat := if 48 ≤ a ∧ a ≤ 57 then some (a - 48) else if 97 ≤ a ∧ a ≤ 102 then some (a - 87) else if 65 ≤ a ∧ a ≤ 70 then some (a - 55) else none
def figV (a : Nat) : V := match fig a with | some n => .int (n : Nat) | none => .non
abbrev one (c : Nat) : V := .str ⟨#[c]⟩
def sgV (n : Nat) : V := if isSg n then one n else .non
def signOf (a b : Nat) : V := match fig a, fig b with | some h, some l => sgV (h * 16 + l) | _, _ => .non
def signOfL : List Nat → V
 | [a, b] => signOf a b
 | _ => .non
theorem rqc {c : Nat} : c ∈ SG ↔ isSg c = true := by
 unfold SG
 rw [List.mem_filter, List.mem_range]
 constructor
 ·exact fun h => h.2
 ·intro h
  refine ⟨?_, h⟩
  simp only [isSg, Bool.and_eq_true, decide_eq_true_eq] at h
  omega
theorem cqk {c : Nat} (h : isSg c = true) : 32 ≤ c ∧ c ≤ 126 ∧ c ≠ 37 := by
 simp only [isSg, Bool.and_eq_true, decide_eq_true_eq, Bool.not_eq_true', decide_eq_false_iff_not] at h
 omega
theorem uqp : ∀ n, n < 16 → (Str.ofString "0123456789abcdef").cps.toList[n]? = some (hexd n) := by decide +kernel
theorem sqd {i : Int} {n : Nat} (e : i = (n : Int)) (h : n < 16) : atI (Str.ofString "0123456789abcdef").cps.toList i = some (hexd n) := by
 rw [e]; exact aqI (uqp n h)
theorem hqI : (Str.ofString "0123456789abcdef").length ≤ sizeLine := by decide +kernel
theorem rq3 : ∀ a, a < 128 → a ∈ (Str.ofString "0123456789abcdef").cps.toList →
  Builtin.Str.occurrences (Str.ofString "0123456789abcdef") ⟨#[a]⟩ 0 (Str.ofString "0123456789abcdef").length 1 = [(fig a).getD 0] ∧ (fig a).isSome = true := by decide +kernel
theorem rqK : ∀ a, a < 128 → ¬ a ∈ (Str.ofString "0123456789abcdef").cps.toList → a ∈ (Str.ofString "0123456789ABCDEF").cps.toList →
  Builtin.Str.occurrences (Str.ofString "0123456789ABCDEF") ⟨#[a]⟩ 0 (Str.ofString "0123456789ABCDEF").length 1 = [(fig a).getD 0] ∧ (fig a).isSome = true := by decide +kernel
theorem xql : ∀ a, a < 128 → ¬ a ∈ (Str.ofString "0123456789abcdef").cps.toList → ¬ a ∈ (Str.ofString "0123456789ABCDEF").cps.toList → fig a = none := by decide +kernel
theorem rqi : ∀ n, n < 127 → isSg n = true → (Str.ofString " !\"#$&'()*+,-./0123456789:;<=>?@ABCDEFGHIJKLMNOPQRSTUVWXYZ[\\]^_`abcdefghijklmnopqrstuvwxyz{|}~").cps.toList[n - 32 - (if 37 < n then 1 else 0)]? = some n := by decide +kernel
theorem mqs : (Str.ofString " !\"#$&'()*+,-./0123456789:;<=>?@ABCDEFGHIJKLMNOPQRSTUVWXYZ[\\]^_`abcdefghijklmnopqrstuvwxyz{|}~").length ≤ sizeLine := by decide +kernel
theorem wqQ : (Str.ofString " !\"#$&'()*+,-./0123456789:;<=>?@ABCDEFGHIJKLMNOPQRSTUVWXYZ[\\]^_`" ++ Str.ofString "abcdefghijklmnopqrstuvwxyz{|}~" : Str) = ⟨SG.toArray⟩ := by decide +kernel
theorem tqY : (Str.ofString " !\"#$&'()*+,-./0123456789:;<=>?@ABCDEFGHIJKLMNOPQRSTUVWXYZ[\\]^_`").length + (Str.ofString "abcdefghijklmnopqrstuvwxyz{|}~").length ≤ sizeLine := by decide +kernel
theorem nq4 : SG.length = 94 := by decide +kernel
def ixT (c : Nat) : Nat := c - 32 - (if 37 < c then 1 else 0)
theorem wqS : ∀ c, c < 127 → isSg c = true → Builtin.Str.occurrences (⟨SG.toArray⟩ : Str) ⟨#[c]⟩ 0 (⟨SG.toArray⟩ : Str).length 1 = [ixT c] := by decide +kernel
theorem uq1 {c : Nat} (h : isSg c = true) : (32 : Int) + (ixT c : Int) + (if 4 < (ixT c : Int) then 1 else 0) = (c : Int) := by
 have h := cqk h
 unfold ixT
 by_cases h1 : 37 < c
 ·rw [if_pos h1, if_pos (by omega)]; omega
 ·rw [if_neg h1, if_neg (by omega)]; omega
theorem vqi (c : Nat) (hc : isSg c = true) : signOf (hexd (c / 16)) (hexd (c % 16)) = one c := by
 have l := cqk hc
 have key : ∀ h, h < 16 → fig (hexd h) = some h := by decide +kernel
 unfold signOf
 rw [key _ (by omega), key _ (by omega)]
 have e : c / 16 * 16 + c % 16 = c := by omega
 simp only [sgV, e, hc, if_true]
theorem nqb (l : List Nat) (a : Nat) : ∀ k, ((List.range k).map fun j => a + j).filterMap (fun i => l[i]?) = (l.drop a).take k
 | 0 => by simp
 | k + 1 => by
  rw [List.range_succ, List.map_append, List.filterMap_append, nqb l a k, List.take_add_one, List.getElem?_drop]
  simp only [List.map_cons, List.map_nil]
  cases e : l[a + k]? with
  | none => simp [e]
  | some c => simp [e]
def clipI (n : Nat) (v : Int) : Nat := (max 0 (min (if v < 0 then v + n else v) n)).toNat
theorem rqU (a b : Nat) : sliceRange (a : Int) (b : Int) 1 = (List.range (b - a)).map fun j => a + j := by
 unfold sliceRange
 have h1 : (1 : Int) > 0 := by decide
 simp only [h1, if_true, Int.one_mul, Int.ediv_one]
 have e : (if (a : Int) < (b : Int) then (b : Int) - (a : Int) + 1 - 1 else 0).toNat = b - a := by split <;> omega
 rw [e]
 apply List.map_congr_left
 intro j _
 omega
theorem nqR (lo hi : Option Int) (n : Nat) : Builtin.Str.strSliceIndices lo hi 1 n = (List.range ((hi.elim n (clipI n)) - (lo.elim 0 (clipI n)))).map fun j => (lo.elim 0 (clipI n)) + j := by
 unfold Builtin.Str.strSliceIndices
 have h1 : (1 : Int) > 0 := by decide
 simp only [h1, if_true]
 rw [← rqU]
 congr 1
 ·cases lo with
  | none => rfl
  | some v => simp only [Option.elim_some, clipI]; omega
 ·cases hi with
  | none => rfl
  | some v => simp only [Option.elim_some, clipI]; omega
theorem jq8 (l : List Nat) (lo hi : Option Int) : Txt.slice (⟨l.toArray⟩ : Str) lo hi = ⟨((l.drop (lo.elim 0 (clipI l.length))).take ((hi.elim l.length (clipI l.length)) - (lo.elim 0 (clipI l.length)))).toArray⟩ := by
 have hl : (⟨l.toArray⟩ : Str).length = l.length := by simp [Str.length]
 have hb : hi.elim l.length (clipI l.length) ≤ l.length := by
  cases hi with
  | none => exact Nat.le_refl _
  | some v => simp only [Option.elim_some, clipI]; omega
 have hb' : lo.elim 0 (clipI l.length) ≤ l.length := by
  cases lo with
  | none => exact Nat.zero_le _
  | some v => simp only [Option.elim_some, clipI]; omega
 have ef : (fun i : Nat => (⟨l.toArray⟩ : Str).cps[i]?) = fun i => l[i]? := by funext i; simp
 unfold Txt.slice
 rw [hl, nqR, ef]
 split
 ·rename_i h
  simp only [List.length_map, List.length_range, beq_self_eq_true, Bool.true_and, beq_iff_eq] at h
  have e1 : lo.elim 0 (clipI l.length) = 0 := by omega
  have e2 : hi.elim l.length (clipI l.length) = l.length := by omega
  rw [e1, e2]
  simp
 ·rw [nqb l (lo.elim 0 (clipI l.length)) ((hi.elim l.length (clipI l.length)) - (lo.elim 0 (clipI l.length)))]
theorem lqY (n k : Nat) : clipI n (k : Int) = min k n := by unfold clipI; split <;> omega
theorem pqs (l : List Nat) (k : Nat) : Txt.slice (⟨l.toArray⟩ : Str) (some (k : Int)) none = ⟨(l.drop k).toArray⟩ := by
 rw [jq8]
 simp only [Option.elim_some, Option.elim_none, lqY]
 by_cases h : k ≤ l.length
 ·rw [Nat.min_eq_left h, List.take_of_length_le (by simp)]
 ·rw [Nat.min_eq_right (by omega), List.drop_eq_nil_of_le (Nat.le_refl _), List.drop_eq_nil_of_le (by omega)]
  simp
theorem oqB (l : List Nat) (k : Nat) : Txt.slice (⟨l.toArray⟩ : Str) none (some (k : Int)) = ⟨(l.take k).toArray⟩ := by
 rw [jq8]
 simp only [Option.elim_some, Option.elim_none, lqY, List.drop_zero, Nat.sub_zero]
 by_cases h : k ≤ l.length
 ·rw [Nat.min_eq_left h]
 ·rw [Nat.min_eq_right (by omega), List.take_length, List.take_of_length_le (by omega)]
theorem pqC (l : List Nat) (i j : Nat) : Txt.slice (⟨l.toArray⟩ : Str) (some (i : Int)) (some (j : Int)) = ⟨((l.drop i).take (j - i)).toArray⟩ := by
 rw [jq8]
 simp only [Option.elim_some, lqY]
 by_cases h : i ≤ l.length
 ·rw [Nat.min_eq_left h]
  by_cases h2 : j ≤ l.length
  ·rw [Nat.min_eq_left h2]
  ·rw [Nat.min_eq_right (by omega : l.length ≤ j), List.take_of_length_le (by simp), List.take_of_length_le (by simp; omega)]
 ·rw [Nat.min_eq_right (by omega : l.length ≤ i), List.drop_eq_nil_of_le (Nat.le_refl _), List.drop_eq_nil_of_le (by omega)]
  simp
theorem vqq : Str.ofString "" = ⟨([] : List Nat).toArray⟩ := by decide +kernel
theorem oqI (ys : List Str) : Txt.join (⟨([] : List Nat).toArray⟩ : Str) ys = ⟨(ys.flatMap fun y => y.cps.toList).toArray⟩ := by
 show Builtin.Str.glued _ _ = _
 rw [StrLaws.glued_eq_join]
 induction ys with
 | nil => rfl
 | cons y r ih =>
  cases r with
  | nil =>
   show y = _
   simp
  | cons z r =>
   show y ++ (⟨#[]⟩ : Str) ++ Str.join ⟨#[]⟩ (z :: r) = _
   rw [ih]
   show Str.mk (y.cps ++ #[] ++ _) = _
   simp [List.flatMap_cons]
theorem kq3 (l m : List Nat) : ((⟨l.toArray⟩ : Str) ++ (⟨m.toArray⟩ : Str)) = ⟨(l ++ m).toArray⟩ := by
 show Str.mk (l.toArray ++ m.toArray) = _
 simp
theorem gqL {l m : List Nat} : ((⟨l.toArray⟩ : Str) = ⟨m.toArray⟩) ↔ l = m := by
 constructor
 ·intro h; injection h with h; injection h
 ·rintro rfl; rfl
theorem cqV (l : List Nat) : (⟨l.toArray⟩ : Str).length = l.length := by simp [Str.length]
theorem rqI : Str.ofString "~" = ⟨[126].toArray⟩ := by decide +kernel
theorem tq4 (l : List Nat) : Txt.slice (⟨l.toArray⟩ : Str) (some 1) none = ⟨(l.drop 1).toArray⟩ := pqs l 1
theorem gqI {a n : Nat} (h : fig a = some n) : figV a = .int (n : Nat) := by unfold figV; rw [h]
theorem jqX {a : Nat} (h : fig a = none) : figV a = .non := by unfold figV; rw [h]
theorem uqB {n : Nat} (h : isSg n = true) : sgV n = one n := by unfold sgV; rw [if_pos h]
theorem pqJ {n : Nat} (h : ¬ isSg n = true) : sgV n = .non := by unfold sgV; rw [if_neg h]
theorem tqR {n : Nat} (h1 : 32 ≤ n) (h2 : n ≤ 126) (h3 : n ≠ 37) : isSg n = true := by
 simp only [isSg, Bool.and_eq_true, decide_eq_true_eq, Bool.not_eq_true', decide_eq_false_iff_not]
 omega
theorem pqo {l : List Nat} (h : l.length ≠ 2) : signOfL l = .non := by
 match l with
 | [] => rfl
 | [_] => rfl
 | [_, _] => exact absurd rfl h
 | _ :: _ :: _ :: _ => rfl
theorem vqK {l : List Nat} (h : l.length = 2) : ∃ a b, l = [a, b] := by
 match l, h with
 | [a, b], _ => exact ⟨a, b, rfl⟩
def isPl (c : Nat) : Bool := decide (48 ≤ c ∧ c ≤ 57) || decide (65 ≤ c ∧ c ≤ 90) || decide (97 ≤ c ∧ c ≤ 122) || decide (c = 45) || decide (c = 46) || decide (c = 95)
theorem oqv : ∀ c, c < 128 → (decide (c ∈ (Str.ofString "abcdefghijklmnopqrstuvwxyzABCDEFGHIJKLMNOPQRSTUVWXYZ0123456789-_.").cps.toList)) = isPl c := by decide +kernel
theorem pq3 : ∀ c, c < 128 → (Txt.isalnum ⟨#[c]⟩ || decide (c ∈ (Str.ofString "-_.").cps.toList)) = isPl c := by decide +kernel
def wr1 (c : Nat) : List Nat := if isPl c then [c] else [126, hexd (c / 16), hexd (c % 16)]
def wr (l : List Nat) : List Nat := l.flatMap wr1
theorem pqT (c : Nat) : (wr1 c).length ≤ 3 := by unfold wr1; split <;> simp
theorem iqj (l : List Nat) : (wr l).length ≤ 3 * l.length := by
 induction l with
 | nil => simp [wr]
 | cons c r ih =>
  have := pqT c
  unfold wr at ih ⊢
  rw [List.flatMap_cons, List.length_append, List.length_cons]
  omega
def sgO (a b : Nat) : Option Nat := match fig a, fig b with
 | some h, some l => if isSg (h * 16 + l) then some (h * 16 + l) else none
 | _, _ => none
def oV : Option Nat → V
 | some c => one c
 | none => .non
theorem qqq (a b : Nat) : signOf a b = oV (sgO a b) := by
 unfold signOf sgO
 cases fig a with
 | none => rfl
 | some h =>
  cases fig b with
  | none => rfl
  | some l =>
   simp only [sgV]
   split <;> rfl
theorem lq6 {c : Nat} (hc : isSg c = true) : sgO (hexd (c / 16)) (hexd (c % 16)) = some c := by
 have l := cqk hc
 have key : ∀ h, h < 16 → fig (hexd h) = some h := by decide +kernel
 unfold sgO
 rw [key _ (by omega), key _ (by omega)]
 have e : c / 16 * 16 + c % 16 = c := by omega
 simp only [e, hc, if_true]
theorem wqd : isPl 126 = false := by decide
theorem uqs {ns : List Int} {k : Nat} (h : k < ns.length) : atI (ns.map V.int) (k : Int) = some (.int (ns.getD k 0)) := by
 refine aqI ?_
 rw [List.getElem?_map, List.getElem?_eq_getElem h, List.getD_eq_getElem?_getD, List.getElem?_eq_getElem h]
 rfl
theorem aqq {n : Nat} (h : n ≤ 100000) : n ≤ sizeLine := Nat.le_trans h (by decide)
theorem tqn (f : Nat → Nat) (l : List Nat) : (l.toArray).map f = (l.map f).toArray := by simp
theorem pqG (l : List Nat) : (⟨l.toArray⟩ : Str).cps.toList = l := rfl
theorem bqp {H : Hp} {p : Addr} {o : HO} (hp : H p = none) : Same H (upd H p o) := fun b u e => by rw [aqv (aql e hp)]; exact e
theorem oq4 (dn : List Nat) : ((dn.map fun c => (⟨[c].toArray⟩ : Str)).flatMap fun y => y.cps.toList) = dn := by
 induction dn with
 | nil => rfl
 | cons c r ih => rw [List.map_cons, List.flatMap_cons, ih]; rfl
theorem qqt (dn : List Nat) : ((dn.map fun c => (⟨[c].toArray⟩ : Str)).map (·.length)).sum = dn.length := by
 induction dn with
 | nil => rfl
 | cons c r ih => rw [List.map_cons, List.map_cons, List.sum_cons, ih, List.length_cons]; show 1 + _ = _; omega
def hit (a b c : Nat) : Bool := decide ([hexd (c / 16), hexd (c % 16)] = [PyProof.Rows.lo1 a, PyProof.Rows.lo1 b])
end Wm
namespace Wm
open PySem L2
mutual
def smallD : PyData → Bool
 | .str x => decide (x.length ≤ 100000)
 | .list xs => decide (xs.length ≤ 100000) && smallAll xs
 | .tuple xs => decide (xs.length ≤ 100000) && smallAll xs
 | .dict _ => false
 | .none => true
 | .bool _ => true
 | .int _ => true
def smallAll : List PyData → Bool
 | [] => true
 | d :: ds => smallD d && smallAll ds
end
theorem nqk {x : Str} (h : smallD (.str x) = true) : x.length ≤ 100000 := by simpa [smallD] using h
def isLet (c : Nat) : Bool := decide (65 ≤ c ∧ c ≤ 90) || decide (97 ≤ c ∧ c ≤ 122)
def isAln (c : Nat) : Bool := isLet c || decide (48 ≤ c ∧ c ≤ 57)
theorem vqH : ∀ c, c < 128 → (decide (c ∈ (Str.ofString "abcdefghijklmnopqrstuvwxyzABCDEFGHIJKLMNOPQRSTUVWXYZ").cps.toList)) = isLet c := by decide +kernel
theorem vqG : ∀ c, c < 128 → (decide (c ∈ (Str.ofString "abcdefghijklmnopqrstuvwxyzABCDEFGHIJKLMNOPQRSTUVWXYZ0123456789").cps.toList)) = isAln c := by decide +kernel
theorem vqO : (Str.ofString " !\"#$&'()*+,-./0123456789:;<=>?@ABCDEFGHIJKLMNOPQRSTUVWXYZ[\\]^_`abcdefghijklmnopqrstuvwxyz{|}~").cps.toList = SG := by decide +kernel
theorem wqb (c : Nat) : (decide (c ∈ (Str.ofString " !\"#$&'()*+,-./0123456789:;<=>?@ABCDEFGHIJKLMNOPQRSTUVWXYZ[\\]^_`abcdefghijklmnopqrstuvwxyz{|}~").cps.toList)) = isSg c := by
 rw [vqO, Bool.eq_iff_iff, decide_eq_true_eq, rqc]
def tx : PyData → Bool
 | .str x => x.cps.toList.all isSg
 | _ => false
def schD : PyData → Bool
 | .str x => x.cps.toList.all isSg && decide (x.length ≤ 8) && (x.cps.toList.take 1).all isLet && x.cps.toList.all isAln
 | _ => false
abbrev st (l : List Nat) : PyData := .str ⟨l.toArray⟩
def oD : Option (List Nat) → PyData
 | none => .none
 | some l => st l
def otV : Option (List Nat) → V
 | none => .non
 | some l => .str ⟨l.toArray⟩
theorem pqh {H : Hp} (o : Option (List Nat)) : IsT H (oD o) (otV o) := by
 cases o with
 | none => exact .non
 | some x => exact .str _
def iD : Option Int → PyData
 | none => .none
 | some i => .int i
def qD : Option (List (List Nat × Option (List Nat))) → PyData
 | none => .none
 | some ps => .tuple (ps.map fun p => .tuple [st p.1, oD p.2])
structure Ad where
 scheme : List Nat
 house : Option (List Nat)
 door : Option Int
 rooted : Bool
 steps : List (List Nat)
 ends : Bool
 quest : Option (List (List Nat × Option (List Nat)))
 mark : Option (List Nat)
def Ad.way (x : Ad) : PyData := .tuple [.bool x.rooted, .tuple (x.steps.map st), .bool x.ends]
def Ad.data (x : Ad) : PyData := .tuple [st x.scheme, oD x.house, iD x.door, x.way, qD x.quest, oD x.mark]
def Tx (n : Nat) (l : List Nat) : Prop := l.length ≤ n ∧ ∀ c ∈ l, isSg c = true
structure Ad.Ok (x : Ad) : Prop where
 sch : x.scheme.length ≤ 8 ∧ (∀ c ∈ x.scheme, isAln c = true) ∧ ∀ c ∈ x.scheme.take 1, isLet c = true
 hou : ∀ l, x.house = some l → 0 < l.length ∧ Tx 60 l
 doo : ∀ i, x.door = some i → (0 ≤ i ∧ i ≤ 65535) ∧ x.house ≠ none
 stp : x.steps.length ≤ 50 ∧ ∀ l ∈ x.steps, 0 < l.length ∧ Tx 60 l
 roo : x.scheme ≠ [] ∨ x.house ≠ none → x.rooted = true
 end_ : x.steps = [] → x.ends = x.rooted
 que : ∀ ps, x.quest = some ps → ps.length ≤ 20 ∧ ∀ p ∈ ps, (0 < p.1.length ∧ Tx 6 p.1) ∧ ∀ v, p.2 = some v → Tx 6 v
 mar : ∀ l, x.mark = some l → Tx 60 l
theorem nqp {c : Nat} (h : isAln c = true) : isSg c = true := by
 simp only [isAln, isLet, Bool.or_eq_true, decide_eq_true_eq] at h
 simp only [isSg, Bool.and_eq_true, decide_eq_true_eq, Bool.not_eq_true', decide_eq_false_iff_not]
 omega
def Deck (H : Hp) (p : Addr) (n : Nat) : Prop := ∃ a b c : Int, H p = some (.lst [.int a, .int b, .int c]) ∧ 0 ≤ c ∧ c ≤ n
theorem Deck.lst {H : Hp} {p : Addr} {n : Nat} (h : Deck H p n) : ∃ xs, H p = some (.lst xs) := by obtain ⟨a, b, c, h, _⟩ := h; exact ⟨_, h⟩
theorem Deck.le {H : Hp} {p : Addr} {n m : Nat} (h : Deck H p n) (hm : n ≤ m) : Deck H p m := by obtain ⟨a, b, c, h, h1, h2⟩ := h; exact ⟨a, b, c, h, h1, by omega⟩
theorem Deck.same {H H' : Hp} {p : Addr} {n : Nat} (h : Deck H p n) (sm : Same H H') : Deck H' p n := by obtain ⟨a, b, c, h, r⟩ := h; exact ⟨a, b, c, sm _ _ h, r⟩
theorem Deck.ne {H : Hp} {p q : Addr} {n : Nat} (h : Deck H p n) (hq : H q = none) : q ≠ p := by
 obtain ⟨xs, e⟩ := h.lst
 exact (aql e hq).symm
theorem Deck.upd {H : Hp} {p q : Addr} {n : Nat} {o : HO} (h : Deck H p n) (hq : q ≠ p) : Deck (upd H q o) p n := by
 obtain ⟨a, b, c, h, r⟩ := h
 exact ⟨a, b, c, by rw [aqv (Ne.symm hq)]; exact h, r⟩
theorem Deck.toT {H H' : Hp} {p : Addr} {n : Nat} (h : Deck H p n) (sb : SameBut p H H') : SameT H H' := by
 obtain ⟨xs, e⟩ := h.lst
 exact sb.toT e
theorem tqX {α : Type} (l : List α) {r : Int} (h0 : 0 ≤ r) (h1 : r < l.length) : ∃ c, c ∈ l ∧ atI l r = some c := by
 have h3 : r.toNat < l.length := by omega
 refine ⟨l[r.toNat], List.getElem_mem _, ?_⟩
 have := aqI (xs := l) (j := r.toNat) (v := l[r.toNat]) (by simp [h3])
 rw [Int.toNat_of_nonneg h0] at this
 exact this
def AL : List Nat := (Str.ofString "abcdefghijklmnopqrstuvwxyzABCDEFGHIJKLMNOPQRSTUVWXYZ0123456789").cps.toList
theorem wqD : (Str.ofString "abcdefghijklmnopqrstuvwxyzABCDEFGHIJKLMNOPQRSTUVWXYZ" ++ Str.ofString "0123456789" : Str) = ⟨AL.toArray⟩ := by decide +kernel
theorem sqW : AL.length = 62 := by decide +kernel
theorem wqC : ∀ c ∈ AL, isAln c = true := by decide +kernel
theorem vqF : ∀ i, i < 52 → ∃ c, AL[i]? = some c ∧ isLet c = true := by
 have h : ∀ i, i < 52 → (AL[i]?).any isLet = true := by decide +kernel
 intro i hi
 have := h i hi
 cases e : AL[i]? with
 | none => rw [e] at this; cases this
 | some c => rw [e] at this; exact ⟨c, rfl, this⟩
theorem tabs5 : ∀ r : Int, 0 ≤ r → r < 5 → ∃ tab : List Nat, atI [V.str ⟨SG.toArray⟩, V.str ⟨SG.toArray⟩, V.str (Str.ofString "abcXYZ019-_."), V.str (Str.ofString "/?#:&=~.@ +"), V.str (Str.ofString "aA.~")] r = some (.str ⟨tab.toArray⟩) ∧ 0 < tab.length ∧ tab.length ≤ 94 ∧ ∀ c ∈ tab, isSg c = true := by
 intro r h0 h1
 have h : r = ((0 : Nat) : Int) ∨ r = ((1 : Nat) : Int) ∨ r = ((2 : Nat) : Int) ∨ r = ((3 : Nat) : Int) ∨ r = ((4 : Nat) : Int) := by omega
 rcases h with rfl | rfl | rfl | rfl | rfl
 ·exact ⟨SG, aqI rfl, by rw [nq4]; decide, by rw [nq4]; decide, fun c hc => rqc.mp hc⟩
 ·exact ⟨SG, aqI rfl, by rw [nq4]; decide, by rw [nq4]; decide, fun c hc => rqc.mp hc⟩
 ·exact ⟨(Str.ofString "abcXYZ019-_.").cps.toList, aqI rfl, by decide +kernel, by decide +kernel, by decide +kernel⟩
 ·exact ⟨(Str.ofString "/?#:&=~.@ +").cps.toList, aqI rfl, by decide +kernel, by decide +kernel, by decide +kernel⟩
 ·exact ⟨(Str.ofString "aA.~").cps.toList, aqI rfl, by decide +kernel, by decide +kernel, by decide +kernel⟩
theorem nqG {α : Type} (l : List α) (c : α) : (l ++ [c]).take 1 = if l.length = 0 then [c] else l.take 1 := by
 cases l with
 | nil => rfl
 | cons a r => rfl
def itV : Option Int → V
 | none => .non
 | some i => .int i
theorem wqs {H : Hp} (o : Option Int) : IsT H (iD o) (itV o) := by
 cases o with
 | none => exact .non
 | some x => exact .int _
theorem nq3 : ∀ {ss : List (List Nat)}, (∀ l ∈ ss, ∀ c ∈ l, isSg c = true) → PyData.canLayAll0 (ss.map st) = true ∧ PyData.depthAll (ss.map st) = 0
 | [], _ => ⟨rfl, rfl⟩
 | l :: r, h => by
  obtain ⟨h1, h2⟩ := nq3 (ss := r) fun l' hl' => h l' (List.mem_cons_of_mem _ hl')
  have hc : PyData.strOk ⟨l.toArray⟩ = true := by
   simp only [PyData.strOk, List.all_toArray, List.all_eq_true, decide_eq_true_eq]
   intro c hc
   have := cqk (h l List.mem_cons_self c hc)
   omega
  refine ⟨?_, ?_⟩
  ·simp only [List.map_cons, PyData.canLayAll0, PyData.canLay0, hc, h1]; rfl
  ·simp only [List.map_cons, PyData.depthAll, PyData.depth, h2]; rfl
theorem gqq {ss : List (List Nat)} (h : ∀ l ∈ ss, ∀ c ∈ l, isSg c = true) : SeqAt.shaped (.tuple (ss.map st)) = true := by
 obtain ⟨h1, h2⟩ := nq3 h
 unfold SeqAt.shaped
 simp only [PyData.canLay0, PyData.depth, h1, h2]
 decide
theorem nqJ (ds : List PyData) : PyData.eqv (.tuple ds) (.tuple []) = ds.isEmpty := by
 cases ds <;> simp [PyData.eqv, PyData.eqvAll]
theorem hqd {l : List Nat} : ((⟨l.toArray⟩ : Str) = ⟨#[]⟩) ↔ l = [] := gqL (m := [])
def Bad (f : PyData → Bool) (H : Hp) (v : V) : Prop := ∃ d, Is H d v ∧ smallD d = true ∧ f d = false
def Bads (f : PyData → Bool) (H : Hp) (vs : List V) : Prop := ∀ v ∈ vs, Bad f H v
theorem Bads.cons {f : PyData → Bool} {H : Hp} {v : V} {vs : List V} (h : Bad f H v) (r : Bads f H vs) : Bads f H (v :: vs) := fun w hw => by
 rcases List.mem_cons.mp hw with rfl | hw
 ·exact h
 ·exact r w hw
theorem qqH {q : Addr} {H H' : Hp} {o : HO} (hq : H q = none) (sm : Same H H') : Same H (upd H' q o) := fun b u e => by
 rw [aqv (aql e hq)]; exact sm _ _ e
end Wm
namespace Wm
open PySem L2
def dg (i : Int) : List Nat := (Str.ofString (toString i)).cps.toList
theorem sq1 {i : Int} (hi : 0 ≤ i) : ∀ c ∈ dg i, 48 ≤ c ∧ c ≤ 57 := by
 intro c hc
 obtain ⟨n, rfl⟩ := Int.eq_ofNat_of_zero_le hi
 unfold dg at hc
 rw [PySem.W.KIN.signs_num, List.mem_map] at hc
 obtain ⟨d, hd, rfl⟩ := hc
 have := Nat.isDigit_of_mem_toDigits (by decide) (by decide) hd
 simp only [Char.isDigit, Bool.and_eq_true, decide_eq_true_eq] at this
 exact ⟨this.1, this.2⟩
theorem oqf {i : Int} (hi : 0 ≤ i) (hi' : i ≤ 65535) : (dg i).length ≤ 5 := by
 have := PyProof.Rows.toString_length_le hi (k := 5) (by decide) (by omega)
 simpa [dg, Str.length] using this
def Hd (p : Nat → Bool) (r : List Nat) : Prop := ∀ c r', r = c :: r' → p c = true
theorem Hd.cons {p : Nat → Bool} {c : Nat} {r : List Nat} (h : p c = true) : Hd p (c :: r) := fun d r' e => by injection e with e; exact e ▸ h
def wch (c : Nat) : Bool := isPl c || decide (c = 126)
theorem qqc : ∀ n, n < 16 → isPl (hexd n) = true := by decide +kernel
theorem sqa {l : List Nat} (h : ∀ c ∈ l, isSg c = true) : ∀ c ∈ wr l, wch c = true := by
 intro c hc
 unfold wr at hc
 obtain ⟨d, hd, hc⟩ := List.mem_flatMap.mp hc
 have := cqk (h d hd)
 unfold wr1 at hc
 split at hc
 ·next hp => rw [List.mem_singleton] at hc; rw [hc, wch, hp]; rfl
 ·simp only [List.mem_cons, List.not_mem_nil, or_false] at hc
  rcases hc with rfl | rfl | rfl
  ·rfl
  ·rw [wch, qqc _ (by omega)]; rfl
  ·rw [wch, qqc _ (by omega)]; rfl
theorem kqi {c : Nat} (h : wch c = true) : c ≠ 35 ∧ c ≠ 38 ∧ c ≠ 47 ∧ c ≠ 58 ∧ c ≠ 61 ∧ c ≠ 63 := by
 simp only [wch, isPl, Bool.or_eq_true, decide_eq_true_eq] at h
 omega
theorem nqr {c : Nat} (h : isAln c = true) : wch c = true := by
 simp only [isAln, isLet, Bool.or_eq_true, decide_eq_true_eq] at h
 simp only [wch, isPl, Bool.or_eq_true, decide_eq_true_eq]
 omega
def tlT (sep : Nat) : List (List Nat) → List Nat
 | [] => []
 | s :: r => sep :: (s ++ tlT sep r)
def joinT (sep : Nat) : List (List Nat) → List Nat
 | [] => []
 | s :: r => s ++ tlT sep r
theorem tqc {sep : Nat} {P : Nat → Prop} (hs : P sep) : ∀ {a : List (List Nat)}, (∀ s ∈ a, ∀ c ∈ s, P c) → ∀ c ∈ tlT sep a, P c
 | [], _, c, hc => by cases hc
 | s :: a, h, c, hc => by
  simp only [tlT, List.mem_cons, List.mem_append] at hc
  rcases hc with rfl | hc | hc
  ·exact hs
  ·exact h s (List.mem_cons_self ..) c hc
  ·exact tqc hs (fun t ht => h t (List.mem_cons_of_mem _ ht)) c hc
theorem oqd {sep : Nat} {P : Nat → Prop} (hs : P sep) {a : List (List Nat)} (h : ∀ s ∈ a, ∀ c ∈ s, P c) : ∀ c ∈ joinT sep a, P c := by
 intro c hc
 match a with
 | [] => cases hc
 | s :: a =>
  simp only [joinT, List.mem_append] at hc
  rcases hc with hc | hc
  ·exact h s (List.mem_cons_self ..) c hc
  ·exact tqc hs (fun t ht => h t (List.mem_cons_of_mem _ ht)) c hc
def oT (sep : Nat) : Option (List Nat) → List Nat
 | none => []
 | some l => sep :: wr l
def pairT (p : List Nat × Option (List Nat)) : List Nat := wr p.1 ++ oT 61 p.2
def queT : Option (List (List Nat × Option (List Nat))) → List Nat
 | none => []
 | some ps => 63 :: joinT 38 (ps.map pairT)
def wayT (r : Bool) (ss : List (List Nat)) (e : Bool) : List Nat := (if r then [47] else []) ++ (joinT 47 (ss.map wr) ++ (if e && !ss.isEmpty then [47] else []))
def dooT : Option Int → List Nat
 | none => []
 | some i => 58 :: dg i
def houT : Option (List Nat) → List Nat
 | none => []
 | some l => 47 :: 47 :: wr l
def schT (s : List Nat) : List Nat := if s = [] then [] else s ++ [58]
def Ad.wayT (x : Ad) : List Nat := Wm.wayT x.rooted x.steps x.ends
def Ad.shw (x : Ad) : List Nat := schT x.scheme ++ (houT x.house ++ (dooT x.door ++ (x.wayT ++ (queT x.quest ++ oT 35 x.mark))))
theorem qq3 {sep : Nat} {P : Nat → Prop} (hs : P sep) (hw : ∀ c, wch c = true → P c) {o : Option (List Nat)} (h : ∀ l, o = some l → ∀ c ∈ l, isSg c = true) : ∀ c ∈ oT sep o, P c := by
 intro c hc
 cases o with
 | none => cases hc
 | some l =>
  simp only [oT, List.mem_cons] at hc
  rcases hc with rfl | hc
  ·exact hs
  ·exact hw c (sqa (h l rfl) c hc)
def PairOk (p : List Nat × Option (List Nat)) : Prop := (0 < p.1.length ∧ ∀ c ∈ p.1, isSg c = true) ∧ ∀ v, p.2 = some v → ∀ c ∈ v, isSg c = true
theorem sqs {P : Nat → Prop} (hs : P 61) (hw : ∀ c, wch c = true → P c) {p : List Nat × Option (List Nat)} (h : PairOk p) : ∀ c ∈ pairT p, P c := by
 intro c hc
 rcases List.mem_append.mp hc with hc | hc
 ·exact hw c (sqa h.1.2 c hc)
 ·exact qq3 hs hw h.2 c hc
def StepOk (s : List Nat) : Prop := 0 < s.length ∧ ∀ c ∈ s, isSg c = true
def stpT (ss : List (List Nat)) (e : Bool) : List Nat := joinT 47 (ss.map wr) ++ (if e && !ss.isEmpty then [47] else [])
theorem rqW (e : Bool) : stpT [] e = [] := by simp [stpT, joinT]
theorem qqm (r : Bool) (ss : List (List Nat)) (e : Bool) : wayT r ss e = (if r then [47] else []) ++ stpT ss e := rfl
structure Ad.Wf (x : Ad) : Prop where
 sch : x.scheme.length ≤ 8 ∧ (∀ c ∈ x.scheme, isAln c = true) ∧ ∀ c ∈ x.scheme.take 1, isLet c = true
 hou : ∀ l, x.house = some l → (0 < l.length ∧ l.length ≤ 60) ∧ ∀ c ∈ l, isSg c = true
 doo : ∀ i, x.door = some i → (0 ≤ i ∧ i ≤ 65535) ∧ x.house ≠ none
 stp : ∀ s ∈ x.steps, StepOk s
 roo : x.scheme ≠ [] ∨ x.house ≠ none → x.rooted = true
 end_ : x.steps = [] → x.ends = x.rooted
 que : ∀ ps, x.quest = some ps → ∀ p ∈ ps, PairOk p
 mar : ∀ l, x.mark = some l → ∀ c ∈ l, isSg c = true
theorem Ad.Ok.wf {x : Ad} (h : x.Ok) : x.Wf where
 sch := h.sch
 hou := fun l e => ⟨⟨(h.hou l e).1, (h.hou l e).2.1⟩, (h.hou l e).2.2⟩
 doo := h.doo
 stp := fun s hs => ⟨(h.stp.2 s hs).1, (h.stp.2 s hs).2.2⟩
 roo := h.roo
 end_ := h.end_
 que := fun ps e p hp => ⟨⟨((h.que ps e).2 p hp).1.1, ((h.que ps e).2 p hp).1.2.2⟩, fun v hv => (((h.que ps e).2 p hp).2 v hv).2⟩
 mar := fun l e => (h.mar l e).2
def Ad.mid (x : Ad) : List Nat := houT x.house ++ (dooT x.door ++ x.wayT)
def Ad.pre (x : Ad) : List Nat := schT x.scheme ++ x.mid
theorem Ad.shw_eq (x : Ad) : x.shw = (x.pre ++ queT x.quest) ++ oT 35 x.mark := by simp [Ad.shw, Ad.pre, Ad.mid]
theorem tqS {P : Nat → Prop} (hs : P 47) (hw : ∀ c, wch c = true → P c) {ss : List (List Nat)} {e : Bool} (h : ∀ s ∈ ss, StepOk s) : ∀ c ∈ stpT ss e, P c := by
 intro c hc
 rcases List.mem_append.mp hc with hc | hc
 ·refine oqd hs (fun s hs' d hd => ?_) c hc
  obtain ⟨t, ht, rfl⟩ := List.mem_map.mp hs'
  exact hw d (sqa (h t ht).2 d hd)
 ·split at hc
  ·rw [List.mem_singleton.mp hc]; exact hs
  ·cases hc
theorem qqd {P : Nat → Prop} (hs : P 47) (hw : ∀ c, wch c = true → P c) {r : Bool} {ss : List (List Nat)} {e : Bool} (h : ∀ s ∈ ss, StepOk s) : ∀ c ∈ wayT r ss e, P c := by
 intro c hc
 rw [qqm] at hc
 rcases List.mem_append.mp hc with hc | hc
 ·split at hc
  ·rw [List.mem_singleton.mp hc]; exact hs
  ·cases hc
 ·exact tqS hs hw h c hc
theorem tqw {c : Nat} (h : 48 ≤ c ∧ c ≤ 57) : wch c = true := by
 simp only [wch, isPl, Bool.or_eq_true, decide_eq_true_eq]; omega
theorem Ad.Wf.pre_all {P : Nat → Prop} {x : Ad} (h : x.Wf) (h1 : P 47) (h2 : P 58) (hw : ∀ c, wch c = true → P c) : ∀ c ∈ x.pre, P c := by
 intro c hc
 rcases List.mem_append.mp hc with hc | hc
 ·unfold schT at hc
  split at hc
  ·cases hc
  ·rcases List.mem_append.mp hc with hc | hc
   ·exact hw c (nqr (h.sch.2.1 c hc))
   ·rw [List.mem_singleton.mp hc]; exact h2
 rcases List.mem_append.mp hc with hc | hc
 ·cases hh : x.house with
  | none => rw [hh] at hc; cases hc
  | some l =>
   rw [hh] at hc
   simp only [houT, List.mem_cons] at hc
   rcases hc with rfl | rfl | hc
   ·exact h1
   ·exact h1
   ·exact hw c (sqa (h.hou l hh).2 c hc)
 rcases List.mem_append.mp hc with hc | hc
 ·cases hd : x.door with
  | none => rw [hd] at hc; cases hc
  | some i =>
   rw [hd] at hc
   simp only [dooT, List.mem_cons] at hc
   rcases hc with rfl | hc
   ·exact h2
   ·exact hw c (tqw (sq1 (h.doo i hd).1.1 c hc))
 ·exact qqd h1 hw h.stp c hc
theorem sq5 (l m : List Nat) : PyData.eqv (st l) (st m) = true ↔ l = m := by
 simp only [PyData.eqv, beq_iff_eq]; exact gqL
theorem qqX (a b : Option (List Nat)) : PyData.eqv (oD a) (oD b) = true ↔ a = b := by
 match a, b with
 | none, none => simp [oD, PyData.eqv]
 | none, some m => simp [oD, PyData.eqv]
 | some l, none => simp [oD, PyData.eqv]
 | some l, some m => exact (sq5 l m).trans (by simp)
theorem wqt (a b : Option Int) : PyData.eqv (iD a) (iD b) = true ↔ a = b := by
 match a, b with
 | none, none => simp [iD, PyData.eqv]
 | none, some m => simp [iD, PyData.eqv]
 | some l, none => simp [iD, PyData.eqv]
 | some l, some m => simp [iD, PyData.eqv]
theorem iqE {α : Type} {f : α → PyData} (hf : ∀ a b, PyData.eqv (f a) (f b) = true ↔ a = b) : ∀ (l m : List α), PyData.eqvAll (l.map f) (m.map f) = true ↔ l = m
 | [], [] => by simp [PyData.eqvAll]
 | [], b :: m => by simp [PyData.eqvAll]
 | a :: l, [] => by simp [PyData.eqvAll]
 | a :: l, b :: m => by
  simp only [List.map_cons, PyData.eqvAll, Bool.and_eq_true, List.cons.injEq]
  rw [hf a b, iqE hf l m]
theorem wqo (a b : Option (List (List Nat × Option (List Nat)))) : PyData.eqv (qD a) (qD b) = true ↔ a = b := by
 match a, b with
 | none, none => simp [qD, PyData.eqv]
 | none, some m => simp [qD, PyData.eqv]
 | some l, none => simp [qD, PyData.eqv]
 | some l, some m =>
  simp only [qD, PyData.eqv, Option.some.injEq]
  refine iqE (fun a b => ?_) l m
  simp only [PyData.eqv, PyData.eqvAll, Bool.and_eq_true, Bool.and_true]
  rw [qqX, beq_iff_eq]
  exact ⟨fun h => Prod.ext (gqL.mp h.1) h.2, fun h => by rw [h]; exact ⟨rfl, rfl⟩⟩
theorem tqt (x y : Ad) : PyData.eqv x.way y.way = true ↔ x.rooted = y.rooted ∧ x.steps = y.steps ∧ x.ends = y.ends := by
 simp only [Ad.way, PyData.eqv, PyData.eqvAll, Bool.and_eq_true, Bool.and_true, beq_iff_eq]
 rw [iqE sq5]
theorem Ad.eqv_iff (x y : Ad) : PyData.eqv x.data y.data = true ↔ x = y := by
 simp only [Ad.data, PyData.eqv, PyData.eqvAll, Bool.and_eq_true, Bool.and_true, beq_iff_eq]
 rw [qqX, wqt, tqt, wqo, qqX]
 cases x; cases y
 simp only [Ad.mk.injEq]
 constructor
 ·rintro ⟨h1, h2, h3, ⟨h4, h5, h6⟩, h7, h8⟩
  exact ⟨gqL.mp h1, h2, h3, h4, h5, h6, h7, h8⟩
 ·rintro ⟨h1, h2, h3, h4, h5, h6, h7, h8⟩
  exact ⟨by rw [h1], h2, h3, ⟨h4, h5, h6⟩, h7, h8⟩
def LayAt (n : Nat) (d : PyData) : Prop := d.canLay0 = true ∧ d.depth ≤ n
theorem LayAt.shaped {n : Nat} {d : PyData} (h : LayAt n d) (hn : n ≤ 64) : SeqAt.shaped d = true := by
 unfold SeqAt.shaped; rw [h.1, decide_eq_true (Nat.le_trans h.2 hn)]; rfl
theorem LayAt.le {n m : Nat} {d : PyData} (h : LayAt n d) (hn : n ≤ m) : LayAt m d := ⟨h.1, Nat.le_trans h.2 hn⟩
theorem layAll {n : Nat} : ∀ {ds : List PyData}, (∀ d ∈ ds, LayAt n d) → PyData.canLayAll0 ds = true ∧ PyData.depthAll ds ≤ n
 | [], _ => ⟨rfl, Nat.zero_le _⟩
 | d :: ds, h => by
  obtain ⟨h1, h2⟩ := layAll (ds := ds) fun e he => h e (List.mem_cons_of_mem _ he)
  have := h d (List.mem_cons_self ..)
  simp only [PyData.canLayAll0, PyData.depthAll, this.1, h1, Bool.and_self, true_and]
  exact Nat.max_le.mpr ⟨this.2, h2⟩
theorem LayAt.tup {n : Nat} {ds : List PyData} (h : ∀ d ∈ ds, LayAt n d) : LayAt (n + 1) (.tuple ds) := by
 obtain ⟨h1, h2⟩ := layAll h
 exact ⟨by simp only [PyData.canLay0, h1], by simp only [PyData.depth]; omega⟩
theorem LayAt.st {l : List Nat} (h : ∀ c ∈ l, isSg c = true) : LayAt 0 (st l) := by
 refine ⟨?_, Nat.le_refl _⟩
 simp only [PyData.canLay0, PyData.strOk, List.all_toArray, List.all_eq_true, decide_eq_true_eq]
 intro c hc
 have := cqk (h c hc)
 omega
theorem LayAt.bool {b : Bool} : LayAt 0 (.bool b) := ⟨rfl, Nat.le_refl _⟩
theorem LayAt.oD {o : Option (List Nat)} (h : ∀ l, o = some l → ∀ c ∈ l, isSg c = true) : LayAt 0 (oD o) := by
 cases o with
 | none => exact ⟨rfl, Nat.le_refl _⟩
 | some l => exact .st (h l rfl)
theorem LayAt.iD {o : Option Int} : LayAt 0 (iD o) := by
 cases o with
 | none => exact ⟨rfl, Nat.le_refl _⟩
 | some l => exact ⟨rfl, Nat.le_refl _⟩
theorem LayAt.qD {q : Option (List (List Nat × Option (List Nat)))} (h : ∀ ps, q = some ps → ∀ p ∈ ps, PairOk p) : LayAt 2 (qD q) := by
 cases q with
 | none => exact ⟨rfl, Nat.zero_le _⟩
 | some ps =>
  refine .tup (n := 1) fun d hd => ?_
  obtain ⟨p, hp, rfl⟩ := List.mem_map.mp hd
  have hk := h ps rfl p hp
  refine .tup (n := 0) fun e he => ?_
  simp only [List.mem_cons, List.not_mem_nil, or_false] at he
  rcases he with rfl | rfl
  ·exact .st hk.1.2
  ·exact .oD hk.2
theorem Ad.Wf.layWay {x : Ad} (h : x.Wf) : LayAt 2 x.way := by
 refine .tup (n := 1) fun e he => ?_
 simp only [List.mem_cons, List.not_mem_nil, or_false] at he
 rcases he with rfl | rfl | rfl
 ·exact LayAt.bool.le (by decide)
 ·refine .tup (n := 0) fun d hd => ?_
  obtain ⟨s, hs, rfl⟩ := List.mem_map.mp hd
  exact .st (h.stp s hs).2
 ·exact LayAt.bool.le (by decide)
theorem Ad.Wf.lay {x : Ad} (h : x.Wf) : LayAt 3 x.data := by
 refine .tup (n := 2) fun e he => ?_
 simp only [List.mem_cons, List.not_mem_nil, or_false] at he
 rcases he with rfl | rfl | rfl | rfl | rfl | rfl
 ·exact (LayAt.st fun c hc => nqp (h.sch.2.1 c hc)).le (by decide)
 ·exact (LayAt.oD fun l e => (h.hou l e).2).le (by decide)
 ·exact LayAt.iD.le (by decide)
 ·exact h.layWay
 ·exact .qD h.que
 ·exact (LayAt.oD h.mar).le (by decide)
theorem Ad.Wf.shaped {x : Ad} (h : x.Wf) : SeqAt.shaped x.data = true := h.lay.shaped (by decide)
end Wm
namespace Wm
open PySem L2
theorem nqX {H : Hp} {l : List Nat} {v : V} (h : IsT H (st l) v) : v = .str ⟨l.toArray⟩ := by cases h; rfl
theorem qq1 {H : Hp} {o : Option (List Nat)} {v : V} (h : IsT H (oD o) v) : v = otV o := by
 cases o with
 | none => cases h; rfl
 | some l => exact nqX h
theorem wqK {H : Hp} {o : Option Int} {v : V} (h : IsT H (iD o) v) : v = itV o := by
 cases o with
 | none => cases h; rfl
 | some l => cases h; rfl
theorem oqm {H : Hp} {b : Bool} {v : V} (h : IsT H (.bool b) v) : v = .bl b := by cases h; rfl
theorem iqJ {H : Hp} {ds : List PyData} {v : V} (h : IsT H (.tuple ds) v) : ∃ p xs, v = .ref p ∧ H p = some (.tup xs) ∧ IsTAll H ds xs := by
 cases h with
 | tup h1 h2 => exact ⟨_, _, rfl, h1, h2⟩
theorem isT2 {H : Hp} {a b : PyData} {v : V} (h : IsT H (.tuple [a, b]) v) : ∃ p x y, v = .ref p ∧ H p = some (.tup [x, y]) ∧ IsT H a x ∧ IsT H b y := by
 obtain ⟨p, xs, rfl, hp, r⟩ := iqJ h
 cases r with
 | cons h1 r => cases r with
  | cons h2 r => cases r; exact ⟨p, _, _, rfl, hp, h1, h2⟩
theorem isT3 {H : Hp} {a b c : PyData} {v : V} (h : IsT H (.tuple [a, b, c]) v) : ∃ p x y z, v = .ref p ∧ H p = some (.tup [x, y, z]) ∧ IsT H a x ∧ IsT H b y ∧ IsT H c z := by
 obtain ⟨p, xs, rfl, hp, r⟩ := iqJ h
 cases r with
 | cons h1 r => cases r with
  | cons h2 r => cases r with
   | cons h3 r => cases r; exact ⟨p, _, _, _, rfl, hp, h1, h2, h3⟩
theorem isT6 {H : Hp} {a b c d e f : PyData} {v : V} (h : IsT H (.tuple [a, b, c, d, e, f]) v) : ∃ p x0 x1 x2 x3 x4 x5, v = .ref p ∧ H p = some (.tup [x0, x1, x2, x3, x4, x5]) ∧ IsT H a x0 ∧ IsT H b x1 ∧ IsT H c x2 ∧ IsT H d x3 ∧ IsT H e x4 ∧ IsT H f x5 := by
 obtain ⟨p, xs, rfl, hp, r⟩ := iqJ h
 cases r with
 | cons h1 r => cases r with
  | cons h2 r => cases r with
   | cons h3 r => cases r with
    | cons h4 r => cases r with
     | cons h5 r => cases r with
      | cons h6 r => cases r; exact ⟨p, _, _, _, _, _, _, rfl, hp, h1, h2, h3, h4, h5, h6⟩
theorem mqE {H : Hp} : ∀ {ss : List (List Nat)} {xs : List V}, IsTAll H (ss.map st) xs → xs = ss.map fun l => V.str ⟨l.toArray⟩
 | [], _, h => by cases h; rfl
 | s :: ss, _, h => by
  cases h with
  | cons h1 h2 => rw [nqX h1, mqE h2]; rfl
end Wm
namespace Wm
structure Ad.Sz (x : Ad) : Prop where
 stp : ∀ s ∈ x.steps, s.length ≤ 2000
 que : ∀ ps, x.quest = some ps → ps.length ≤ 2000 ∧ ∀ p ∈ ps, p.1.length ≤ 2000 ∧ ∀ v, p.2 = some v → v.length ≤ 2000
 mar : ∀ l, x.mark = some l → l.length ≤ 2000
 num : x.steps.length ≤ 2000
 all : x.shw.length ≤ 90000
end Wm
namespace Wm
theorem lg {i : Int} (h : 0 ≤ i) (h' : i ≤ 65535) : i.natAbs.log2 < 1920 := by
 by_cases h0 : i.natAbs = 0
 ·rw [h0]; simp
 ·refine (Nat.log2_lt h0).mpr (Nat.lt_of_lt_of_le (show i.natAbs < 2 ^ 16 by omega) (Nat.pow_le_pow_right (by decide) (by decide)))
theorem oqE (i : Int) : PySem.Str.ofString (toString i) = ⟨(dg i).toArray⟩ := rfl
end Wm
namespace Wm
end Wm
namespace Wm
open PySem L2
theorem uqv {α : Type} {l : List α} {i : Nat} {s : α} (g : α → V) (h : l[i]? = some s) : atI (l.map g) (i : Int) = some (g s) := by
 have hi := (List.getElem?_eq_some_iff.mp h).1
 obtain ⟨c, _, hc⟩ := tqX (l.map g) (r := (i : Int)) (by omega) (by rw [List.length_map]; omega)
 have : atI (l.map g) (i : Int) = (l.map g)[i]? := by
  unfold atI ixN
  rw [List.length_map]
  simp [hi]
 rw [this, List.getElem?_map, h]; rfl
end Wm
namespace Wm
open PySem L2
theorem mqq {H : Hp} {α : Type} {f : α → PyData} : ∀ {l : List α} {xs : List V}, IsTAll H (l.map f) xs → xs.length = l.length ∧ ∀ (i : Nat) (v : V), xs[i]? = some v → ∃ a, l[i]? = some a ∧ IsT H (f a) v
 | [], _, h => by cases h; exact ⟨rfl, fun i v e => by simp at e⟩
 | a :: l, _, h => by
  cases h with
  | cons h1 h2 =>
   obtain ⟨e, r⟩ := mqq h2
   refine ⟨by simp [e], fun i v hv => ?_⟩
   cases i with
   | zero => exact ⟨a, rfl, by simp at hv; exact hv ▸ h1⟩
   | succ i => exact r i v (by simpa using hv)
theorem jqo (sep : Nat) (ys : List (List Nat)) : Txt.join (⟨[sep].toArray⟩ : Str) (ys.map fun l => (⟨l.toArray⟩ : Str)) = ⟨(joinT sep ys).toArray⟩ := by
 show Builtin.Str.glued _ _ = _
 rw [StrLaws.glued_eq_join]
 induction ys with
 | nil => rfl
 | cons y r ih =>
  cases r with
  | nil =>
   show (⟨y.toArray⟩ : Str) = _
   simp [joinT, tlT]
  | cons z r =>
   show (⟨y.toArray⟩ : Str) ++ (⟨[sep].toArray⟩ : Str) ++ Str.join ⟨[sep].toArray⟩ ((z :: r).map fun l => (⟨l.toArray⟩ : Str)) = _
   rw [ih, kq3, kq3]
   simp [joinT, tlT]
theorem sqY {sep : Nat} : ∀ (ys : List (List Nat)), (tlT sep ys).length = (ys.map (·.length)).sum + ys.length
 | [] => rfl
 | y :: r => by simp only [tlT, List.length_cons, List.length_append, List.map_cons, List.sum_cons, sqY r]; omega
theorem jqt {sep : Nat} (ys : List (List Nat)) : (ys.map (·.length)).sum + ys.length ≤ (joinT sep ys).length + 1 := by
 cases ys with
 | nil => simp [joinT]
 | cons y r => simp only [joinT, List.length_append, List.map_cons, List.sum_cons, List.length_cons, sqY]; omega
end Wm
namespace Wm
open PySem L2
theorem oqK {sep m : Nat} : ∀ {ys : List (List Nat)}, (∀ s ∈ ys, s.length ≤ m) → (tlT sep ys).length ≤ ys.length * (m + 1)
 | [], _ => by simp [tlT]
 | y :: r, h => by
  have h1 := h y (List.mem_cons_self ..)
  have h2 := oqK (sep := sep) (ys := r) fun s hs => h s (List.mem_cons_of_mem _ hs)
  simp only [tlT, List.length_cons, List.length_append, Nat.add_mul, Nat.one_mul]
  omega
theorem gq2 {sep m : Nat} {ys : List (List Nat)} (h : ∀ s ∈ ys, s.length ≤ m) : (joinT sep ys).length ≤ ys.length * (m + 1) := by
 cases ys with
 | nil => simp [joinT]
 | cons y r =>
  have h1 := h y (List.mem_cons_self ..)
  have h2 := oqK (sep := sep) (ys := r) fun s hs => h s (List.mem_cons_of_mem _ hs)
  simp only [joinT, List.length_cons, List.length_append, Nat.add_mul, Nat.one_mul]
  omega
theorem vqJ {sep n : Nat} {o : Option (List Nat)} (h : ∀ l, o = some l → l.length ≤ n) : (oT sep o).length ≤ 3 * n + 1 := by
 cases o with
 | none => simp [oT]
 | some l => have := h l rfl; have := iqj l; simp only [oT, List.length_cons]; omega
end Wm
namespace Wm
open PySem L2
theorem pqL (ts : List (List Nat)) : (ts.map fun l => (⟨l.toArray⟩ : Str)).map (·.length) = ts.map List.length := by
 rw [List.map_map]
 apply List.map_congr_left
 intro l _
 exact cqV l
theorem xqA {a : V} {r : List V} : atI (a :: r) 0 = some a := by
 unfold atI ixN
 simp
def slT (r : Bool) (ts : List (List Nat)) (e : Bool) : List Nat := (if r then [47] else []) ++ (joinT 47 ts ++ (if e && !ts.isEmpty then [47] else []))
theorem vqe (r : Bool) (ss : List (List Nat)) (e : Bool) : wayT r ss e = slT r (ss.map wr) e := by
 unfold wayT slT
 simp
end Wm
namespace L2
open PySem
end L2
namespace Wm
open PySem L2
abbrev Stp := List Nat
def sUp : Stp := [46, 46]
def sStay : Stp := [46]
def isDot (s : Stp) : Bool := decide (s = sUp) || decide (s = sStay)
def fwd (r : Bool) (q : Nat × List Stp) (s : Stp) : Nat × List Stp :=
 if s = sUp then (match q.2 with | [] => (if r then q.1 else q.1 + 1, []) | _ :: t => (q.1, t))
 else if s = sStay then q else (q.1, s :: q.2)
def goneS (r : Bool) (ss : List Stp) : List Stp := List.replicate (ss.foldl (fwd r) (0, [])).1 sUp ++ (ss.foldl (fwd r) (0, [])).2.reverse
def lastDot (ss : List Stp) : Bool := match ss.getLast? with | some s => isDot s | none => false
def goneW (r : Bool) (ss : List Stp) (e : Bool) : Bool × List Stp × Bool :=
 if ss = [] then (r, [], e) else if goneS r ss = [] then (r, if r then [] else [sStay], true) else (r, goneS r ss, e || lastDot ss)
end Wm
namespace Wm
open PySem L2
def stk (q : Nat × List Stp) : List Stp := List.replicate q.1 sUp ++ q.2.reverse
end Wm
namespace L2
open PySem PySem.Spec PyProof.Rows HT
section
variable {prog : Program} {w : World} {A : Around} {E : Value → Shared → Prop} {s : Shared}
end
section
variable {X : Cx} {K : PySem.W.Frag}
def rSlTA : V → Option Int → Option Int → Hp → VK → Prop := fun x lo hi H Q => ∃ a xs, x = .ref a ∧ H a = some (.tup xs) ∧ ∀ p H', Same H H' → H' p = some (.tup (cutV xs lo hi)) → Q (.ref p) H'
theorem rq6 {a : Addr} {lo hi : Option Int} {H : Hp} {Q : VK} : rSlTA (.ref a) lo hi H Q ↔ ∃ xs, H a = some (.tup xs) ∧ ∀ p H', Same H H' → H' p = some (.tup (cutV xs lo hi)) → Q (.ref p) H' := by
 constructor
 ·rintro ⟨p, bs, h1, h2⟩; cases h1; exact ⟨bs, h2⟩
 ·rintro ⟨bs, h⟩; exact ⟨a, bs, rfl, h⟩
end
end L2
namespace L2
open PySem PySem.Spec PyProof.Rows HT
mutual
inductive IsK (K : PySem.W.Frag) (H : Hp) : PyData → V → Prop
 | non : IsK K H .none .non
 | bl (b : Bool) : IsK K H (.bool b) (.bl b)
 | int (i : Int) : IsK K H (.int i) (.int i)
 | str (x : Str) : IsK K H (.str x) (.str x)
 | tup {p : Addr} {xs : List V} {ds : List PyData} : SqT K H p xs → IsKAll K H ds xs → IsK K H (.tuple ds) (.ref p)
inductive IsKAll (K : PySem.W.Frag) (H : Hp) : List PyData → List V → Prop
 | nil : IsKAll K H [] []
 | cons {d : PyData} {x : V} {ds : List PyData} {xs : List V} : IsK K H d x → IsKAll K H ds xs → IsKAll K H (d :: ds) (x :: xs)
end
section
variable {K : PySem.W.Frag} {H H' : Hp}
mutual
theorem IsK.mono (sm : Same H H') : ∀ {d : PyData} {x : V}, IsK K H d x → IsK K H' d x
 | _, _, .non => .non
 | _, _, .bl b => .bl b
 | _, _, .int i => .int i
 | _, _, .str x => .str x
 | _, _, .tup h r => .tup (sm.tup h) (IsKAll.mono sm r)
theorem IsKAll.mono (sm : Same H H') : ∀ {ds : List PyData} {xs : List V}, IsKAll K H ds xs → IsKAll K H' ds xs
 | _, _, .nil => .nil
 | _, _, .cons h r => .cons (IsK.mono sm h) (IsKAll.mono sm r)
end
mutual
theorem IsT.k : ∀ {d : PyData} {x : V}, IsT H d x → IsK K H d x
 | _, _, .non => .non
 | _, _, .bl b => .bl b
 | _, _, .int i => .int i
 | _, _, .str x => .str x
 | _, _, .tup h r => .tup (SqT.of h) (IsTAll.k r)
theorem IsTAll.k : ∀ {ds : List PyData} {xs : List V}, IsTAll H ds xs → IsKAll K H ds xs
 | _, _, .nil => .nil
 | _, _, .cons h r => .cons (IsT.k h) (IsTAll.k r)
end
end
section
variable {X : Cx} {pins : List (Addr × Obj)} {σ : St} {H : Hp} {s : Shared}
mutual
theorem IsK.reads (I : Inv X pins σ H s) : ∀ {d : PyData} {x : V} {v : Value}, IsK X.K H d x → RelV x v → ∃ as, Reads s.heap v d as
 | _, _, _, .non, r => by cases r; exact ⟨_, .none⟩
 | _, _, _, .bl b, r => by cases r; exact ⟨_, .bool b⟩
 | _, _, _, .int i, r => by obtain ⟨t, rfl⟩ := r; exact ⟨_, .int i t⟩
 | _, _, _, .str x, r => by obtain ⟨t, rfl⟩ := r; exact ⟨_, .str x t⟩
 | _, _, _, .tup h q, r => by
  cases r
  obtain ⟨its, vs, ⟨o, e, c, n, dt⟩, _⟩ := I.tuple h
  obtain ⟨as, ra⟩ := IsKAll.reads I q vs
  exact ⟨_, .tuple e c dt (by simpa using ra)⟩
theorem IsKAll.reads (I : Inv X pins σ H s) : ∀ {ds : List PyData} {xs : List V} {vs : List Value}, IsKAll X.K H ds xs → Vals xs vs → ∃ as, ReadsAll s.heap vs ds as
 | _, _, _, .nil, r => by cases r; exact ⟨_, .nil⟩
 | _, _, _, .cons q t, r => by
  cases r with
  | cons r1 r2 =>
   obtain ⟨as, h1⟩ := IsK.reads I q r1
   obtain ⟨bs, h2⟩ := IsKAll.reads I t r2
   exact ⟨_, .cons h1 h2⟩
end
variable {K : PySem.W.Frag}
def rEqX (K : PySem.W.Frag) : R2 := fun x y H Q => ∃ d e, IsK K H d x ∧ IsK K H e y ∧ SeqAt.shaped d = true ∧ SeqAt.shaped e = true ∧ Q (.bl (PyData.eqv d e)) H
def rNeX (K : PySem.W.Frag) : R2 := fun x y H Q => ∃ d e, IsK K H d x ∧ IsK K H e y ∧ SeqAt.shaped d = true ∧ SeqAt.shaped e = true ∧ Q (.bl (!PyData.eqv d e)) H
theorem vqE (hk : X.K = K) (hu : X.A.units + 64 < cLine) : OpR X (compareOp .Eq) (rEqX K) := by
 subst hk
 intro pins s σ H x y v u Q I rx ry h
 obtain ⟨d, e, hx, hy, sx, sy, q⟩ := h
 obtain ⟨as, ra⟩ := hx.reads I rx
 obtain ⟨bs, rb⟩ := hy.reads I ry
 exact eq_dataH ra rb sx sy hu ⟨.bl _, H, I, rfl, q⟩
theorem vq0 (hk : X.K = K) (hu : X.A.units + 64 < cLine) : OpR X (compareOp .NotEq) (rNeX K) := by
 subst hk
 intro pins s σ H x y v u Q I rx ry h
 obtain ⟨d, e, hx, hy, sx, sy, q⟩ := h
 obtain ⟨as, ra⟩ := hx.reads I rx
 obtain ⟨bs, rb⟩ := hy.reads I ry
 exact ne_dataH ra rb sx sy hu ⟨.bl _, H, I, rfl, q⟩
def rSlX (K : PySem.W.Frag) : V → Option Int → Option Int → Hp → VK → Prop := fun x lo hi H Q => ∃ a xs, x = .ref a ∧ SqT K H a xs ∧ ∀ p H', Same H H' → SqT K H' p (cutV xs lo hi) → Q (.ref p) H'
theorem tqx {a : Addr} {lo hi : Option Int} {H : Hp} {Q : VK} : rSlX K (.ref a) lo hi H Q ↔ ∃ xs, SqT K H a xs ∧ ∀ p H', Same H H' → SqT K H' p (cutV xs lo hi) → Q (.ref p) H' := by
 constructor
 ·rintro ⟨p, bs, h1, h2⟩; cases h1; exact ⟨bs, h2⟩
 ·rintro ⟨bs, h⟩; exact ⟨a, bs, rfl, h⟩
def rCatX (K : PySem.W.Frag) : R2 := fun x y H Q => ∃ a b xs ys, x = .ref a ∧ y = .ref b ∧ SqT K H a xs ∧ SqT K H b ys ∧ xs.length + ys.length ≤ sizeLine ∧ ∀ p H', Same H H' → SqT K H' p (xs ++ ys) → Q (.ref p) H'
theorem rq0 {a b : Addr} {H : Hp} {Q : VK} : rCatX K (.ref a) (.ref b) H Q ↔ ∃ xs ys, SqT K H a xs ∧ SqT K H b ys ∧ xs.length + ys.length ≤ sizeLine ∧ ∀ p H', Same H H' → SqT K H' p (xs ++ ys) → Q (.ref p) H' := by
 constructor
 ·rintro ⟨p, p', xs, ys, h1, h2, h3⟩; cases h1; cases h2; exact ⟨xs, ys, h3⟩
 ·rintro ⟨xs, ys, h⟩; exact ⟨a, b, xs, ys, rfl, rfl, h⟩
def KindK (K : PySem.W.Frag) (H : Hp) (x : V) (k : String) : Prop := kindV x H = some k ∨ ∃ a xs, x = .ref a ∧ SqT K H a xs ∧ k = "tuple"
def rIsiX (K : PySem.W.Frag) : List V → Hp → VK → Prop := fun vs H Q => match vs with
 | [x, .ty T] => ∃ k, KindK K H x k ∧ T ∈ ["bool", "int", "str", "list", "tuple"] ∧ Q (.bl (subT k T)) H
 | _ => False
theorem sqb {x : V} {T : String} {H : Hp} {Q : VK} : rIsiX K [x, .ty T] H Q ↔ ∃ k, KindK K H x k ∧ T ∈ ["bool", "int", "str", "list", "tuple"] ∧ Q (.bl (subT k T)) H := Iff.rfl
end
end L2
namespace Wm
open PySem L2
section
variable {K : PySem.W.Frag} {H : Hp}
theorem oqi {l : List Nat} {v : V} (h : IsK K H (st l) v) : v = .str ⟨l.toArray⟩ := by cases h; rfl
theorem pqE {o : Option (List Nat)} {v : V} (h : IsK K H (oD o) v) : v = otV o := by
 cases o with
 | none => cases h; rfl
 | some l => exact oqi h
theorem wqx {o : Option Int} {v : V} (h : IsK K H (iD o) v) : v = itV o := by
 cases o with
 | none => cases h; rfl
 | some l => cases h; rfl
theorem oqT {b : Bool} {v : V} (h : IsK K H (.bool b) v) : v = .bl b := by cases h; rfl
theorem jqY {ds : List PyData} {v : V} (h : IsK K H (.tuple ds) v) : ∃ p xs, v = .ref p ∧ SqT K H p xs ∧ IsKAll K H ds xs := by
 cases h with
 | tup h1 h2 => exact ⟨_, _, rfl, h1, h2⟩
theorem isK2 {a b : PyData} {v : V} (h : IsK K H (.tuple [a, b]) v) : ∃ p x y, v = .ref p ∧ SqT K H p [x, y] ∧ IsK K H a x ∧ IsK K H b y := by
 obtain ⟨p, xs, rfl, hp, r⟩ := jqY h
 cases r with
 | cons h1 r => cases r with
  | cons h2 r => cases r; exact ⟨p, _, _, rfl, hp, h1, h2⟩
theorem isK3 {a b c : PyData} {v : V} (h : IsK K H (.tuple [a, b, c]) v) : ∃ p x y z, v = .ref p ∧ SqT K H p [x, y, z] ∧ IsK K H a x ∧ IsK K H b y ∧ IsK K H c z := by
 obtain ⟨p, xs, rfl, hp, r⟩ := jqY h
 cases r with
 | cons h1 r => cases r with
  | cons h2 r => cases r with
   | cons h3 r => cases r; exact ⟨p, _, _, _, rfl, hp, h1, h2, h3⟩
theorem isK6 {a b c d e f : PyData} {v : V} (h : IsK K H (.tuple [a, b, c, d, e, f]) v) : ∃ p x0 x1 x2 x3 x4 x5, v = .ref p ∧ SqT K H p [x0, x1, x2, x3, x4, x5] ∧ IsK K H a x0 ∧ IsK K H b x1 ∧ IsK K H c x2 ∧ IsK K H d x3 ∧ IsK K H e x4 ∧ IsK K H f x5 := by
 obtain ⟨p, xs, rfl, hp, r⟩ := jqY h
 cases r with
 | cons h1 r => cases r with
  | cons h2 r => cases r with
   | cons h3 r => cases r with
    | cons h4 r => cases r with
     | cons h5 r => cases r with
      | cons h6 r => cases r; exact ⟨p, _, _, _, _, _, _, rfl, hp, h1, h2, h3, h4, h5, h6⟩
theorem mqN : ∀ {ss : List (List Nat)} {xs : List V}, IsKAll K H (ss.map st) xs → xs = ss.map fun l => V.str ⟨l.toArray⟩
 | [], _, h => by cases h; rfl
 | s :: ss, _, h => by
  cases h with
  | cons h1 h2 => rw [oqi h1, mqN h2]; rfl
theorem uqn {r e : Bool} {ss : List (List Nat)} {v : V} (h : IsK K H (.tuple [.bool r, .tuple (ss.map st), .bool e]) v) : ∃ p q, v = .ref p ∧ SqT K H p [.bl r, .ref q, .bl e] ∧ SqT K H q (ss.map fun l => V.str ⟨l.toArray⟩) := by
 obtain ⟨p, x, y, z, rfl, hp, h1, h2, h3⟩ := isK3 h
 cases oqT h1
 cases oqT h3
 obtain ⟨q, xs, rfl, hq, r⟩ := jqY h2
 cases mqN r
 exact ⟨p, q, rfl, hp, hq⟩
theorem vqU {x : Ad} {v : V} (h : IsK K H x.data v) : ∃ p w q, v = .ref p ∧ SqT K H p [.str ⟨x.scheme.toArray⟩, otV x.house, itV x.door, w, q, otV x.mark] ∧ IsK K H x.way w ∧ IsK K H (qD x.quest) q := by
 obtain ⟨p, x0, x1, x2, x3, x4, x5, rfl, hp, i0, i1, i2, i3, i4, i5⟩ := isK6 (show IsK K H (.tuple [st x.scheme, oD x.house, iD x.door, x.way, qD x.quest, oD x.mark]) v from h)
 cases oqi i0
 cases pqE i1
 cases wqx i2
 cases pqE i5
 exact ⟨p, x3, x4, rfl, hp, i3, i4⟩
end
end Wm
namespace L2
open PySem PySem.Spec PyProof.Rows
def pickV {α : Type} (xs : List α) (lo hi st : Option Int) : List α :=
 (sliceRange (sliceBounds lo hi st xs.length).1 (sliceBounds lo hi st xs.length).2.1 (sliceBounds lo hi st xs.length).2.2).filterMap fun i => xs[i]?
section
variable {X : Cx}
def tSl3 (K : PySem.W.Frag) (te : TE) (tl th ts : TO) : TE := fun σ H Q => te σ H fun x H1 => tl σ H1 fun l H2 => th σ H2 fun u H3 => ts σ H3 fun k H4 =>
 ∃ a xs, x = .ref a ∧ SqL K H4 a xs ∧ k ≠ some 0 ∧ (pickV xs l u k).length ≤ sizeLine ∧ ∀ p, H4 p = none → Q (.ref p) (upd H4 p (.lst (pickV xs l u k)))
end
theorem vqt {K : PySem.W.Frag} {te : TE} {tl th ts : TO} {σ : St} {H : Hp} {Q : VK} : tSl3 K te tl th ts σ H Q ↔ te σ H fun x H1 => tl σ H1 fun l H2 => th σ H2 fun u H3 => ts σ H3 fun k H4 =>
 ∃ a xs, x = .ref a ∧ SqL K H4 a xs ∧ k ≠ some 0 ∧ (pickV xs l u k).length ≤ sizeLine ∧ ∀ p, H4 p = none → Q (.ref p) (upd H4 p (.lst (pickV xs l u k))) := Iff.rfl
end L2
namespace Wm
open PySem L2
abbrev Way := Bool × List Stp × Bool
def Ad.w (x : Ad) : Way := (x.rooted, x.steps, x.ends)
def Ad.withWay (x : Ad) (w : Way) : Ad := { x with rooted := w.1, steps := w.2.1, ends := w.2.2 }
def goneV (w : Way) : Way := goneW w.1 w.2.1 w.2.2
def Ad.gone (x : Ad) : Ad := x.withWay (goneV x.w)
end Wm
namespace Wm
open PySem L2
def wayOf (w : Way) : PyData := .tuple [.bool w.1, .tuple (w.2.1.map st), .bool w.2.2]
theorem vq7 {l : Addr} {H : Hp} {Q : VK} : rReverse (.ref l) [] H Q ↔ ∃ xs, H l = some (.lst xs) ∧ Q .non (upd H l (.lst xs.reverse)) :=
 ⟨fun ⟨_, xs, e, _, h, q⟩ => by cases e; exact ⟨xs, h, q⟩, fun ⟨xs, h, q⟩ => ⟨l, xs, rfl, rfl, h, q⟩⟩
end Wm
namespace Wm
open PySem L2
abbrev sV (l : List Nat) : V := .str ⟨l.toArray⟩
end Wm
namespace Wm
open PySem L2
theorem lqr {H : Hp} : ∀ (ss : List (List Nat)), IsAll H (ss.map st) (ss.map sV)
 | [] => .nil
 | s :: ss => .cons (.str _) (lqr ss)
theorem mqU {H : Hp} : ∀ (ss : List (List Nat)), IsTAll H (ss.map st) (ss.map sV)
 | [] => .nil
 | s :: ss => .cons (.str _) (mqU ss)
end Wm
namespace Wm
open PySem L2
end Wm
namespace Wm
open PySem L2
end Wm
namespace L2
open PySem
end L2
namespace L2
open PySem
theorem vqp {l : Addr} {H : Hp} {Q : VK} : rPop (.ref l) [] H Q ↔ ∃ xs y, H l = some (.lst xs) ∧ xs[xs.length - 1]? = some y ∧ Q y (upd H l (.lst xs.dropLast)) :=
 ⟨fun ⟨_, xs, y, h1, _, h3, h4, h5⟩ => by cases h1; exact ⟨xs, y, h3, h4, h5⟩, fun ⟨xs, y, h3, h4, h5⟩ => ⟨_, xs, y, rfl, rfl, h3, h4, h5⟩⟩
end L2
namespace L2
open PySem
theorem sqv {D : Ends} {σ : St} {H : Hp} : tNever D σ H ↔ False := Iff.rfl
end L2
namespace Wm
open PySem L2
structure Ad.Tiny (x : Ad) : Prop where
 stp : ∀ s ∈ x.steps, s.length ≤ 9
 que : ∀ ps, x.quest = some ps → ps.length ≤ 3 ∧ ∀ p ∈ ps, p.1.length ≤ 5 ∧ ∀ v, p.2 = some v → v.length ≤ 6
 mar : ∀ l, x.mark = some l → l.length ≤ 7
 hou : ∀ l, x.house = some l → l.length ≤ 13
end Wm
namespace Wm
open PySem L2
end Wm
namespace Wm
end Wm
namespace Wm
open PySem L2
def cutA {α : Type} (xs : List α) (lo hi : Option Int) : List α := (xs.drop (HT.sIx xs.length 0 lo)).take (HT.sIx xs.length xs.length hi - HT.sIx xs.length 0 lo)
theorem oqw {α : Type} (f : α → V) (xs : List α) (lo hi : Option Int) : cutV (xs.map f) lo hi = (cutA xs lo hi).map f := by
 unfold cutV cutA; rw [List.length_map, List.map_take, List.map_drop]
theorem rqr {α : Type} (xs : List α) (lo hi : Option Int) : (cutA xs lo hi).length ≤ xs.length := by
 unfold cutA; rw [List.length_take, List.length_drop]; omega
end Wm
namespace Wm
open PySem L2
end Wm
namespace L2
open PySem
end L2
namespace Wm
open PySem L2
section
variable {H : Hp}
theorem tqZ {r e : Bool} {ss : List (List Nat)} {v : V} (h : IsT H (.tuple [.bool r, .tuple (ss.map st), .bool e]) v) : ∃ p q, v = .ref p ∧ H p = some (.tup [.bl r, .ref q, .bl e]) ∧ H q = some (.tup (ss.map fun l => V.str ⟨l.toArray⟩)) := by
 obtain ⟨p, x, y, z, rfl, hp, h1, h2, h3⟩ := isT3 h
 cases oqm h1
 cases oqm h3
 obtain ⟨q, xs, rfl, hq, r⟩ := iqJ h2
 cases mqE r
 exact ⟨p, q, rfl, hp, hq⟩
theorem wayT' {r e : Bool} {ss : List (List Nat)} {p q : Addr} (hp : H p = some (.tup [.bl r, .ref q, .bl e])) (hq : H q = some (.tup (ss.map fun l => V.str ⟨l.toArray⟩))) : IsT H (.tuple [.bool r, .tuple (ss.map st), .bool e]) (.ref p) :=
 .tup hp (.cons (.bl _) (.cons (.tup hq (mqU _)) (.cons (.bl _) .nil)))
theorem vqv {x : Ad} {v : V} (h : IsT H x.data v) : ∃ p w q, v = .ref p ∧ H p = some (.tup [.str ⟨x.scheme.toArray⟩, otV x.house, itV x.door, w, q, otV x.mark]) ∧ IsT H x.way w ∧ IsT H (qD x.quest) q := by
 obtain ⟨p, x0, x1, x2, x3, x4, x5, rfl, hp, i0, i1, i2, i3, i4, i5⟩ := isT6 (show IsT H (.tuple [st x.scheme, oD x.house, iD x.door, x.way, qD x.quest, oD x.mark]) v from h)
 cases nqX i0
 cases qq1 i1
 cases wqK i2
 cases qq1 i5
 exact ⟨p, x3, x4, rfl, hp, i3, i4⟩
theorem adT {x : Ad} {p : Addr} {w q : V} (hp : H p = some (.tup [.str ⟨x.scheme.toArray⟩, otV x.house, itV x.door, w, q, otV x.mark])) (hw : IsT H x.way w) (hq : IsT H (qD x.quest) q) : IsT H x.data (.ref p) :=
 .tup hp (.cons (.str _) (.cons (pqh _) (.cons (wqs _) (.cons hw (.cons hq (.cons (pqh _) .nil))))))
end
theorem Ad.Wf.local {x : Ad} (h : x.Wf) : ({ x with scheme := [], house := none, door := none } : Ad).Wf :=
 ⟨⟨Nat.zero_le _, (fun c hc => by cases hc), (fun c hc => by cases hc)⟩, (fun l e => by cases e), (fun l e => by cases e), h.stp, (fun z => z.elim (fun y => absurd rfl y) (fun y => absurd rfl y)), h.end_, h.que, h.mar⟩
def Goods (n : Nat) (H : Hp) (vs : List V) : Prop := ∀ v ∈ vs, ∃ x : Ad, x.Wf ∧ x.steps.length ≤ n ∧ IsT H x.data v
theorem Goods.cons {n : Nat} {H : Hp} {v : V} {vs : List V} {x : Ad} (h1 : x.Wf) (h2 : x.steps.length ≤ n) (h3 : IsT H x.data v) (h : Goods n H vs) : Goods n H (v :: vs) := fun u hu => by
 rcases List.mem_cons.mp hu with rfl | hu
 ·exact ⟨x, h1, h2, h3⟩
 ·exact h u hu
end Wm
namespace Wm
open PySem L2
end Wm
namespace Wm
open PySem L2
end Wm
namespace L2
open PySem PySem.Spec PyProof.Rows
theorem xqt {b c : Bool} {H : Hp} {Q : VK} : rIsB true (.bl b) (.bl c) H Q ↔ Q (.bl (!decide (b = c))) H := Iff.rfl
end L2
namespace Wm
open PySem L2
end Wm
namespace Wm
open PySem L2
end Wm
namespace Wm
open PySem L2
end Wm
namespace Wm
open PySem L2
end Wm
namespace Wm
open PySem L2
structure GoodAd (n : Nat) (x : Ad) : Prop where
 wf : x.Wf
 ti : x.Tiny
 sc : x.scheme ≠ []
 ln : x.steps.length ≤ n
end Wm
namespace L2
open PySem PySem.Spec PyProof.Rows
section
variable {prog : Program} {w : World} {A : Around} {E : Value → Shared → Prop} {s : Shared}
end
def Itv (K : PySem.W.Frag) (a : Addr) (n : Nat) : It :=
 ⟨fun i H => ∃ xs x, SqT K H a xs ∧ xs.length = n ∧ i < n ∧ xs[n - 1 - i]? = some x, fun i H x H' => H' = H ∧ ∀ xs, SqT K H a xs → xs.length = n → xs[n - 1 - i]? = some x, fun i _ => n ≤ i⟩
section
variable {X : Cx} {tg : Expr} {K : PySem.W.Frag}
def iRev (K : PySem.W.Frag) (ta : TA) : TI := fun σ H R => ta σ H fun vs H1 => ∃ a xs, vs = [.ref a] ∧ SqT K H1 a xs ∧ R (Itv K a xs.length) H1
variable {σ : St} {H : Hp} {D : Ends} {g : TG} {tb : TS} {aa : TA}
theorem uqP : tFor (iRev K aa) g tb D σ H ↔ aa σ H fun vs H1 => ∃ a xs, vs = [.ref a] ∧ SqT K H1 a xs ∧ LoopI (Itv K a xs.length) g tb D σ H1 := Iff.rfl
end
end L2
namespace L2
open PySem PySem.Spec PyProof.Rows
section
variable {X : Cx}
def rRepT : R2 := fun x y H Q => ∃ a k xs, x = .ref a ∧ y = .int k ∧ H a = some (.tup xs) ∧ 2 ≤ k ∧ k < 1000 ∧ xs.length * k.toNat ≤ sizeLine ∧ ∀ p H', Same H H' → H' p = some (.tup (List.replicate k.toNat xs).flatten) → Q (.ref p) H'
theorem rqH {a : Addr} {k : Int} {H : Hp} {Q : VK} : rRepT (.ref a) (.int k) H Q ↔ ∃ xs, H a = some (.tup xs) ∧ 2 ≤ k ∧ k < 1000 ∧ xs.length * k.toNat ≤ sizeLine ∧ ∀ p H', Same H H' → H' p = some (.tup (List.replicate k.toNat xs).flatten) → Q (.ref p) H' := by
 constructor
 ·rintro ⟨a', k', xs, h1, h2, h⟩; cases h1; cases h2; exact ⟨xs, h⟩
 ·rintro ⟨xs, h⟩; exact ⟨a, k, xs, rfl, rfl, h⟩
def rRepS : R2 := fun x y H Q => ∃ l k xs, x = .ref l ∧ y = .int k ∧ H l = some (.lst xs) ∧ 0 ≤ k ∧ k < 1000000 ∧ xs.length * k.toNat ≤ sizeLine ∧ ∀ p H', H p = none → Same H H' → H' p = some (.lst (List.replicate k.toNat xs).flatten) → Q (.ref p) H'
theorem rqx {a : Addr} {k : Int} {H : Hp} {Q : VK} : rRepS (.ref a) (.int k) H Q ↔ ∃ xs, H a = some (.lst xs) ∧ 0 ≤ k ∧ k < 1000000 ∧ xs.length * k.toNat ≤ sizeLine ∧ ∀ p H', H p = none → Same H H' → H' p = some (.lst (List.replicate k.toNat xs).flatten) → Q (.ref p) H' := by
 constructor
 ·rintro ⟨a', k', xs, h1, h2, h⟩; cases h1; cases h2; exact ⟨xs, h⟩
 ·rintro ⟨xs, h⟩; exact ⟨a, k, xs, rfl, rfl, h⟩
end
end L2
namespace L2
open PySem PySem.Spec PyProof.Rows
section
variable {X : Cx}
def rRepN : R2 := fun x y H Q => ∃ a k xs, x = .ref a ∧ y = .int k ∧ H a = some (.tup xs) ∧ 0 ≤ k ∧ k < 1000 ∧ xs.length * k.toNat ≤ sizeLine ∧ ∀ p H', Same H H' → H' p = some (.tup (List.replicate k.toNat xs).flatten) → Q (.ref p) H'
theorem sqx {a : Addr} {k : Int} {H : Hp} {Q : VK} : rRepN (.ref a) (.int k) H Q ↔ ∃ xs, H a = some (.tup xs) ∧ 0 ≤ k ∧ k < 1000 ∧ xs.length * k.toNat ≤ sizeLine ∧ ∀ p H', Same H H' → H' p = some (.tup (List.replicate k.toNat xs).flatten) → Q (.ref p) H' := by
 constructor
 ·rintro ⟨a', k', xs, h1, h2, h⟩; cases h1; cases h2; exact ⟨xs, h⟩
 ·rintro ⟨xs, h⟩; exact ⟨a, k, xs, rfl, rfl, h⟩
end
end L2
namespace L2
open PySem PySem.Spec PyProof.Rows
section
variable {X : Cx}
def intsV (lo : Int) (n : Nat) : List V := (List.range n).map fun k => .int (lo + (k : Nat))
def tLR (ta : TA) : TE := fun σ H Q => ta σ H fun vs H1 => ∃ j : Int, vs = [.int j] ∧ 0 ≤ j ∧ j ≤ 1000000 ∧ ∀ p, H1 p = none → Q (.ref p) (upd H1 p (.lst (intsV 0 j.toNat)))
end
theorem xqk {ta : TA} {σ : St} {H : Hp} {Q : VK} : tLR ta σ H Q ↔ ta σ H fun vs H1 => ∃ j : Int, vs = [.int j] ∧ 0 ≤ j ∧ j ≤ 1000000 ∧ ∀ p, H1 p = none → Q (.ref p) (upd H1 p (.lst (intsV 0 j.toNat))) := Iff.rfl
end L2
namespace L2
open PySem
section
variable {p : Addr} {fv : St} {tt : TT} {te : TE} {Q : VK} {H1 : Hp} {K : PySem.W.Frag}
end
end L2
namespace L2
open PySem PySem.Spec PyProof.Rows
section
variable {X : Cx} {pins : List (Addr × Obj)} {σ : St} {H1 : Hp} {s3 : Shared} {x x2 : Str} {fx : List Str} {fr : List Nat} {scope : Scope} {cl : List (Str × Addr)} {fp : List Addr}
theorem sqo (I : Inv X pins σ H1 s3) (hkind : scope.kind = .function) (hcl : ∀ y c, cl.lookup y = some c → X.env.cells.lookup y = some c)
  (F : Frees X (relabel scope X.env) cl fx fr) (hfx : ((relabel scope X.env).names.all fun p => if (p.2 == .cell || p.2 == .free) then fx.contains p.1 else true) = true)
  (ffp : ∀ b ∈ fp, FpOk X pins H1 b) (flt : ∀ b ∈ fp, b < s3.heap.objs.size) : (compCx X (x :: x2 :: fx) scope cl s3 H1 fp).Ok where
 mod := I.ok.mod
 kind := hkind
 glob := I.ok.glob
 blt := I.ok.blt
 above := Nat.le_refl _
 inj := fun y z c h1 h2 => I.ok.inj y z c (hcl y c h1) (hcl z c h2)
 has := fun y h => by
  have h : (relabel scope X.env).names.lookup y = some .cell ∨ (relabel scope X.env).names.lookup y = some .free := h
  have key : y ∈ fx := by
   rcases h with h | h
   ·have q := List.all_eq_true.mp hfx _ (PySem.mem_of_lookup h)
    simpa using q
   ·have q := List.all_eq_true.mp hfx _ (PySem.mem_of_lookup h)
    simpa using q
  obtain ⟨k1, k2⟩ := F.mem y key
  obtain ⟨c, e⟩ := I.ok.has y (.inl k1)
  exact ⟨c, k2.trans e⟩
 cab := fun y c h => by cases (show false = true from h)
 hd := I.ok.hd
 frames := I.ok.frames
 stk := .inl rfl
 exf := fun b hb => ⟨Nat.ne_of_lt (flt b hb), fun y c e => (ffp b hb).2.2.2.2.1 y c (hcl y c e)⟩
 bs := I.bs
 bsz := Nat.le_trans I.ok.bsz I.sz
 noex := fun b o e hb => by
  rcases (ffp b hb).2.2.2.1 with z | z
  ·exact I.ok.noex b o e z
  ·exact absurd (Nat.lt_of_lt_of_le (Heap.lt_size (I.ok.bs b o e).1) z) (Nat.lt_irrefl _)
 exfs := fun b hb z => by
  rcases List.mem_cons.mp (I.stkSub b z) with q | q
  ·exact (ffp b hb).2.1 q
  ·exact (ffp b hb).2.2.1 q
 funs := I.stack
 frf := I.stkFree
theorem nqK (I : Inv X pins σ H1 s3) (hkind : scope.kind = .function) (hcl : ∀ y c, cl.lookup y = some c → X.env.cells.lookup y = some c)
  (F : Frees X (relabel scope X.env) cl fx fr) (hfx : ((relabel scope X.env).names.all fun p => if (p.2 == .cell || p.2 == .free) then fx.contains p.1 else true) = true)
  (ffp : ∀ b ∈ fp, FpOk X pins H1 b) (flt : ∀ b ∈ fp, b < s3.heap.objs.size) {h1 : Heap} {t : Nat} {m : Str → Option Value} (hn : h1.Ns s3.heap.objs.size m)
  (keep : ∀ b u, s3.heap.get? b = some u → h1.get? b = some u) : Inv (compCx X (x :: x2 :: fx) scope cl s3 H1 fp) [] (none :: none :: frV σ fr) H1 { s3 with heap := h1, toks := t } := by
 refine ⟨sqo I hkind hcl F hfx ffp flt, rfl, I.bare, Un.kept keep, ⟨m, hn, fun i y v e1 e2 e3 => ?_⟩, fun y c e => ?_, I.hok.fresh (Nat.le_refl _), fun y c e => I.freeC y c (hcl y c e), fun p hp => absurd (show p ∈ ([] : List (Addr × Obj)) from hp) (by simp), I.hok.kept keep, ?_⟩
 ·cases i with
  | zero => simp at e2
  | succ j =>
   cases j with
   | zero => simp at e2
   | succ j =>
    obtain ⟨i0, k1, k2, k3, k4, k5⟩ := F.at (σ := σ) j y v (by simpa [compCx] using e1) (by simpa using e2)
    obtain ⟨m0, hn0, hl0⟩ := I.loc
    obtain ⟨u, r, l⟩ := hl0 i0 y v k1 k2 (.inr (.inl k3))
    refine ⟨u, r, ?_⟩
    rcases l with ⟨z, _⟩ | ⟨_, c, e, o, ho, hd⟩
    ·rw [k3] at z; cases z
    ·exact .inr ⟨.inl k4, c, k5.trans e, o, keep c o ho, hd⟩
 ·obtain ⟨v, o, ho, hd⟩ := I.cell y c (hcl y c e)
  exact ⟨v, o, keep c o ho, hd⟩
 ·show (none :: none :: frV σ fr).length = (x :: x2 :: fx).length
  simp [frV, F.len]
end
def CompI2 (K : PySem.W.Frag) (J : It) (p : Addr) (fv : St) (tt : TT) (te : TE) (Q : VK) (H1 : Hp) : Prop :=
 ∃ W : Nat → Nat → List V → Hp → Prop, (∃ m, W 0 m [] (upd H1 p (.lst []))) ∧ ∀ i m ys H2, W i m ys H2 → H2 p = some (.lst ys) ∧
  ((J.stop i H2 ∧ Q (.ref p) H2) ∨ (J.go i H2 ∧ ys.length < sizeLine ∧ ∀ z H3, J.yld i H2 z H3 → ∃ a x y, z = .ref a ∧ SqT K H3 a [x, y] ∧ tt (some x :: some y :: fv) H3 fun b H4 =>
   if b = true then te (some x :: some y :: fv) H4 fun y H5 => H5 p = some (.lst ys) ∧ ∃ m', m' < m ∧ W (i + 1) m' (ys ++ [y]) (upd H5 p (.lst (ys ++ [y])))
   else ∃ m', m' < m ∧ W (i + 1) m' ys H4))
def tComp2 (K : PySem.W.Frag) (wi : TI) (fr : List Nat) (tt : TT) (te : TE) : TE := fun σ H Q => wi σ H fun J H1 => ∀ p, H1 p = none → CompI2 K J p (frV σ fr) tt te Q H1
section
variable {X : Cx} {elt iter : Expr} {x x2 : Str} {px px2 ptx pos : Pos} {kx : Nat} {ifs : List Expr} {scope : Scope} {cl : List (Str × Addr)} {fx : List Str} {fr : List Nat} {wi : TI} {tt : TT} {te : TE}
theorem nqO {pins : List (Addr × Obj)} {σ : St} {H3 : Hp} {s3 : Shared} {it p : Addr} {fp : List Addr} {tn : Nat → Heap → Prop} {J : It} {Q : VK} {W : Nat → Nat → List V → Hp → Prop} {m0 t : Nat} {h₁ : Heap} {m : Str → Option Value} {RR : Result → Shared → Prop}
  (hc : X.calm = true) (hkind : scope.kind = .function) (hx : scope.names.lookup x = some .local) (hx2 : scope.names.lookup x2 = some .local) (hnd : (x :: x2 :: fx).Nodup)
  (hcl : ∀ y c, cl.lookup y = some c → X.env.cells.lookup y = some c) (F : Frees X (relabel scope X.env) cl fx fr)
  (hfx : ((relabel scope X.env).names.all fun p => if (p.2 == .cell || p.2 == .free) then fx.contains p.1 else true) = true)
  (ht : ∀ s H fp, PF (compCx X (x :: x2 :: fx) scope cl s H fp) ifs tt) (he : ∀ s H fp, PE (compCx X (x :: x2 :: fx) scope cl s H fp) elt te)
  (I3 : Inv X pins σ H3 s3) (T : Turn X.prog X.w X.K (.Tuple [.Name x px, .Name x2 px2] kx ptx) J fp it tn) (st3 : tn 0 s3.heap) (ffp : ∀ b ∈ fp, FpOk X pins H3 b) (flt3 : ∀ b ∈ fp, b < s3.heap.objs.size)
  (w0 : W 0 m0 [] H3) (turn : ∀ i m ys H2, W i m ys H2 → H2 p = some (.lst ys) ∧
   ((J.stop i H2 ∧ Q (.ref p) H2) ∨ (J.go i H2 ∧ ys.length < sizeLine ∧ ∀ z H3, J.yld i H2 z H3 → ∃ a x y, z = .ref a ∧ SqT X.K H3 a [x, y] ∧ tt (some x :: some y :: frV σ fr) H3 fun b H4 =>
    if b = true then te (some x :: some y :: frV σ fr) H4 fun y H5 => H5 p = some (.lst ys) ∧ ∃ m', m' < m ∧ W (i + 1) m' (ys ++ [y]) (upd H5 p (.lst (ys ++ [y])))
    else ∃ m', m' < m ∧ W (i + 1) m' ys H4)))
  (hns : h₁.Ns s3.heap.objs.size m) (keep1 : ∀ b u, s3.heap.get? b = some u → h₁.get? b = some u)
  (fin : ∀ s6 H5 o o2, Inv (compCx X (x :: x2 :: fx) scope cl s3 H3 fp) [] (o :: o2 :: frV σ fr) H5 s6 → Q (.ref p) H5 → RR (.ok .next) s6) :
  codeAny (model X.prog X.w) X.A (.compStart (.ListComp elt [⟨.Tuple [.Name x px, .Name x2 px2] kx ptx, iter, ifs, 0⟩] scope pos) 0 (.ref it) (.ref p) (compEnvC scope cl s3.heap.objs.size X.env))
   RR { s3 with heap := h₁, toks := t } := by
 have I4 := nqK (x := x) (x2 := x2) (t := t) I3 hkind hcl F hfx ffp flt3 hns keep1
 have st4 : tn 0 h₁ := T.keep _ _ _ st3 fun b hb o e => keep1 b o e
 have fp0 : ∀ b ∈ fp, H3 b = none := fun b hb => (ffp b hb).1
 have hcal : (compCx X (x :: x2 :: fx) scope cl s3 H3 fp).calm = true := hc
 have stat : ∀ {H' : Hp}, (∀ b ∈ fp, H' b = none) → ∀ b ∈ fp, FpOk (compCx X (x :: x2 :: fx) scope cl s3 H3 fp) [] H' b := fun {H'} hn b hb => by
  obtain ⟨f0, f1, f2, f3, f4, f5⟩ := ffp b hb
  exact ⟨hn b hb, Nat.ne_of_lt (flt3 b hb), I4.ok.exfs b hb, .inl hb, fun y c e => f4 y c (hcl y c e), fun q hq => absurd (show q ∈ ([] : List (Addr × Obj)) from hq) (by simp)⟩
 have hxl : (relabel scope X.env).names.lookup x = some .local := lookup_relabel_local hx
 have hxl2 : (relabel scope X.env).names.lookup x2 = some .local := lookup_relabel_local hx2
 have pg : PG (compCx X (x :: x2 :: fx) scope cl s3 H3 fp) (.Tuple [.Name x px, .Name x2 px2] kx ptx) (gTup X.K 2 (gCons (gName 0) (gCons (gName 1) gNil))) := tqf hcal (dqf (bqN (i := 0) hnd rfl (.inl hxl) (.inr hxl)) (dqf (bqN (i := 1) hnd rfl (.inl hxl2) (.inr hxl2)) nqA))
 have loop : codeAny (model X.prog X.w) X.A (.compLoop (.ListComp elt [⟨.Tuple [.Name x px, .Name x2 px2] kx ptx, iter, ifs, 0⟩] scope pos) 0 (.ref it) (.ref p) (compEnvC scope cl s3.heap.objs.size X.env))
    RR { s3 with heap := h₁, toks := t } := by
  refine iqQ (fun n s' => ∃ i ys H' o o2, Inv (compCx X (x :: x2 :: fx) scope cl s3 H3 fp) [] (o :: o2 :: frV σ fr) H' s' ∧ tn i s'.heap ∧ (∀ b ∈ fp, H' b = none) ∧ W i n ys H') ?_ m0 ⟨0, [], _, none, none, I4, st4, fp0, w0⟩
  rintro n s5 ⟨i, ys, H5, o, o2, I5, st5, fr5, w5⟩
  obtain ⟨hp5, alt⟩ := turn i n ys H5 w5
  rcases alt with ⟨stop, qn⟩ | ⟨go, hlen, step⟩
  ·refine thn (T.done (compCx X (x :: x2 :: fx) scope cl s3 H3 fp) rfl rfl rfl hcal i [] s5 (o :: o2 :: frV σ fr) H5 _ I5 (stat fr5) st5 stop) fun r s6 ⟨hr, I6⟩ => ?_
   subst hr
   exact fin s6 H5 o o2 I6 qn
  ·refine thn (T.item (compCx X (x :: x2 :: fx) scope cl s3 H3 fp) rfl rfl rfl hcal i [] s5 (o :: o2 :: frV σ fr) H5 _ I5 (stat fr5) st5 go) fun r s6 ⟨u, hr, h6⟩ => ?_
   subst hr
   refine thn h6 fun _ s7 ⟨y7, H7, I7, r7, yl7, st7, fr7⟩ => ?_
   have I7' := I7.pinned (stat fr7) (T.obj _ _ st7)
   have back : ∀ {σ' : St} {H' : Hp} {s' : Shared}, Inv (compCx X (x :: x2 :: fx) scope cl s3 H3 fp) ([] ++ pinsAt fp s7.heap) σ' H' s' → tn (i + 1) s'.heap ∧ ∀ b ∈ fp, H' b = none := fun {σ' H' s'} I' => by
    refine ⟨T.keep _ _ _ st7 fun b hb o e => (I'.pin (b, o) (List.mem_append_right _ (List.mem_append_right _ (eqg hb e)))).1, fun b hb => ?_⟩
    obtain ⟨o, e, d⟩ := T.obj _ _ st7 b hb
    exact (I'.pin (b, o) (List.mem_append_right _ (List.mem_append_right _ (eqg hb e)))).2.1
   obtain ⟨a7, z1, z2, e7, q7, step7⟩ := step y7 _ yl7
   subst e7
   refine thn (pg _ s7 _ H7 (.ref a7) u (fun σ' H' => σ' = some z1 :: some z2 :: frV σ fr ∧ H' = H7) I7' r7 ⟨a7, [z1, z2], rfl, q7, rfl, z1, [z2], rfl, z2, [], rfl, rfl, rfl, rfl⟩) fun _ s8 ⟨σ8, H8, I8, e8, e8'⟩ => ?_
   subst e8 e8'
   refine thn (ht s3 H3 fp _ s8 _ _ _ I8 step7) fun b s9 ⟨H9, I9, q9⟩ => ?_
   cases b with
   | false =>
    rw [if_neg Bool.false_ne_true] at q9 ⊢
    obtain ⟨m', hm, w9⟩ := q9
    exact ⟨m', hm, i + 1, ys, H9, some z1, some z2, I9.unpinned, (back I9).1, (back I9).2, w9⟩
   | true =>
    rw [if_pos rfl] at q9 ⊢
    refine thn (he s3 H3 fp _ s9 _ H9 _ I9 q9) fun u10 s10 ⟨y10, H10, I10, r10, hp10, m', hm, w10⟩ => ?_
    refine thn (dqD _ s10 _ H10 (.ref p) [y10] (.ref p) [u10] (fun _ H' => H' = upd H10 p (.lst (ys ++ [y10]))) I10 rfl (.cons r10 .nil) ⟨p, ys, y10, rfl, rfl, hp10, hlen, rfl⟩) fun _ s11 ⟨_, H11, I11, _, e11⟩ => ?_
    subst e11
    exact ⟨m', hm, i + 1, ys ++ [y10], _, some z1, some z2, I11.unpinned, (back I11).1, (back I11).2, w10⟩
 exact codeAny_compStart_list loop (T.self _ 0 _ _ _ st4 loop)
theorem sqz (hc : X.calm = true) (hclos : closureFor scope X.env = pure cl) (hcell : ∀ y ∈ scope.names, y.2 ≠ .cell) (hkind : scope.kind = .function)
  (hnames : ∀ y ∈ scope.names, y.2 = .local → scope.names.lookup y.1 = some .local) (hx : scope.names.lookup x = some .local) (hx2 : scope.names.lookup x2 = some .local) (hnd : (x :: x2 :: fx).Nodup)
  (hk : (cl.all fun q => fx.contains q.1) = true) (F : Frees X (relabel scope X.env) cl fx fr)
  (hfx : ((relabel scope X.env).names.all fun p => if (p.2 == .cell || p.2 == .free) then fx.contains p.1 else true) = true)
  (hi : PI X (.Tuple [.Name x px, .Name x2 px2] kx ptx) iter wi) (ht : ∀ s H fp, PF (compCx X (x :: x2 :: fx) scope cl s H fp) ifs tt) (he : ∀ s H fp, PE (compCx X (x :: x2 :: fx) scope cl s H fp) elt te)
  (hs : ∀ x, foldedSetIterable iter X.env x = pure x := by intro _; rfl) :
  PE X (.ListComp elt [⟨.Tuple [.Name x px, .Name x2 px2] kx ptx, iter, ifs, 0⟩] scope pos) (tComp2 X.K wi fr tt te) := by
 intro pins s σ H Q I h
 have hcl : ∀ y c, cl.lookup y = some c → X.env.cells.lookup y = some c := fun y c e => by
  have q := List.all_eq_true.mp hk _ (PySem.mem_of_lookup e)
  rw [← (F.mem y (by simpa using q)).2]
  exact e
 rw [eval_ListComp]
 refine wpAny_comprehension_free (use := none) rfl hs hclos hkind hnames ?_
 refine thn (hi pins s σ H _ I h) fun v s1 h1 => thn h1 fun itv s2 h2 => ?_
 obtain ⟨it, fp, tn, J, H2, e, I2, T, st2, f2, q2⟩ := h2
 subst e
 have hp0 : H2 s2.heap.objs.size = none := I2.hok.fresh (Nat.le_refl _)
 obtain ⟨W, ⟨m0, w0⟩, turn⟩ := q2 _ hp0
 have flt : ∀ b ∈ fp, b < s2.heap.objs.size := fun b hb => by
  obtain ⟨o, e, _⟩ := T.obj _ _ st2 b hb
  exact Heap.lt_size e
 refine wpAny_newObj_type (wpAny_newFunctionEnv hcell (by intro y hy; simp at hy) (fun h₁ hns₁ hsb₁ => ?_) hkind)
 dsimp only at hns₁ hsb₁ ⊢
 have hlay : ∀ b u, s2.heap.get? b = some u → (s2.heap.push { cls := .type "list", dict := none, data := .seq ([] : List Value).toArray }).get? b = some u := fun b u e => Heap.get?_push_of_some _ e
 have hnew : (s2.heap.push { cls := .type "list", dict := none, data := .seq ([] : List Value).toArray }).get? s2.heap.objs.size = some { cls := .type "list", dict := none, data := .seq ([] : List Value).toArray } := Heap.get?_push_size _ rfl
 have hsz : (s2.heap.push { cls := .type "list", dict := none, data := .seq ([] : List Value).toArray }).objs.size = s2.heap.objs.size + 1 := Heap.size_push _ _
 generalize hHH : s2.heap.push { cls := .type "list", dict := none, data := .seq ([] : List Value).toArray } = HH at hns₁ hsb₁ hlay hnew hsz ⊢
 have I3 : Inv X pins σ (upd H2 s2.heap.objs.size (.lst [])) { s2 with heap := HH, toks := s2.toks } :=
  I2.laid (t' := s2.toks) (o := .lst []) hlay (Nat.le_refl _) ⟨Nat.zero_le _, [], 0, .nil, hnew⟩
 have ffp : ∀ b ∈ fp, FpOk X pins (upd H2 s2.heap.objs.size (.lst [])) b := fun b hb => by
  obtain ⟨f0, fr'⟩ := f2 b hb
  exact ⟨by rw [aqv (Nat.ne_of_lt (flt b hb))]; exact f0, fr'⟩
 have keep1 : ∀ b u, HH.get? b = some u → h₁.get? b = some u := fun b u e => hsb₁.extBut b u (Nat.ne_of_lt (Heap.lt_size e)) (Heap.get?_push_of_some _ e)
 exact nqO (s3 := { s2 with heap := HH, toks := s2.toks }) hc hkind hx hx2 hnd hcl F hfx ht he I3 T (T.keep _ _ _ st2 fun b hb o e => hlay b o e) ffp (fun b hb => by show b < HH.objs.size; rw [hsz]; exact Nat.lt_succ_of_lt (flt b hb)) w0 turn hns₁ keep1 fun s6 H5 o o2 I6 qn => by
  obtain ⟨m, hn6, _⟩ := id I6.loc
  exact ⟨m, hn6, fun h' sb => ⟨.ref _, H5, nqh I3 I6 ffp sb, rfl, qn⟩⟩
theorem qqf {K : PySem.W.Frag} (h : X.K = K) (hc : X.calm = true) (hclos : closureFor scope X.env = pure cl) (hcell : ∀ y ∈ scope.names, y.2 ≠ .cell) (hkind : scope.kind = .function)
  (hnames : ∀ y ∈ scope.names, y.2 = .local → scope.names.lookup y.1 = some .local) (hx : scope.names.lookup x = some .local) (hx2 : scope.names.lookup x2 = some .local) (hnd : (x :: x2 :: fx).Nodup)
  (hk : (cl.all fun q => fx.contains q.1) = true) (F : Frees X (relabel scope X.env) cl fx fr)
  (hfx : ((relabel scope X.env).names.all fun p => if (p.2 == .cell || p.2 == .free) then fx.contains p.1 else true) = true)
  (hi : PI X (.Tuple [.Name x px, .Name x2 px2] kx ptx) iter wi) (ht : ∀ s H fp, PF (compCx X (x :: x2 :: fx) scope cl s H fp) ifs tt) (he : ∀ s H fp, PE (compCx X (x :: x2 :: fx) scope cl s H fp) elt te)
  (hs : ∀ x, foldedSetIterable iter X.env x = pure x := by intro _; rfl) :
  PE X (.ListComp elt [⟨.Tuple [.Name x px, .Name x2 px2] kx ptx, iter, ifs, 0⟩] scope pos) (tComp2 K wi fr tt te) := by
 subst h; exact sqz hc hclos hcell hkind hnames hx hx2 hnd hk F hfx hi ht he hs
end
section
variable {p : Addr} {fv : St} {te : TE} {Q : VK} {H1 : Hp} {K : PySem.W.Frag}
theorem pqA {a : Addr} {xs zs : List V} {f : Nat → V × V} (hxs : SqT K H1 a xs) (hlen : xs.length ≤ sizeLine) (hp : H1 p = none) (hz : zs.length = xs.length)
  (hit : ∀ (i : Nat) (x : V) (H' : Hp), xs[i]? = some x → Same H1 H' → ∃ b, x = .ref b ∧ SqT K H' b [(f i).1, (f i).2])
  (he : ∀ (i : Nat) (z : V), i < xs.length → zs[i]? = some z → ∀ (H' : Hp) (T : VK), Same H1 H' → (∀ H'', Same H' H'' → T z H'') → te (some (f i).1 :: some (f i).2 :: fv) H' T)
  (hQ : ∀ H', Same H1 H' → H' p = some (.lst zs) → Q (.ref p) H') : CompI2 K (Itt K a) p fv tYes te Q H1 := by
 refine ⟨fun i m ys H2 => m = xs.length - i ∧ i ≤ xs.length ∧ ys = zs.take i ∧ H2 p = some (.lst ys) ∧ Same H1 H2, ⟨xs.length, by simp, Nat.zero_le _, by simp, aqg, fun b o e => by rw [aqv (aql e hp)]; exact e⟩, ?_⟩
 rintro i m ys H2 ⟨rfl, hi, rfl, hp2, sm⟩
 refine ⟨hp2, ?_⟩
 have q := sm.tup hxs
 by_cases hlt : i < xs.length
 ·refine .inr ⟨⟨xs, xs[i], q, by simp [hlt]⟩, ?_, fun x H3 y => ?_⟩
  ·rw [List.length_take]; omega
  ·obtain ⟨rfl, y⟩ := y
   have hc := y xs q
   obtain ⟨b, rfl, hb⟩ := hit i x H3 hc sm
   refine ⟨b, _, _, rfl, hb, ?_⟩
   unfold tYes
   dsimp only
   rw [if_pos rfl]
   have hzi : zs[i]? = some zs[i] := by simp [hz, hlt]
   refine he i _ hlt hzi _ _ sm fun H5 s5 => ⟨s5 _ _ hp2, xs.length - (i + 1), by omega, rfl, hlt, ?_, aqg, fun b o e => ?_⟩
   ·rw [List.take_add_one, hzi]; rfl
   ·rw [aqv (aql e hp)]; exact s5 _ _ (sm _ _ e)
 ·have e : i = xs.length := by omega
  subst e
  refine .inl ⟨⟨xs, q, Nat.le_refl _⟩, hQ H2 sm ?_⟩
  rw [hp2, ← hz, List.take_length]
theorem qqL {tl : TE} {tt : TT} {fr : List Nat} {σ : St} {H : Hp} : tComp2 K (iTup K tl) fr tt te σ H Q ↔ tl σ H fun x H1 => ∃ a, x = .ref a ∧ (∃ xs, SqT K H1 a xs) ∧ ∀ p, H1 p = none → CompI2 K (Itt K a) p (frV σ fr) tt te Q H1 := Iff.rfl
end
end L2
namespace L2
open PySem PySem.Spec PyProof.Rows
section
variable {X : Cx}
def rFind : V → List V → Hp → VK → Prop := fun x vs H Q => match x, vs with
 | .str z, [.str y] => Q (.int (Txt.find z y)) H
 | _, _ => False
theorem tqK {z y : Str} {H : Hp} {Q : VK} : rFind (.str z) [.str y] H Q ↔ Q (.int (Txt.find z y)) H := Iff.rfl
end
end L2
namespace Wm
open PySem L2
theorem rqk {c : Nat} (h : isSg c = true) : c < 128 := by have := cqk h; omega
end Wm
namespace Wm
open PySem L2
end Wm
namespace Wm
open PySem L2
end Wm
namespace Wm
end Wm
namespace L2
open PySem
theorem wqV {l : Addr} {H : Hp} {Q : VK} {i : Int} : rPopAt (.ref l) [.int i] H Q ↔ ∃ xs k y, H l = some (.lst xs) ∧ -(2 ^ 63) ≤ i ∧ i < 2 ^ 63 ∧ seqIndex? i xs.length = some k ∧ xs[k]? = some y ∧ Q y (upd H l (.lst (xs.eraseIdx k))) :=
 ⟨fun ⟨_, xs, _, k, y, h1, h2, h⟩ => by cases h1; cases h2; exact ⟨xs, k, y, h⟩, fun ⟨xs, k, y, h⟩ => ⟨_, xs, _, k, y, rfl, rfl, h⟩⟩
end L2
namespace L2
open PySem PySem.Spec PySem.W PyProof.Rows
abbrev vErr : List Value := [.type "ValueError", .type "Exception", .type "BaseException", .type "object"]
abbrev vNew : String := "ValueError.__new__"
def tRaise (E : XK) (C : Addr) : TS := fun _ _ H => E (.ref C) none H
theorem oqD {E : XK} {C : Addr} {D : Ends} {σ : St} {H : Hp} : tRaise E C D σ H ↔ E (.ref C) none H := Iff.rfl
theorem ObjOk.ex {P : Program} {w : World} {H : Hp} {h : Heap} {a : Addr} {o : HO} (x : ObjOk P w H h a o) : ∃ u, h.get? a = some u := by
 cases o with
 | lst xs => obtain ⟨_, _, _, _, e⟩ := x; exact ⟨_, e⟩
 | tup xs => obtain ⟨_, _, _, _, e, _⟩ := x; exact ⟨_, e⟩
 | dK kvs => obtain ⟨_, _, _, _, _, _, _, e, _⟩ := x; exact ⟨_, e⟩
 | dT kvs => obtain ⟨_, _, _, _, _, _, _, e, _⟩ := x; exact ⟨_, e⟩
 | set S n => obtain ⟨_, _, _, _, e, _⟩ := x; exact ⟨_, e⟩
 | ins C dx fs => obtain ⟨_, _, _, e, _⟩ := x; exact ⟨_, e⟩
 | own y => exact x
 | xd fs => obtain ⟨_, ⟨_, _, _, e, _⟩, _⟩ := x; exact ⟨_, e⟩
 | rng lo hi => obtain ⟨_, _, _, e⟩ := x; exact ⟨_, e⟩
 | frz ob u => exact ⟨_, x.1⟩
 | tbl ps => exact ⟨_, x⟩
 | met f y => exact ⟨_, x⟩
 | ext φ => exact x.2.1
structure Flown (P : Program) (w : World) (base : Heap) (outer : List Env) (H : Hp) (s : Shared) (a t C : Addr) (B : Heap) (H' : Hp) (s' : Shared) : Prop where
 os : s'.os = s.os
 bare : AllBare s'.gens
 st : base.StaysIn B
 fly : Heap.FlyingW B outer a (.ref C) (.ref t) s'.heap
 hok : HOk P w H' B
 un : Un (frs outer) [] H H' s.heap s'.heap
 kb : ∀ b o, s.heap.get? b = some o → H b = none → b ∉ frs outer → B.get? b = some o
 thB : ∀ b o, s.heap.get? b = some o → b ∉ frs outer → ∃ o', B.get? b = some o'
def CXE (P : Program) (w : World) (base : Heap) : CXT := fun outer H s E e s' => ∃ (a t C : Addr) (B : Heap) (H' : Hp), e = .ref a ∧ E (.ref C) none H' ∧ Flown P w base outer H s a t C B H' s'
theorem hqC {env : Env} {L : Addr} {outer : List Env} (hf : env.frame = some L) {b : Addr} : b ∈ frs (env :: outer) ↔ b = L ∨ b ∈ frs outer := by
 unfold frs
 rw [List.filterMap_cons, hf]
 exact List.mem_cons
section
variable {P : Program} {w : World} {K : Frag} {mg : Str → Option Value} {base : Heap} {N : List Str} {qual : Str} {scope : Scope} {f : Addr} {cd : Value} {A : Around} {outer : List Env} {s : Shared} {H : Hp} {E : XK}
theorem pq2 : Passes (CXE P w base) (cxOf (CXE P w base) P w K mg base N qual scope f cd A outer s H E) E := by
 intro pins σ H1 s1 e s2 I hq
 obtain ⟨a, t, C, B, H2, rfl, hE, W⟩ := hq
 have hf : (envOfC qual scope s.heap.objs.size f cd).frame = some s.heap.objs.size := rfl
 have ib : Un (frs outer) [] H H1 s.heap s1.heap := I.base
 have W : Flown P w base (envOfC qual scope s.heap.objs.size f cd :: outer) H1 s1 a t C B H2 s2 := W
 have ne : ∀ b o, s.heap.get? b = some o → b ∉ frs outer → b ∉ frs (envOfC qual scope s.heap.objs.size f cd :: outer) := fun b o q n z => by
  rcases (hqC hf).mp z with z | z
  ·exact absurd (Heap.lt_size q) (by rw [z]; exact Nat.lt_irrefl _)
  ·exact n z
 show wpAny (model P w) (A.deeper (envOfC qual scope s.heap.objs.size f cd)) (leaving (envOfC qual scope s.heap.objs.size f cd) (.ref a)) _ _ _
 refine wpAny_leaves_onW I.ok.frames hf W.fly fun h3 x1 x2 => ?_
 have keepB : ∀ b o, s.heap.get? b = some o → H b = none → b ∉ frs outer → B.get? b = some o := fun b o q n nf =>
  W.kb b o (ib.keep b o q n nf (by simp)) (ib.free b o q n (by simp)) (ne b o q nf)
 have thB : ∀ b o, s.heap.get? b = some o → b ∉ frs outer → ∃ o', B.get? b = some o' := fun b o q nf => by
  obtain ⟨o', z⟩ := ib.there b o q (by simp)
  exact W.thB b o' z (ne b o q nf)
 have slotF : ∀ b, b ∈ frs outer → ∀ o, s2.heap.get? b = some o → ∃ sl, h3.get? b = some { o with slots := sl } := fun b hb o q => by
  obtain ⟨_, o2, q2, nd⟩ := W.fly.2.2.1.mem ((hqC hf).mpr (.inr hb))
  rw [q] at q2
  cases q2
  exact x2 b o q nd
 refine ⟨a, t, C, B, H2, rfl, hE, ⟨W.os.trans I.os, W.bare, W.st, x1, W.hok, ⟨fun b o q n nf _ => x1.1 b o (keepB b o q n nf), fun b o q n hb _ => ?_, fun b o q n _ => ?_, fun b o q _ => ?_, fun b xs q => W.un.tups b xs (ib.tups b xs q), fun b o u q => W.un.frzs b o u (ib.frzs b o u q), fun b ps q => ?_⟩, keepB, thB⟩⟩
 ·obtain ⟨sl, z⟩ := ib.slot b o q n hb (by simp)
  obtain ⟨sl1, z1⟩ := W.un.slot b _ z (ib.free b o q n (by simp)) ((hqC hf).mpr (.inr hb)) (by simp)
  obtain ⟨sl', z'⟩ := slotF b hb _ z1
  exact ⟨sl', z'⟩
 ·obtain ⟨o', z⟩ := ib.there b o q (by simp)
  exact W.un.free b o' z (ib.free b o q n (by simp)) (by simp)
 ·by_cases hb : b ∈ frs outer
  ·obtain ⟨o', z⟩ := ib.there b o q (by simp)
   obtain ⟨o'', z1⟩ := W.un.there b o' z (by simp)
   obtain ⟨sl', z'⟩ := slotF b hb _ z1
   exact ⟨_, z'⟩
  ·obtain ⟨o', z⟩ := thB b o q hb
   exact ⟨o', x1.1 b o' z⟩
 ·obtain ⟨m1, z⟩ := ib.tbls b ps q
  obtain ⟨m2, z2⟩ := W.un.tbls b _ z
  exact ⟨m1 ++ m2, by rw [z2, Array.append_assoc]⟩
end
end L2
namespace L2
open PySem PySem.Spec PySem.W PyProof.Rows
def exO (a C : Addr) : HO := .ext fun h => ∃ o, h.get? a = some o ∧ o.cls = .ref C
abbrev Cx.handling (X : Cx) (e : Value) : Cx := { X with A := X.A.mark (some e), calm := false, xe := fun _ _ => False }
section
variable {X : Cx} {pins : List (Addr × Obj)} {σ : St} {H H1 H2 : Hp} {s s1 s2 : Shared}
theorem Inv.handling (e : Value) (I : Inv X pins σ H s) : Inv (X.handling e) pins σ H s :=
 ⟨⟨I.ok.mod, I.ok.kind, I.ok.glob, I.ok.blt, I.ok.above, I.ok.inj, I.ok.has, I.ok.cab, (fun z => by cases z), I.ok.frames, I.ok.stk, I.ok.exf, I.ok.bs, I.ok.bsz, I.ok.noex, I.ok.exfs, I.ok.funs, I.ok.frf⟩, I.os, I.bare, I.base, I.loc, I.cell, I.free, I.freeC, I.pin, I.hok, I.len⟩
theorem Inv.handled {e : Value} (J : X.Ok) (I : Inv (X.handling e) pins σ H s) : Inv X pins σ H s := ⟨J, I.os, I.bare, I.base, I.loc, I.cell, I.free, I.freeC, I.pin, I.hok, I.len⟩
theorem Flown.new {P : Program} {w : World} {base B h5 : Heap} {outer : List Env} {a t C : Addr} {a0 : Value} (W : Flown P w base outer H1 s1 a t C B H2 s2) : H2 a = none := by
 cases q : H2 a with
 | none => rfl
 | some u =>
  obtain ⟨o, z⟩ := (W.hok a u q).ex
  rw [W.fly.2.1] at z
  cases z
theorem Inv.caught {a t C : Addr} {B h5 : Heap} {a0 : Value} (I : Inv X pins σ H1 s1) (W : Flown X.prog X.w X.base X.stack H1 s1 a t C B H2 s2) (f5 : Heap.FlyingW B X.stack a (.ref C) a0 h5) (sm : s2.heap.UpToSlots h5) :
  Inv X pins σ (upd H2 a (exO a C)) { s2 with heap := h5 } := by
 have hn : H2 a = none := W.new (h5 := h5) (a0 := a0)
 obtain ⟨oe, vs, T, oT, ts, he, _, hd, _⟩ := W.fly.2.2.2
 have fr : ∀ b ∈ frs X.stack, ∀ o, s2.heap.get? b = some o → b ≠ a ∧ ∃ sl, h5.get? b = some { o with slots := sl } := fun b hb o q => by
  obtain ⟨_, o2, q2, nd⟩ := W.fly.2.2.1.mem hb
  rw [q] at q2
  cases q2
  refine ⟨fun z => ?_, sm b o q nd⟩
  rw [z, he] at q
  cases q
  exact nd _ hd
 have na : ∀ b o, s1.heap.get? b = some o → b ≠ a := fun b o q => by
  by_cases hb : b ∈ frs X.stack
  ·obtain ⟨o', z⟩ := W.un.there b o q (by simp)
   exact (fr b hb o' z).1
  ·obtain ⟨o', z⟩ := W.thB b o q hb
   rintro rfl
   rw [W.fly.2.1] at z
   cases z
 refine I.call' (H' := upd H2 a (exO a C)) (s' := { s2 with heap := h5 }) (ch := []) W.os ⟨fun b o q n nf _ => f5.1 b o (W.kb b o q n nf), fun b o q n hb _ => ?_, fun b o q n _ => ?_, fun b o q _ => ?_, fun b xs q => ?_, fun b o u q => ?_, fun b ps q => ?_⟩ (fun b u q => ?_) W.bare (fun b z => by cases z)
 ·obtain ⟨sl, z⟩ := W.un.slot b o q n hb (by simp)
  obtain ⟨_, sl', z'⟩ := fr b hb _ z
  exact ⟨sl', z'⟩
 ·rw [aqv (na b o q)]
  exact W.un.free b o q n (by simp)
 ·by_cases hb : b ∈ frs X.stack
  ·obtain ⟨o', z⟩ := W.un.there b o q (by simp)
   obtain ⟨_, sl', z'⟩ := fr b hb _ z
   exact ⟨_, z'⟩
  ·obtain ⟨o', z⟩ := W.thB b o q hb
   exact ⟨o', f5.1 b o' z⟩
 ·have z := W.un.tups b xs q
  rw [aqv (aql z hn)]
  exact z
 ·have z := W.un.frzs b o u q
  rw [aqv (aql z hn)]
  exact z
 ·obtain ⟨m, z⟩ := W.un.tbls b ps q
  exact ⟨m, by rw [aqv (aql z hn)]; exact z⟩
 ·by_cases hb : b = a
  ·subst hb
   rw [aqg] at q
   cases q
   obtain ⟨ob, hob, hoc⟩ := f5.there
   exact ⟨⟨ob, hob, hoc⟩, ⟨ob, hob⟩, fun h1 h2 ⟨o, z, c⟩ k => ⟨o, k o z, c⟩⟩
  ·rw [aqv hb] at q
   refine (W.hok b u q).stay (fun c v _ z => f5.1 c v z) (fun c z => ?_) fun c xs z => ?_
   ·rw [aqv (aql z hn)]; exact z
   ·rw [aqv (aql z hn)]; exact z
theorem Inv.goes {M : Model} {A : Around} {E : Value → Shared → Prop} {i : Nat} {n : Str} {pos : Pos} {Q : Unit → Shared → Prop} (I : Inv X pins σ H s) (nd : X.N.Nodup) (hi : X.N[i]? = some n) (hl : X.env.scope.names.lookup n = some .local)
  (h : ∀ s', Inv X pins (σ.set i none) H s' → Q () s') : wpAny M A (do bindName X.env n .none; unbindBehindTheSuite X.env n pos) Q E s := by
 obtain ⟨m, hn, hlk⟩ := id I.loc
 have hcls : (X.env.scope.kind == .class || (X.env.scope.kind == .module && X.env.locals != X.env.globals)) = false := by rw [I.ok.kind]; rfl
 have hiσ : i < σ.length := by rw [I.len]; exact (List.getElem?_eq_some_iff.mp hi).1
 refine wpAny_nameGoes_keeps hl hn hcls fun h' v hn' hs => h _ ?_
 have neL : ∀ b o, X.s₀.heap.get? b = some o → b ≠ X.env.locals := fun b o e => Nat.ne_of_lt (Nat.lt_of_lt_of_le (Heap.lt_size e) I.ok.above)
 refine ⟨I.ok, I.os, I.bare, ⟨fun b o e z hb hx => (hs.2 b (neL b o e)).trans (I.base.keep b o e z hb hx), fun b o e z hb hx => ?_, I.base.free, fun b o e hx => ?_, I.base.tups, I.base.frzs, I.base.tbls⟩, ⟨_, hn', fun j y v' e1 e2 e3 => ?_⟩, fun y c e => ?_, I.free, I.freeC, fun p hp => ?_, fun b ob e => ?_, by simpa using I.len⟩
 ·obtain ⟨sl, e1⟩ := I.base.slot b o e z hb hx
  exact ⟨sl, (hs.2 b (neL b o e)).trans e1⟩
 ·obtain ⟨o', e1⟩ := I.base.there b o e hx
  exact ⟨o', (hs.2 b (neL b o e)).trans e1⟩
 ·by_cases hj : j = i
  ·subst hj
   rw [List.getElem?_set_self hiσ] at e2
   cases e2
  ·rw [List.getElem?_set_ne (Ne.symm hj)] at e2
   obtain ⟨u', r', q⟩ := hlk j y v' e1 e2 e3
   refine ⟨u', r', ?_⟩
   rcases q with ⟨k, e⟩ | ⟨k, c, e, z⟩
   ·refine .inl ⟨k, ?_⟩
    have : y ≠ n := fun e => hj (lq3 nd e1 (e ▸ hi))
    simp [this, e]
   ·exact .inr ⟨k, c, e, z.sameBut hs (I.cne y c e)⟩
 ·obtain ⟨w', z⟩ := I.cell y c e
  exact ⟨w', z.sameBut hs (I.cne y c e)⟩
 ·obtain ⟨e, n1, ne, nf, d⟩ := I.pin p hp
  exact ⟨(hs.2 p.1 ne).trans e, n1, ne, nf, d⟩
 ·refine (I.hok b ob e).stay (fun c w' hc q => (hs.2 c ?_).trans q) (fun _ q => q) fun _ _ q => q
  rintro rfl
  rcases hc with rfl | hc
  ·rw [I.free] at e; cases e
  ·rw [I.free] at hc; cases hc
end
structure Catch (K : Frag) (W : Addr) : Prop where
 ty : typeIn K (.ref W) = some (.type "type")
 ex : subIn K (.ref W) (.type "BaseException") = some true
 cl : (clsIn K W).isSome = true
theorem nqC {K : Frag} {M : Model} {h : Heap} {a W C : Addr} {o : Obj} (kin : K.In h) (ha : h.get? a = some o) (hc : o.cls = .ref C) (cw : Catch K W) (hs : subIn K (.ref C) (.ref W) = some true) : Looks M h (excMatches (.ref a) (.ref W)) true := by
 have L1 := looks_typeIn (M := M) kin cw.ty
 have L2 := looks_subIn (M := M) kin cw.ex
 have L3 := looks_subIn (M := M) kin hs
 have L4 : Looks M h (typeOf (.ref a)) (.ref C) := hc ▸ (Looks.ld ha).andThen .now
 have L5 : Looks M h (isInstance (.ref W) (.type "tuple")) false := L1.andThen (Looks.of_pure tc_notTuple)
 have L6 : Looks M h (isType (.ref W)) true := by
  have z := cw.cl
  unfold clsIn at z
  split at z
  ·next lk =>
   intro A' Q' E' s' k q
   unfold isType loadHead
   exact wpAny_bind (wpAny_loadPart (k _ _ (kin _ _ lk)) (wpAny_pure q))
  ·cases z
 intro A Q E s k q
 unfold excMatches isExcClass
 refine wpAny_bind (L5 A _ E s k ?_)
 simp only [Bool.false_eq_true, if_false]
 refine wpAny_bind (wpAny_pure ?_)
 refine wpAny_bind ?_
 rw [List.forIn_cons]
 refine wpAny_bind (wpAny_bind (wpAny_bind (L6 A _ E s k ?_)))
 simp only [if_true]
 refine L2 A _ E s k ?_
 simp only [Bool.not_true, Bool.false_eq_true, if_false]
 refine wpAny_pure ?_
 dsimp only
 rw [List.forIn_nil]
 refine wpAny_pure ?_
 refine wpAny_bind (L4 A _ E s k ?_)
 refine wpAny_bind ?_
 rw [List.forIn_cons]
 refine wpAny_bind (wpAny_bind (L3 A _ E s k ?_))
 simp only [if_true]
 refine wpAny_pure ?_
 dsimp only
 exact wpAny_pure (wpAny_pure q)
end L2
namespace L2
open PySem PySem.Spec PySem.W PyProof.Rows
def tTry (K : Frag) (sp : Sp) (t : TA) (W : Addr) (i : Nat) (tb : TS) : TS := fun D σ H => t σ H fun vs H1 => sp vs H1 (fun _ H2 => D.nx σ H2) fun cls _ H2 =>
 ∃ C, cls = .ref C ∧ subIn K (.ref C) (.ref W) = some true ∧ ∀ a, H2 a = none → tb { nx := fun σ' H' => D.nx (σ'.set i none) H', rt := D.rt } (σ.set i (some (.ref a))) (upd H2 a (exO a C))
end L2
namespace L2
open PySem PySem.Spec PySem.W PySem.Calls PyProof.Rows PySem.Builtin PySem.Builtin.ObjectAttr PySem.Builtin.Getset_descriptor
structure ExLook (K : Frag) (C : Addr) : Prop where
 ga : findIn K (.ref C) "__getattribute__" = some (some (.builtin "BaseException.__getattribute__"))
 cl : findIn K (.ref C) "__class__" = some (some (.builtin "object.__class__"))
 na : findIn K (.ref C) "__getattr__" = some none
 mo : mroIn K C (.type "object") = some true
 mb : mroIn K C (.type "BaseException") = some true
 is : (clsIn K C).isSome = true
section
variable {prog : Program} {w : World} {A : Around} {E : Value → Shared → Prop} {hh : Heap} {g : Array GenState} {dr : Drawn} {t : Nat} {os : OsState} {K : Frag} {a C : Addr} {o : Obj}
theorem gqX {M : Model} (hx : hh.get? a = some o) (hc : o.cls = .ref C) : Looks M hh (typeOf (.ref a)) (.ref C) := hc ▸ (Looks.ld hx).andThen .now
theorem lqV {tp : Value} {R : Result → Shared → Prop} (kin : K.In hh) (hx : hh.get? a = some o) (hc : o.cls = .ref C) (hm : mroIn K C (.type "object") = some true)
  (h : R (.ok (.ret (.ref C))) ⟨hh, g, dr, t, os⟩) : codeAny (model prog w) A (.call (.builtin "getset_descriptor.__get__") ⟨[.builtin "object.__class__", .ref a, tp], []⟩) R ⟨hh, g, dr, t, os⟩ := by
 have lt := gqX (M := model prog w) hx hc; have ls := looks_mroIn (M := model prog w) kin hm
 refine codeAny_call_builtin KF.slot_gs.plain KF.entry_gs (KF.slot_gs.check _ _ _ _ _ _ _ _ KF.type_class (KF.args_gs _ _ _) ?_); unfold Builtin.«getset_descriptor.__get__» descrGet; rw [dga_obj]
 refine wpAny_bind (wpAny_pure ?_); unfold descrGetter descrCheckInstance descrNameAndClass isInstance; simp only [KF.owner_class]
 repeat lk
 refine ⟨Code.quiet_builtin _ (by decide +kernel), codeAny_builtin KF.entry_class ?_⟩; unfold Builtin.«object.__class__» shownTypeOf
 repeat lk
 exact h
theorem jqM {tk : Tok} {Q : Fin → Shared → Prop} (kin : K.In hh) (hx : hh.get? a = some o) (hc : o.cls = .ref C) (L : ExLook K C) (hq : Q (.done (.ret (.ref C))) ⟨hh, g, dr, t, os⟩) :
  wpAny (model prog w) A (Builtin.«object.__getattribute__» ⟨[.ref a, .str "__class__" tk], []⟩) Q E ⟨hh, g, dr, t, os⟩ := by
 have lt := gqX (M := model prog w) hx hc; have lc := looks_findIn (M := model prog w) kin L.cl
 have hT5 : (⟨hh, g, dr, t, os⟩ : Shared).TypeIs (.builtin "object.__class__") "getset_descriptor" := F.typeOf_object_class
 have f5 := F.typeOf_object_class; have f6 := F.slot_gs_get.lookup; have f7 := F.slot_gs_set.lookup
 repeat (any_goals (first | assumption | with_reducible refine Looks.at lt ?_ | with_reducible refine Looks.at lc ?_ | wp_step))
 refine lqV kin hx hc L.mo ?_
 repeat (any_goals (first | assumption | wp_step))
theorem iqP {M : Model} {nv : Value} {Q : Unit → Shared → Prop} (kin : K.In hh) (hx : hh.get? a = some o) (hc : o.cls = .ref C) (L : ExLook K C) (hq : Q () ⟨hh, g, dr, t, os⟩) :
  wpAny M A (checkBuiltinCall "BaseException.__getattribute__" ⟨[.ref a, nv], []⟩) Q E ⟨hh, g, dr, t, os⟩ := by
 have lt := gqX (M := M) hx hc; have lb := looks_mroIn (M := M) kin L.mb
 have z1 : builtinKind "BaseException.__getattribute__" = some .slot := by decide +kernel
 have z2 : splitId "BaseException.__getattribute__" = some ("BaseException", "__getattribute__") := by decide +kernel
 have z3 := F.args_bexc_ga (.ref a) nv
 simp only [checkBuiltinCall, z1, z2]; refine wpAny_bind ?_; unfold isInstance
 repeat (first | with_reducible refine Looks.at lt ?_ | with_reducible refine Looks.at lb ?_ | wp_step)
 exact hq
theorem mqd {tk : Tok} {Q : Value → Shared → Prop} (kin : K.In hh) (hx : hh.get? a = some o) (hc : o.cls = .ref C) (L : ExLook K C) (gb : Slot "ValueError" "__getattribute__" "BaseException.__getattribute__") (hq : Q (.ref C) ⟨hh, g, dr, t, os⟩) :
  wpAny (model prog w) A (getAttrBy (.ref a) (.str "__class__" tk) false) Q E ⟨hh, g, dr, t, os⟩ := by
 have lt := gqX (M := model prog w) hx hc; have lg := looks_findIn (M := model prog w) kin L.ga; have ln := looks_findIn (M := model prog w) kin L.na
 have f3 := gb.bind (.ref a)
 have y2 : (Value.builtin "BaseException.__getattribute__" == Value.builtin "object.__getattribute__") = false := by decide +kernel
 have y1 : (onTheHeap (Value.ref C) && Value.builtin "BaseException.__getattribute__" == Value.builtin "object.__getattribute__") = false := by rw [y2]; rfl
 repeat (any_goals (first | assumption | with_reducible refine Looks.at lt ?_ | with_reducible refine Looks.at lg ?_ | with_reducible refine Looks.at ln ?_ | wp_step))
 refine codeAny_call_builtin gb.plain F.entry_bexc_ga (iqP kin hx hc L (jqM kin hx hc L ?_))
 repeat (any_goals (first | assumption | wp_step))
theorem kqR {s : Shared} {Q : Option Value → Shared → Prop} (kin : K.In s.heap) (hx : s.heap.get? a = some o) (hc : o.cls = .ref C) (L : ExLook K C) (gb : Slot "ValueError" "__getattribute__" "BaseException.__getattribute__") (hq : Q (some (.ref C)) { s with toks := s.toks + 1 }) :
  wpAny (model prog w) A (getAttr? (.ref a) "__class__") Q E s := by
 obtain ⟨hh, g, dr, t, os⟩ := s
 unfold getAttr? getAttrBy?
 repeat (any_goals (first | assumption | with_reducible apply mqd kin hx hc L gb | wp_step))
theorem rqO (L : ExLook K C) (gb : Slot "ValueError" "__getattribute__" "BaseException.__getattribute__") : KitX K (.ref a) (.ref C) (fun h => ∃ o, h.get? a = some o ∧ o.cls = .ref C) where
 ty := fun _ _ _ ⟨o, hx, hc⟩ => gqX hx hc
 it := fun _ _ X _ => by
  have z := L.is
  unfold clsIn at z
  split at z
  ·next lk =>
   intro A' Q' E' s' k q
   unfold isType loadHead
   exact wpAny_bind (wpAny_loadPart (k _ _ (X _ _ lk)) (wpAny_pure q))
  ·cases z
 ne := fun h tp dd its n sl X htp => by
  have z := L.is
  refine Bool.eq_false_iff.mpr fun q => ?_
  obtain rfl : C = tp := Value.ref.inj (beq_iff_eq.mp q)
  unfold clsIn at z
  split at z
  ·next lk =>
   have y := (X _ _ lk).symm.trans htp
   cases y
  ·cases z
 ca := fun X ⟨o, hx, hc⟩ k => kqR X hx hc L gb k
end
inductive KitAns (K : Frag) (H : Hp) (C : Addr) : V → Bool → Prop
 | cls {W : Addr} {b : Bool} : kitOne K (.ref C) (.ref W) = some b → KitAns K H C (.ref W) b
 | ty {T : String} {b : Bool} : kitOne K (.ref C) (.type T) = some b → KitAns K H C (.ty T) b
 | tup {p : Addr} {cs : List Addr} {b : Bool} : H p = some (.tup (cs.map V.ref)) → kitAny K (.ref C) (cs.map Value.ref) = some b → KitAns K H C (.ref p) b
theorem mqi : ∀ {cs : List Addr} {us : List Value}, Vals (cs.map V.ref) us → us = cs.map Value.ref
 | [], _, .nil => rfl
 | _ :: _, _, .cons r rs => by cases r; rw [mqi rs]; rfl
def rIsE (K : Frag) : List V → Hp → VK → Prop := fun vs H Q => ∃ a c C b, vs = [.ref a, c] ∧ H a = some (exO a C) ∧ ExLook K C ∧ KitAns K H C c b ∧ Q (.bl b) H
end L2
namespace L2
open PySem PySem.W
theorem lqJ : bootBuiltins "ValueError" = some (.type "ValueError") := by decide +kernel
theorem vqw {K : Frag} {a : Addr} {c : V} {H : Hp} {Q : VK} : rIsE K [.ref a, c] H Q ↔ ∃ C b, H a = some (exO a C) ∧ ExLook K C ∧ KitAns K H C c b ∧ Q (.bl b) H :=
 ⟨fun ⟨_, _, C, b, e, h⟩ => by cases e; exact ⟨C, b, h⟩, fun ⟨C, b, h⟩ => ⟨a, c, C, b, rfl, h⟩⟩
theorem wqk {K : Frag} {sp : Sp} {t : TA} {W : Addr} {i : Nat} {tb : TS} {D : Ends} {σ : St} {H : Hp} : tTry K sp t W i tb D σ H ↔ t σ H fun vs H1 => sp vs H1 (fun _ H2 => D.nx σ H2) fun cls _ H2 =>
 ∃ C, cls = .ref C ∧ subIn K (.ref C) (.ref W) = some true ∧ ∀ a, H2 a = none → tb { nx := fun σ' H' => D.nx (σ'.set i none) H', rt := D.rt } (σ.set i (some (.ref a))) (upd H2 a (exO a C)) := Iff.rfl
end L2
namespace L2
open PySem PySem.Spec PyProof.Rows
theorem sw3 (x y : Str) (t u : Tok) (i : Nat) (v : Tok) :
  Meets (Builtin.«str.startswith» ⟨[.str x t, .str y u, .int (i : Int) v], []⟩) (fun _ R s => R (.ok (.ret (.bool (decide (i + y.length ≤ x.length) && Builtin.Str.subAt x y i)))) s) :=
 .of_wp fun prog w A R s h => by
  obtain ⟨hp, g, d, tk, os⟩ := s
  unfold Builtin.«str.startswith»
  wp_walk
  rw [F.slot_int_index.lookup]
  wp_walk
  refine ⟨_, rfl, ?_⟩
  have e1 : (max (0 : Int) (if (i : Int) < 0 then (i : Int) + (x.length : Int) else (i : Int))).toNat = i := by
   rw [if_neg (by omega)]; omega
  have e2 : min ((x.length : Nat) : Int).toNat x.length = x.length := by omega
  dsimp only
  rw [e1, e2]
  exact h
section
variable {X : Cx}
def rStarts : V → List V → Hp → VK → Prop := fun x vs H Q => ∃ z y, ∃ i : Nat, x = .str z ∧ vs = [.str y, .int (i : Int)] ∧ Q (.bl (decide (i + y.length ≤ z.length) && Builtin.Str.subAt z y i)) H
theorem pqt : MtR X "str.startswith" rStarts := by
 intro pins s σ H x vs v us Q I rx rv h
 obtain ⟨z, y, i, rfl, rfl, q⟩ := h
 obtain ⟨t, rfl⟩ := rx
 obtain ⟨u1, u2, rfl, r1, r2⟩ := vals2 rv
 obtain ⟨t1, rfl⟩ := r1
 obtain ⟨t2, rfl⟩ := r2
 exact call_meets F.slot_str_startswith (typeIs_str _ _ _) F.entry_str_startswith (F.args_str_startswith_3 _ _ _) (sw3 z y t t1 i t2) ⟨.bl _, H, I, rfl, q⟩
end
end L2
namespace L2
open PySem PySem.Spec PyProof.Rows
section
variable {X : Cx}
def rPart : V → List V → Hp → VK → Prop := fun x vs H Q => ∃ z y, x = .str z ∧ vs = [.str y] ∧ (y.length == 0) = false ∧ z.length ≤ sizeLine ∧
 ∀ p, H p = none → Q (.ref p) (upd H p (.tup [.str (Txt.partition z y).1, .str (Txt.partition z y).2.1, .str (Txt.partition z y).2.2]))
theorem nqn : MtR X "str.partition" rPart := by
 intro pins s σ H x vs v us Q I rx rv h
 obtain ⟨z, y, rfl, rfl, hy, hz, q⟩ := h
 obtain ⟨t, rfl⟩ := rx
 obtain ⟨u, rfl, t', rfl⟩ := vals1 rv
 have hf : H s.heap.objs.size = none := I.hok.fresh (Nat.le_refl _)
 have q := q _ hf
 refine call_meets F.slot_str_partition (typeIs_str _ _ _) F.entry_str_partition (F.args_str_partition_2 _ _) (meets_str_partition z y t t' hy hz) ?_
 unfold Txt.partition at q
 revert q
 cases Builtin.Str.occurrences z y 0 z.length 1 with
 | nil =>
  intro q
  refine ⟨.ref s.heap.objs.size, _, I.laid (t' := s.toks + 1) (o := .tup _) (fun b u e => Heap.get?_push_of_some _ e) (by omega) ?_, rfl, q⟩
  exact ⟨by show 3 ≤ sizeLine; decide, _, .cons ⟨_, rfl⟩ (.cons ⟨_, rfl⟩ (.cons ⟨_, rfl⟩ .nil)), IsTup.new _ _⟩
 | cons i r =>
  intro q
  refine ⟨.ref s.heap.objs.size, _, I.laid (t' := s.toks + 1 + 1) (o := .tup _) (fun b u e => Heap.get?_push_of_some _ e) (by omega) ?_, rfl, q⟩
  exact ⟨by show 3 ≤ sizeLine; decide, _, .cons ⟨_, rfl⟩ (.cons ⟨_, rfl⟩ (.cons ⟨_, rfl⟩ .nil)), IsTup.new _ _⟩
end
end L2
namespace L2
open PySem PySem.Spec PyProof.Rows
theorem qqi {us : List Value} {d : Value} (h : (us ++ [d]).length = 3) : ∃ x y, us = [x, y] := by
 match us, h with
 | [x, y], _ => exact ⟨x, y, rfl⟩
 | [], h => simp at h
 | [_], h => simp at h
 | _ :: _ :: _ :: _, h => simp at h
section
variable {X : Cx}
def rIntS : List V → Hp → VK → Prop := fun xs H Q => ∃ z n, xs = [.str z] ∧ z.length ≤ 640 ∧ PySem.intText? z = some n ∧ Q (.int n) H
theorem mqS : CallR X (.type "int") rIntS := by
 intro pins s σ H xs us Q I r h
 obtain ⟨z, n, rfl, hz, hn, q⟩ := h
 obtain ⟨u, rfl, t, rfl⟩ := vals1 r
 exact PySem.W.KIN.call_text hn hz ⟨.int n, H, I.tok _, ⟨_, rfl⟩, q⟩
theorem tqE {z : Str} {H : Hp} {Q : VK} : rIntS [.str z] H Q ↔ ∃ n, z.length ≤ 640 ∧ PySem.intText? z = some n ∧ Q (.int n) H :=
 ⟨fun ⟨_, n, e, h⟩ => by cases e; exact ⟨n, h⟩, fun ⟨n, h⟩ => ⟨z, n, rfl, h⟩⟩
theorem wqT {z y : Str} {i : Nat} {H : Hp} {Q : VK} : rStarts (.str z) [.str y, .int (i : Int)] H Q ↔ Q (.bl (decide (i + y.length ≤ z.length) && Builtin.Str.subAt z y i)) H :=
 ⟨fun ⟨_, _, j, e1, e2, h⟩ => by
  cases e1
  injection e2 with e2 e3
  cases e2
  injection e3 with e3
  injection e3 with e3
  obtain rfl : i = j := by omega
  exact h, fun h => ⟨z, y, i, rfl, rfl, h⟩⟩
theorem sqK {z y : Str} {H : Hp} {Q : VK} : rPart (.str z) [.str y] H Q ↔ (y.length == 0) = false ∧ z.length ≤ sizeLine ∧ ∀ p, H p = none → Q (.ref p) (upd H p (.tup [.str (Txt.partition z y).1, .str (Txt.partition z y).2.1, .str (Txt.partition z y).2.2])) :=
 ⟨fun ⟨_, _, e1, e2, h⟩ => by cases e1; cases e2; exact h, fun h => ⟨z, y, rfl, rfl, h⟩⟩
theorem wqU {K : PySem.W.Frag} {ta : TE} {f : Str} {σ : St} {H : Hp} {Q : VK} : tFld K ta f σ H Q ↔ ta σ H fun x H1 => ∃ a C dx fs v, x = .ref a ∧ H1 a = some (.ins C dx fs) ∧ Cls K C ∧ NoAttr K C f ∧ fs.lookup f = some v ∧ Q v H1 := Iff.rfl
theorem tq8 {K : PySem.W.Frag} {ta tv : TE} {f : Str} {D : Ends} {σ : St} {H : Hp} : sFld K ta tv f D σ H ↔ tv σ H fun y H1 => ta σ H1 fun x H2 => ∃ a C dx fs, x = .ref a ∧ H2 a = some (.ins C dx fs) ∧ Cls K C ∧ NoAttr K C f ∧ fs.length < 1000 ∧ D.nx σ (upd H2 a (.ins C dx (putF f y fs))) := Iff.rfl
theorem vqc {C : Addr} {m : Str} {sp : Sp} {dvs : List V} {E : XK} {ta : TE} {t : TA} {σ : St} {H : Hp} {Q : VK} : tMeth C m sp dvs E ta t σ H Q ↔ ta σ H fun x H1 => ∃ a dx fs, x = .ref a ∧ H1 a = some (.ins C dx fs) ∧ fs.lookup m = none ∧ t σ H1 fun vs H2 => sp (x :: (vs ++ dvs)) H2 Q E := Iff.rfl
theorem uqM {C : Addr} {sp : Sp} {dvs : List V} {E : XK} {t : TA} {σ : St} {H : Hp} {Q : VK} : tMake C sp dvs E t σ H Q ↔ t σ H fun vs H1 => ∀ x dx, H1 x = none → H1 dx = none → dx ≠ x → sp (.ref x :: (vs ++ dvs)) (upd (upd H1 dx (.own x)) x (.ins C dx [])) (fun v H2 => v = .non ∧ Q (.ref x) H2) E := Iff.rfl
end
end L2
namespace Wm
open PySem L2
theorem sqE (t w : List Nat) (i : Nat) (hi : i ≤ t.length) : (decide (i + (⟨w.toArray⟩ : Str).length ≤ (⟨t.toArray⟩ : Str).length) && Builtin.Str.subAt ⟨t.toArray⟩ ⟨w.toArray⟩ i) = decide ((t.drop i).take w.length = w) := by
 rw [cqV, cqV]
 have e : Builtin.Str.subAt ⟨t.toArray⟩ ⟨w.toArray⟩ i = decide ((t.drop i).take w.length = w) := by
  unfold Builtin.Str.subAt
  rw [cqV, Bool.eq_iff_iff, beq_iff_eq, decide_eq_true_eq]
  show (t.toArray.extract i (i + w.length) = w.toArray) ↔ _
  rw [← Array.toList_inj]
  simp
 rw [e]
 by_cases h : (t.drop i).take w.length = w
 ·have hl := congrArg List.length h
  rw [List.length_take, List.length_drop] at hl
  rw [decide_eq_true h, Bool.and_true]
  by_cases hw : w.length = 0
  ·rw [hw, Nat.add_zero]
   exact decide_eq_true hi
  ·exact decide_eq_true (by omega)
 ·rw [decide_eq_false h, Bool.and_false]
theorem occ1 (x y : Str) : ∀ (l : List Nat) (free : Nat), (∀ i ∈ l, free ≤ i) →
  (forIn l ((#[] : Array Nat), free) (StrLaws.occBody x y x.length 1)).run.fst.toList = (l.find? fun i => decide (i + y.length ≤ x.length) && Builtin.Str.subAt x y i).toList
 | [], free, _ => rfl
 | a :: l, free, hf => by
  rw [List.forIn_cons, List.find?_cons]
  have ha : free ≤ a := hf a (List.mem_cons_self ..)
  by_cases hc : a + y.length ≤ x.length ∧ Builtin.Str.subAt x y a = true
  ·have e : (decide (a + y.length ≤ x.length) && Builtin.Str.subAt x y a) = true := by rw [decide_eq_true hc.1, hc.2]; rfl
   rw [e]
   unfold StrLaws.occBody
   rw [if_pos ⟨⟨⟨by simp, ha⟩, hc.1⟩, hc.2⟩]
   have full : ∀ (l : List Nat) (st : Array Nat × Nat), st.1.size = 1 → (forIn l st (StrLaws.occBody x y x.length 1)).run.fst = st.1 := by
    intro l
    induction l with
    | nil => intro st _; rfl
    | cons b l ih =>
     intro st hs
     rw [List.forIn_cons]
     unfold StrLaws.occBody
     rw [if_neg (fun h => by have := h.1.1.1; omega)]
     exact ih st hs
   show (forIn l ((#[] : Array Nat).push a, a + y.length) (StrLaws.occBody x y x.length 1)).run.fst.toList = _
   rw [full l _ (by simp)]
   simp
  ·have e : (decide (a + y.length ≤ x.length) && Builtin.Str.subAt x y a) = false := by
    cases h1 : Builtin.Str.subAt x y a with
    | false => rw [Bool.and_false]
    | true => rw [Bool.and_true]; exact decide_eq_false fun z => hc ⟨z, h1⟩
   rw [e]
   unfold StrLaws.occBody
   rw [if_neg (fun h => hc ⟨h.1.2, h.2⟩)]
   exact occ1 x y l free fun i hi => hf i (List.mem_cons_of_mem _ hi)
def ahead (t : List Nat) : List Nat := t.takeWhile fun c => decide (c ≠ 58)
theorem rq7 (t : List Nat) (i : Nat) : (decide (i + (⟨[58].toArray⟩ : Str).length ≤ (⟨t.toArray⟩ : Str).length) && Builtin.Str.subAt ⟨t.toArray⟩ ⟨[58].toArray⟩ i) = decide (t[i]? = some 58) := by
 by_cases hi : i ≤ t.length
 ·rw [sqE t [58] i hi, decide_eq_decide]
  cases h : t.drop i with
  | nil =>
   have : t[i]? = none := List.getElem?_eq_none (by have := congrArg List.length h; rw [List.length_drop, List.length_nil] at this; omega)
   rw [this]
   simp
  | cons c r =>
   have : t[i]? = some c := by rw [← List.head?_drop, h]; rfl
   rw [this]
   simp
 ·rw [List.getElem?_eq_none (by omega), cqV, cqV, decide_eq_false (by rw [List.length_singleton]; omega)]
  rfl
theorem pqn (t : List Nat) : ∀ (k : Nat), k ≤ t.length → (t.take k).all (fun c => decide (c ≠ 58)) = true →
  ((List.range' k (t.length + 1 - k)).find? fun i => decide (t[i]? = some 58)) = if 58 ∈ t then some (ahead t).length else none := by
 intro k
 induction hn : t.length - k generalizing k with
 | zero =>
  intro hk ha
  have e : k = t.length := by omega
  subst e
  rw [List.take_length] at ha
  have hno : 58 ∉ t := fun h => by have := List.all_eq_true.mp ha 58 h; simp at this
  rw [if_neg hno, show t.length + 1 - t.length = 1 by omega]
  simp
 | succ n ih =>
  intro hk ha
  have hk' : k < t.length := by omega
  have hc : t[k]? = some t[k] := List.getElem?_eq_getElem hk'
  rw [show t.length + 1 - k = (t.length + 1 - (k + 1)) + 1 by omega, List.range'_succ, List.find?_cons, hc]
  by_cases h58 : t[k] = 58
  ·rw [h58]
   simp only [decide_true]
   rw [if_pos (by rw [← h58]; exact List.getElem_mem hk')]
   congr 1
   have ht : t = t.take k ++ 58 :: t.drop (k + 1) := by
    rw [← h58, List.getElem_cons_drop, List.take_append_drop]
   unfold ahead
   rw [ht, List.takeWhile_append_of_pos (fun c hc' => List.all_eq_true.mp ha c hc'), List.takeWhile_cons_of_neg (by simp)]
   simp; omega
  ·rw [show decide (some t[k] = some 58) = false from decide_eq_false (by simpa using h58)]
   refine ih (k + 1) (by omega) (by omega) ?_
   rw [List.take_add_one, hc, List.all_append, ha]
   simpa using h58
theorem oq6 (t : List Nat) : (Txt.partition ⟨t.toArray⟩ ⟨[58].toArray⟩).1 = ⟨(ahead t).toArray⟩ := by
 have e : Builtin.Str.occurrences (⟨t.toArray⟩ : Str) ⟨[58].toArray⟩ 0 (⟨t.toArray⟩ : Str).length 1 = (if 58 ∈ t then some (ahead t).length else none).toList := by
  rw [StrLaws.occ_eq, occ1 _ _ _ _ (fun i _ => Nat.zero_le i)]
  simp only [rq7]
  rw [cqV]
  exact congrArg Option.toList (pqn t 0 (Nat.zero_le _) rfl)
 unfold Txt.partition
 rw [e]
 by_cases h : 58 ∈ t
 ·rw [if_pos h]
  show Builtin.Str.strSub ⟨t.toArray⟩ 0 (ahead t).length = _
  unfold Builtin.Str.strSub
  have hp : t.take (ahead t).length = ahead t := (List.prefix_iff_eq_take.mp (List.takeWhile_prefix _)).symm
  rw [← hp, List.length_take]
  have : (ahead t).length ≤ t.length := (List.takeWhile_prefix _).length_le
  rw [show min (ahead t).length t.length = (ahead t).length by omega]
  show (⟨t.toArray.extract 0 (ahead t).length⟩ : Str) = _
  simp
 ·rw [if_neg h]
  have all : ∀ l : List Nat, 58 ∉ l → ahead l = l := fun l => by
   induction l with
   | nil => intro _; rfl
   | cons c l ih =>
    intro hl
    have h1 : c ≠ 58 := fun z => hl (by rw [z]; exact List.mem_cons_self ..)
    unfold ahead
    rw [List.takeWhile_cons, if_pos (decide_eq_true h1)]
    exact congrArg (c :: ·) (ih fun z => hl (List.mem_cons_of_mem _ z))
  have : ahead t = t := all t h
  rw [this]
  rfl
def Cur (H : Hp) (C p : Addr) (t : List Nat) (k : Nat) : Prop := ∃ dx, H p = some (.ins C dx [("text", .str ⟨t.toArray⟩), ("place", .int (k : Int))])
inductive WrT (fr : List Nat) : List Nat → List Nat → Prop
 | nil : WrT fr [] []
 | self {c : Nat} {s w : List Nat} : (isPl c = true ∨ c ∈ fr) → c ≠ 126 → WrT fr s w → WrT fr (c :: s) (c :: w)
 | pair {c a b : Nat} {s w : List Nat} : sgO a b = some c → WrT fr s w → WrT fr (c :: s) (126 :: a :: b :: w)
def Stops (fr r : List Nat) : Prop := ∀ c, r.head? = some c → isPl c = false ∧ c ∉ fr ∧ c ≠ 126
def moV : Option Nat → V
 | none => .non
 | some m => .int (m : Int)
theorem pq1 {fr s w s' w' : List Nat} (h : WrT fr s w) (h' : WrT fr s' w') : WrT fr (s ++ s') (w ++ w') := by
 induction h with
 | nil => exact h'
 | self a b _ ih => exact .self a b ih
 | pair a _ ih => exact .pair a ih
theorem jqL {fr s : List Nat} (h : ∀ c ∈ s, isSg c = true) : WrT fr s (wr s) := by
 induction s with
 | nil => exact .nil
 | cons c s ih =>
  have hc := h c (List.mem_cons_self ..)
  have ih := ih fun d hd => h d (List.mem_cons_of_mem _ hd)
  show WrT fr (c :: s) (wr1 c ++ wr s)
  unfold wr1
  by_cases hp : isPl c = true
  ·rw [if_pos hp]
   exact .self (.inl hp) (fun z => by rw [z] at hp; cases hp) ih
  ·rw [if_neg hp]
   exact .pair (lq6 hc) ih
theorem tqd {a n : Nat} (h : fig a = some n) : a < 128 ∧ n < 16 ∧ (n < 10 → a = 48 + n) := by
 unfold fig at h
 split at h
 ·cases h; omega
 ·split at h
  ·cases h; omega
  ·split at h
   ·cases h; omega
   ·cases h
theorem kqt {a b c : Nat} (h : sgO a b = some c) : a ∈ (Str.ofString "234567").cps.toList ∧ a < 128 ∧ b < 128 ∧ isSg c = true := by
 unfold sgO at h
 cases ha : fig a with
 | none => simp [ha] at h
 | some n =>
  cases hb : fig b with
  | none => simp [ha, hb] at h
  | some m =>
   simp only [ha, hb] at h
   split at h
   ·next hs =>
    cases h
    obtain ⟨a1, a2, a3⟩ := tqd ha
    obtain ⟨b1, b2, _⟩ := tqd hb
    have hr := hs
    simp only [isSg, Bool.and_eq_true, decide_eq_true_eq] at hr
    have e := a3 (by omega)
    refine ⟨?_, a1, b1, hs⟩
    have key : ∀ n, n < 8 → 2 ≤ n → 48 + n ∈ (Str.ofString "234567").cps.toList := by decide +kernel
    rw [e]
    exact key n (by omega) (by omega)
   ·cases h
section
variable {K : PySem.W.Frag} {H : Hp} {C p : Addr} {t : List Nat} {i : Nat}
theorem uqV {v u : V} : List.lookup (Str.ofString "text") [(Str.ofString "text", v), (Str.ofString "place", u)] = some v := by
 rw [List.lookup_cons, beq_self_eq_true]
theorem rqn {v u : V} : List.lookup (Str.ofString "place") [(Str.ofString "text", v), (Str.ofString "place", u)] = some u := by
 rw [List.lookup_cons, show (Str.ofString "place" == Str.ofString "text") = false by decide +kernel, List.lookup_cons, beq_self_eq_true]
theorem fqu {R : V → Prop} (h : Cur H C p t i) (cl : Cls K C) (n : NoAttr K C "text") (r : R (.str ⟨t.toArray⟩)) : ∃ a C dx fs v, p = a ∧ H a = some (.ins C dx fs) ∧ Cls K C ∧ NoAttr K C (Str.ofString "text") ∧ List.lookup (Str.ofString "text") fs = some v ∧ R v :=
 let ⟨dx, hp⟩ := h
 ⟨p, C, dx, _, _, rfl, hp, cl, n, uqV, r⟩
theorem aqW {R : V → Prop} (h : Cur H C p t i) (cl : Cls K C) (n : NoAttr K C "place") (r : R (.int (i : Int))) : ∃ a C dx fs v, p = a ∧ H a = some (.ins C dx fs) ∧ Cls K C ∧ NoAttr K C (Str.ofString "place") ∧ List.lookup (Str.ofString "place") fs = some v ∧ R v :=
 let ⟨dx, hp⟩ := h
 ⟨p, C, dx, _, _, rfl, hp, cl, n, rqn, r⟩
theorem qqg {v u w : V} : putF (Str.ofString "place") w [(Str.ofString "text", v), (Str.ofString "place", u)] = [(Str.ofString "text", v), (Str.ofString "place", w)] := by
 have h : Str.ofString "text" ≠ Str.ofString "place" := by decide +kernel
 simp only [putF, if_neg h, if_true]
theorem mq0 {N : Hp → Prop} {z : Int} (h : Cur H C p t i) (cl : Cls K C) (n : NoAttr K C "place") (j : Nat) (hz : z = (j : Int)) (hN : ∀ H', SameBut p H H' → Cur H' C p t j → N H') :
  ∃ a C dx fs, p = a ∧ H a = some (.ins C dx fs) ∧ Cls K C ∧ NoAttr K C (Str.ofString "place") ∧ fs.length < 1000 ∧ N (upd H a (.ins C dx (putF (Str.ofString "place") (.int z) fs))) := by
 obtain ⟨dx, hp⟩ := h
 refine ⟨p, C, dx, _, rfl, hp, cl, n, by show 2 < 1000; decide, ?_⟩
 rw [qqg, hz]
 exact hN _ fqF ⟨dx, aqg⟩
theorem tqW {m : Str} {v u : V} (h1 : (m == Str.ofString "text") = false) (h2 : (m == Str.ofString "place") = false) : List.lookup m [(Str.ofString "text", v), (Str.ofString "place", u)] = none := by
 rw [List.lookup_cons, h1, List.lookup_cons, h2]; rfl
theorem aqT {R : Prop} {m : Str} (h : Cur H C p t i) (r : R) (h1 : (m == Str.ofString "text") = false := by decide +kernel) (h2 : (m == Str.ofString "place") = false := by decide +kernel) :
  ∃ a dx fs, p = a ∧ H a = some (.ins C dx fs) ∧ List.lookup m fs = none ∧ R :=
 let ⟨dx, hp⟩ := h
 ⟨p, dx, _, rfl, hp, tqW h1 h2, r⟩
theorem Cur.same {H' : Hp} (h : Cur H C p t i) (s : Same H H') : Cur H' C p t i := let ⟨dx, hp⟩ := h; ⟨dx, s _ _ hp⟩
end
def plS : List Nat := (Str.ofString "abcdefghijklmnopqrstuvwxyzABCDEFGHIJKLMNOPQRSTUVWXYZ0123456789-_.").cps.toList
theorem pqY : plS.length = 65 := by decide +kernel
theorem sqP {c : Nat} (h : c < 128) : (c ∈ plS) ↔ isPl c = true := by
 have := oqv c h
 rw [← this, decide_eq_true_eq]
 exact Iff.rfl
def seesB (t sg : List Nat) (i : Nat) : Bool := ((t[i]?).map fun c => decide (c ∈ sg)).getD false
theorem fqm {t sg : List Nat} {i c : Nat} (h : t[i]? = some c) : seesB t sg i = decide (c ∈ sg) := by unfold seesB; rw [h]; rfl
theorem fql {t sg : List Nat} {i : Nat} (h : t[i]? = none) : seesB t sg i = false := by unfold seesB; rw [h]; rfl
theorem jq0 {t w : List Nat} {i c : Nat} (h : t.drop i = c :: w) : t[i]? = some c ∧ i < t.length := by
 have e : t[i]? = some c := by rw [← List.head?_drop, h]; rfl
 exact ⟨e, (List.getElem?_eq_some_iff.mp e).1⟩
theorem pq8 {fr s w : List Nat} (h : WrT fr s w) : s.length ≤ w.length := by
 induction h with
 | nil => exact Nat.le_refl _
 | self _ _ _ ih => simp only [List.length_cons]; omega
 | pair _ _ ih => simp only [List.length_cons]; omega
def frS : List Nat := (Str.ofString "!$'()*,;@&=+").cps.toList
def frQ : List Nat := (Str.ofString "!$'()*,;@+/?:").cps.toList
def frM : List Nat := (Str.ofString "!$'()*,;@&=+/?:").cps.toList
theorem lqs : frS.length ≤ 100 := by decide +kernel
theorem jqC : frQ.length ≤ 100 := by decide +kernel
theorem rqe : frM.length ≤ 100 := by decide +kernel
theorem fq9 {fr : List Nat} : Stops fr [] := fun c h => by cases h
theorem bqs {fr r : List Nat} {c : Nat} (h : isPl c = false ∧ c ∉ fr ∧ c ≠ 126) : Stops fr (c :: r) := fun d e => by cases e; exact h
def MarW (o : Option (List Nat)) (w : List Nat) : Prop := match o with
 | none => w = []
 | some s => ∃ v, w = 35 :: v ∧ WrT frM s v
def ValW (o : Option (List Nat)) (w : List Nat) : Prop := match o with
 | none => w = []
 | some s => ∃ v, w = 61 :: v ∧ WrT frQ s v
def HouW (o : Option (List Nat)) (w : List Nat) : Prop := match o with
 | none => w = []
 | some s => ∃ v, w = 47 :: 47 :: v ∧ WrT [] s v ∧ s ≠ [] ∧ s.length ≤ 60
inductive TlW : List (List Nat) → Bool → List Nat → Prop
 | stop : TlW [] false []
 | ends : TlW [] true [47]
 | more {s w : List Nat} {ss : List (List Nat)} {e : Bool} {v : List Nat} : WrT frS s w → s ≠ [] → TlW ss e v → TlW (s :: ss) e (47 :: (w ++ v))
inductive StpW : List (List Nat) → Bool → List Nat → Prop
 | none {e : Bool} : StpW [] e []
 | some {s w : List Nat} {ss : List (List Nat)} {e : Bool} {v : List Nat} : WrT frS s w → s ≠ [] → TlW ss e v → StpW (s :: ss) e (w ++ v)
theorem pq9 : (47 : Nat) ∉ frS := by decide +kernel
theorem oql {fr s w : List Nat} (h : WrT fr s w) (hs : s ≠ []) : ∃ c r, w = c :: r ∧ (isPl c = true ∨ c ∈ fr ∨ c = 126) := by
 cases h with
 | nil => exact absurd rfl hs
 | self a _ _ => exact ⟨_, _, rfl, a.elim .inl (fun z => .inr (.inl z))⟩
 | pair _ _ => exact ⟨_, _, rfl, .inr (.inr rfl)⟩
theorem nq7 {ss : List (List Nat)} {e : Bool} {v rest : List Nat} (h : TlW ss e v) (hr : Stops frS rest) : Stops frS (v ++ rest) := by
 cases h with
 | stop => exact hr
 | ends => exact bqs ⟨by decide, pq9, by decide⟩
 | more _ _ _ => exact bqs ⟨by decide, pq9, by decide⟩
theorem oqH {ss : List (List Nat)} {e : Bool} {v rest : List Nat} (h : StpW ss e v) (hr : rest.head? ≠ some 47) : (v ++ rest).head? ≠ some 47 := by
 cases h with
 | none => exact hr
 | some hw hs _ =>
  obtain ⟨c, r, rfl, hc⟩ := oql hw hs
  intro z
  have e : c = 47 := Option.some.inj z
  subst e
  rcases hc with z | z | z
  ·cases z
  ·exact pq9 z
  ·cases z
inductive PrsW : List (List Nat × Option (List Nat)) → List Nat → Prop
 | nil : PrsW [] []
 | cons {n w v : List Nat} {o : Option (List Nat)} {ps : List (List Nat × Option (List Nat))} {r : List Nat} : WrT frQ n w → n ≠ [] → ValW o v → PrsW ps r → PrsW ((n, o) :: ps) (38 :: (w ++ (v ++ r)))
def QueW (q : Option (List (List Nat × Option (List Nat)))) (w : List Nat) : Prop := match q with
 | none => w = []
 | some [] => w = [63]
 | some ((n, o) :: ps) => ∃ a v r, w = 63 :: (a ++ (v ++ r)) ∧ WrT frQ n a ∧ n ≠ [] ∧ ValW o v ∧ PrsW ps r
theorem pqU : (35 : Nat) ∉ frQ ∧ (38 : Nat) ∉ frQ ∧ (61 : Nat) ∉ frQ := by decide +kernel
theorem kqp {ps : List (List Nat × Option (List Nat))} {r rest : List Nat} (h : PrsW ps r) (hr : rest = [] ∨ ∃ x, rest = 35 :: x) : Stops frQ (r ++ rest) ∧ (r ++ rest).head? ≠ some 61 := by
 cases h with
 | nil =>
  rcases hr with rfl | ⟨x, rfl⟩
  ·exact ⟨fq9, by simp⟩
  ·exact ⟨bqs ⟨by decide, pqU.1, by decide⟩, by simp⟩
 | cons _ _ _ _ => exact ⟨bqs ⟨by decide, pqU.2.1, by decide⟩, by simp⟩
theorem mqt {o : Option (List Nat)} {v r : List Nat} (h : ValW o v) (hr : Stops frQ r) : Stops frQ (v ++ r) := by
 cases o with
 | none =>
  have h : v = [] := h
  subst h
  exact hr
 | some s =>
  obtain ⟨x, rfl, _⟩ := h
  exact bqs ⟨by decide, pqU.2.2, by decide⟩
theorem Cur.toT {H H' : Hp} {C p : Addr} {t : List Nat} {i : Nat} (h : Cur H C p t i) (s : SameBut p H H') : SameT H H' := fun b xs e => s b _ (by
 obtain ⟨dx, hp⟩ := h
 exact tq5 e hp (by intro z; cases z)) e
def pD (a : List Nat × Option (List Nat)) : PyData := .tuple [st a.1, oD a.2]
def PrL (H : Hp) (vs : List V) (dn : List (List Nat × Option (List Nat))) : Prop := vs.length = dn.length ∧ ∀ (i : Nat) (a : List Nat × Option (List Nat)) (y : V), dn[i]? = some a → vs[i]? = some y → IsT H (pD a) y
theorem PrL.mono {H H' : Hp} {vs : List V} {dn : List (List Nat × Option (List Nat))} (h : PrL H vs dn) (s : SameT H H') : PrL H' vs dn := ⟨h.1, fun i a y e1 e2 => (h.2 i a y e1 e2).mono s⟩
theorem PrL.snoc {H : Hp} {vs : List V} {dn : List (List Nat × Option (List Nat))} {a : List Nat × Option (List Nat)} {y : V} (h : PrL H vs dn) (hy : IsT H (pD a) y) : PrL H (vs ++ [y]) (dn ++ [a]) := by
 refine ⟨by simp [h.1], fun i b z e1 e2 => ?_⟩
 by_cases hi : i < dn.length
 ·rw [List.getElem?_append_left hi] at e1
  rw [List.getElem?_append_left (by rw [h.1]; exact hi)] at e2
  exact h.2 i b z e1 e2
 ·have := (List.getElem?_eq_some_iff.mp e1).1
  rw [List.length_append, List.length_singleton] at this
  have e : i = dn.length := by omega
  subst e
  rw [List.getElem?_append_right (Nat.le_refl _), Nat.sub_self] at e1
  rw [← h.1, List.getElem?_append_right (Nat.le_refl _), Nat.sub_self] at e2
  cases e1
  cases e2
  exact hy
theorem kq4 {H : Hp} {α : Type} {g : α → PyData} : ∀ {l : List α} {ys : List V}, ys.length = l.length → (∀ (i : Nat) (a : α) (y : V), l[i]? = some a → ys[i]? = some y → IsT H (g a) y) → IsTAll H (l.map g) ys
 | [], [], _, _ => .nil
 | [], _ :: _, h, _ => by simp at h
 | _ :: _, [], h, _ => by simp at h
 | a :: l, y :: ys, h, k => .cons (k 0 a y rfl rfl) (kq4 (by simpa using h) fun i b z e1 e2 => k (i + 1) b z (by simpa using e1) (by simpa using e2))
def fgS : List Nat := (Str.ofString "0123456789").cps.toList
theorem oqJ {c : Nat} : c ∈ fgS ↔ 48 ≤ c ∧ c ≤ 57 := by
 rw [show fgS = [48, 49, 50, 51, 52, 53, 54, 55, 56, 57] by decide +kernel]
 simp only [List.mem_cons, List.not_mem_nil, or_false]
 omega
def valD (ds : List Nat) : Nat := ds.foldl (fun a c => a * 10 + (c - 48)) 0
theorem fqo (ds : List Nat) (c : Nat) : valD (ds ++ [c]) = valD ds * 10 + (c - 48) := by unfold valD; rw [List.foldl_append]; rfl
theorem qqp : ∀ (es ds : List Nat), valD ds ≤ valD (ds ++ es)
 | [], ds => by rw [List.append_nil]; exact Nat.le_refl _
 | c :: es, ds => by
  have h := qqp es (ds ++ [c])
  rw [fqo, List.append_assoc] at h
  exact Nat.le_trans (by omega) h
def DooW (o : Option Int) (w : List Nat) : Prop := match o with
 | none => w = []
 | some n => ∃ ds, w = 58 :: ds ∧ ds ≠ [] ∧ (∀ c ∈ ds, 48 ≤ c ∧ c ≤ 57) ∧ (valD ds : Int) = n ∧ valD ds ≤ 65535 ∧ (ds = [48] ∨ ds.head? ≠ some 48)
theorem pqV : ∀ c, c < 58 → 48 ≤ c → PySem.intText? ⟨#[c]⟩ = some (((c - 48 : Nat)) : Int) := by decide +kernel
theorem iqf {s r : List Nat} (h : ∀ c ∈ s, c ≠ 58) : ahead (s ++ 58 :: r) = s := by
 unfold ahead
 rw [List.takeWhile_append_of_pos (fun c hc => decide_eq_true (h c hc)), List.takeWhile_cons_of_neg (by simp), List.append_nil]
theorem mqB (t : List Nat) : ∃ r, t = ahead t ++ r := ⟨t.dropWhile fun c => decide (c ≠ 58), (List.takeWhile_append_dropWhile (p := fun c => decide (c ≠ 58))).symm⟩
theorem pq4 (t : List Nat) : (ahead t).length ≤ t.length := by
 obtain ⟨r, h⟩ := mqB t
 have := congrArg List.length h
 rw [List.length_append] at this
 omega
theorem lqa (t : List Nat) : t.take (ahead t ++ [58]).length = ahead t ++ [58] ↔ t[(ahead t).length]? = some 58 := by
 obtain ⟨r, h⟩ := mqB t
 generalize ahead t = a at h
 subst h
 rw [List.length_append, List.length_singleton, List.getElem?_append_right (Nat.le_refl _), Nat.sub_self, List.take_append]
 rw [List.take_of_length_le (by omega), show a.length + 1 - a.length = 1 by omega]
 constructor
 ·intro e
  have e := List.append_cancel_left e
  cases r with
  | nil => simp at e
  | cons c r => simp at e; rw [e]; rfl
 ·intro e
  cases r with
  | nil => simp at e
  | cons c r => simp at e; rw [e]; rfl
def schM (t : List Nat) : List Nat := if ahead t ≠ [] ∧ schD (.str ⟨(ahead t).toArray⟩) = true ∧ t[(ahead t).length]? = some 58 then ahead t else []
def schP (t : List Nat) : Nat := (schT (schM t)).length
theorem hqD {t : List Nat} (h1 : ahead t ≠ []) (h2 : schD (.str ⟨(ahead t).toArray⟩) = true) (h3 : t[(ahead t).length]? = some 58) : schM t = ahead t ∧ schP t = (ahead t ++ [58]).length := by
 have e : schM t = ahead t := by unfold schM; rw [if_pos ⟨h1, h2, h3⟩]
 exact ⟨e, by unfold schP schT; rw [e, if_neg h1]⟩
theorem fqP {t : List Nat} (h : ¬ (ahead t ≠ [] ∧ schD (.str ⟨(ahead t).toArray⟩) = true ∧ t[(ahead t).length]? = some 58)) : schM t = [] ∧ schP t = 0 := by
 have e : schM t = [] := by unfold schM; rw [if_neg h]
 exact ⟨e, by unfold schP schT; rw [e, if_pos rfl]; rfl⟩
def RdW (x : Ad) (t : List Nat) : Prop := ∃ h d w q m, t = schT x.scheme ++ (h ++ (d ++ ((if x.rooted then [47] else []) ++ (w ++ (q ++ m))))) ∧ schM t = x.scheme ∧ HouW x.house h ∧ DooW x.door d ∧ StpW x.steps x.ends w ∧ QueW x.quest q ∧ MarW x.mark m
end Wm
namespace L2
open PySem
theorem IsKAll.length {K : PySem.W.Frag} {H : Hp} : ∀ {ds : List PyData} {xs : List V}, IsKAll K H ds xs → xs.length = ds.length
 | _, _, .nil => rfl
 | _, _, .cons _ r => by simp [IsKAll.length r]
theorem lqd {K : PySem.W.Frag} {H : Hp} : ∀ {ds : List PyData} {xs : List V} {i : Nat} {d : PyData} {x : V}, IsKAll K H ds xs → ds[i]? = some d → xs[i]? = some x → IsK K H d x
 | _, _, 0, _, _, .cons h _, e1, e2 => by cases e1; cases e2; exact h
 | _, _, i + 1, _, _, .cons _ r, e1, e2 => lqd r (i := i) (by simpa using e1) (by simpa using e2)
 | _, _, 0, _, _, .nil, e1, _ => by cases e1
 | _, _, _ + 1, _, _, .nil, e1, _ => by cases e1
end L2
namespace Wm
open PySem L2
theorem kq9 : ∀ n : Nat, valD ((Nat.toDigits 10 n).map Char.toNat) = n ∧ (Nat.toDigits 10 n).map Char.toNat ≠ [] ∧ (((Nat.toDigits 10 n).map Char.toNat).head? = some 48 → n = 0)
 | n => by
  by_cases h : n < 10
  ·rw [Nat.toDigits_of_lt_base h]
   have key : ∀ n, n < 10 → valD ([Nat.digitChar n].map Char.toNat) = n ∧ ([Nat.digitChar n].map Char.toNat).head? = some (48 + n) := by decide +kernel
   obtain ⟨k1, k2⟩ := key n h
   refine ⟨k1, by simp, fun z => ?_⟩
   rw [k2] at z
   injection z with z
   omega
  ·have h' : 10 ≤ n := by omega
   rw [Nat.toDigits_of_base_le (by decide) h', List.map_append]
   obtain ⟨i1, i2, i3⟩ := kq9 (n / 10)
   have key : ∀ n, n < 10 → ([Nat.digitChar n].map Char.toNat) = [48 + n] := by decide +kernel
   rw [key (n % 10) (by omega), fqo, i1]
   refine ⟨by omega, by simp, fun z => ?_⟩
   cases hh : (Nat.toDigits 10 (n / 10)).map Char.toNat with
   | nil => exact absurd hh i2
   | cons c r =>
    rw [hh] at z i3
    have := i3 z
    omega
theorem oqu {o : Option Int} (h : ∀ i, o = some i → 0 ≤ i ∧ i ≤ 65535) : DooW o (dooT o) := by
 cases o with
 | none => rfl
 | some i =>
  obtain ⟨h1, h2⟩ := h i rfl
  obtain ⟨n, rfl⟩ := Int.eq_ofNat_of_zero_le h1
  have e : dg (n : Int) = (Nat.toDigits 10 n).map Char.toNat := by unfold dg; rw [PySem.W.KIN.signs_num]
  obtain ⟨i1, i2, i3⟩ := kq9 n
  refine ⟨dg n, rfl, by rw [e]; exact i2, sq1 h1, by rw [e, i1], by rw [e, i1]; omega, ?_⟩
  by_cases hz : (dg n).head? = some 48
  ·rw [e] at hz
   have := i3 hz
   subst this
   exact .inl (by rw [e]; decide)
  ·exact .inr hz
theorem sqt {o : Option (List Nat)} (h : ∀ l, o = some l → (0 < l.length ∧ l.length ≤ 60) ∧ ∀ c ∈ l, isSg c = true) : HouW o (houT o) := by
 cases o with
 | none => rfl
 | some l =>
  obtain ⟨⟨h1, h2⟩, h3⟩ := h l rfl
  exact ⟨wr l, rfl, jqL h3, (fun e => by rw [e] at h1; cases h1), h2⟩
theorem sqw {o : Option (List Nat)} (h : ∀ l, o = some l → ∀ c ∈ l, isSg c = true) : MarW o (oT 35 o) := by
 cases o with
 | none => rfl
 | some l => exact ⟨wr l, rfl, jqL (h l rfl)⟩
theorem oqo {o : Option (List Nat)} (h : ∀ l, o = some l → ∀ c ∈ l, isSg c = true) : ValW o (oT 61 o) := by
 cases o with
 | none => rfl
 | some l => exact ⟨wr l, rfl, jqL (h l rfl)⟩
theorem sqM {e : Bool} : ∀ {ss : List (List Nat)}, (∀ s ∈ ss, StepOk s) → TlW ss e (tlT 47 (ss.map wr) ++ if e then [47] else [])
 | [], _ => by cases e <;> simp [tlT] <;> constructor
 | s :: ss, h => by
  have h1 := h s (List.mem_cons_self ..)
  have := TlW.more (jqL (fr := frS) h1.2) (fun z => by rw [z] at h1; cases h1.1) (sqM (e := e) (ss := ss) fun t ht => h t (List.mem_cons_of_mem _ ht))
  simpa [tlT] using this
theorem sqp {ss : List (List Nat)} {e : Bool} (h : ∀ s ∈ ss, StepOk s) : StpW ss e (stpT ss e) := by
 cases ss with
 | nil => rw [rqW]; exact .none
 | cons s ss =>
  have h1 := h s (List.mem_cons_self ..)
  have := StpW.some (jqL (fr := frS) h1.2) (fun z => by rw [z] at h1; cases h1.1) (sqM (e := e) (ss := ss) fun t ht => h t (List.mem_cons_of_mem _ ht))
  unfold stpT
  simpa [joinT] using this
theorem nq8 : ∀ {ps : List (List Nat × Option (List Nat))}, (∀ p ∈ ps, PairOk p) → PrsW ps (tlT 38 (ps.map pairT))
 | [], _ => .nil
 | (n, o) :: ps, h => by
  have h1 := h (n, o) (List.mem_cons_self ..)
  have := PrsW.cons (jqL (fr := frQ) h1.1.2) (fun z => by have := h1.1.1; rw [z] at this; cases this) (oqo h1.2) (nq8 (ps := ps) fun t ht => h t (List.mem_cons_of_mem _ ht))
  simpa [tlT, pairT] using this
theorem rqZ {q : Option (List (List Nat × Option (List Nat)))} (h : ∀ ps, q = some ps → ∀ p ∈ ps, PairOk p) : QueW q (queT q) := by
 cases q with
 | none => rfl
 | some ps =>
  cases ps with
  | nil => rfl
  | cons p ps =>
   obtain ⟨n, o⟩ := p
   have h1 := h _ rfl (n, o) (List.mem_cons_self ..)
   exact ⟨wr n, oT 61 o, tlT 38 (ps.map pairT), by simp [queT, joinT, pairT], jqL h1.1.2, (fun z => by have := h1.1.1; rw [z] at this; cases this), oqo h1.2, nq8 fun t ht => h _ rfl t (List.mem_cons_of_mem _ ht)⟩
theorem nqZ {P : Nat → Prop} (h1 : P 63) (h2 : P 38) (h3 : P 61) (hw : ∀ c, wch c = true → P c) {q : Option (List (List Nat × Option (List Nat)))} (h : ∀ ps, q = some ps → ∀ p ∈ ps, PairOk p) : ∀ c ∈ queT q, P c := by
 intro c hc
 cases q with
 | none => cases hc
 | some ps =>
  simp only [queT, List.mem_cons] at hc
  rcases hc with rfl | hc
  ·exact h1
  ·refine oqd h2 (fun s hs d hd => ?_) c hc
   obtain ⟨p, hp, rfl⟩ := List.mem_map.mp hs
   exact sqs h3 hw (h ps rfl p hp) d hd
theorem Ad.Wf.all {P : Nat → Prop} {x : Ad} (h : x.Wf) (h1 : P 47) (h2 : P 58) (h3 : P 63) (h4 : P 38) (h5 : P 61) (h6 : P 35) (hw : ∀ c, wch c = true → P c) : ∀ c ∈ x.shw, P c := by
 intro c hc
 rw [Ad.shw_eq] at hc
 rcases List.mem_append.mp hc with hc | hc
 ·rcases List.mem_append.mp hc with hc | hc
  ·exact h.pre_all h1 h2 hw c hc
  ·exact nqZ h3 h4 h5 hw h.que c hc
 ·exact qq3 h6 hw h.mar c hc
theorem sq7 {c : Nat} (h : wch c = true) : c < 128 := by
 simp only [wch, isPl, Bool.or_eq_true, decide_eq_true_eq] at h
 omega
theorem tq0 {x : Ad} (h : x.Wf) : ∀ c ∈ x.shw, c < 128 := h.all (by decide) (by decide) (by decide) (by decide) (by decide) (by decide) fun _ => sq7
theorem rq1 {x : Ad} (h : x.Wf) : schM x.shw = x.scheme := by
 by_cases hs : x.scheme = []
 ·rw [hs]
  refine (fqP ?_).1
  rintro ⟨_, z2, z3⟩
  cases hh : x.house with
  | some l =>
   obtain ⟨r, hr⟩ : ∃ r, x.shw = 47 :: r := by
    unfold Ad.shw
    rw [hs, hh]
    exact ⟨_, rfl⟩
   rw [hr] at z2
   have : (ahead (47 :: r)) = 47 :: ahead r := by unfold ahead; rw [List.takeWhile_cons_of_pos (by decide)]
   rw [this] at z2
   simp [schD, isLet] at z2
  | none =>
   have hd : x.door = none := by
    cases hd : x.door with
    | none => rfl
    | some i => exact absurd hh (h.doo i hd).2
   have hm : (58 : Nat) ∈ x.shw := List.mem_of_getElem? z3
   unfold Ad.shw at hm
   rw [hs, hh, hd] at hm
   simp only [schT, if_true, houT, dooT, List.nil_append] at hm
   have ha : ∀ c, c ∈ x.wayT ++ (queT x.quest ++ oT 35 x.mark) → c ≠ 58 := by
    intro c hc
    rcases List.mem_append.mp hc with hc | hc
    ·exact qqd (P := fun c => c ≠ 58) (by decide) (fun c hc => (kqi hc).2.2.2.1) h.stp c hc
    ·rcases List.mem_append.mp hc with hc | hc
     ·exact nqZ (P := fun c => c ≠ 58) (by decide) (by decide) (by decide) (fun c hc => (kqi hc).2.2.2.1) h.que c hc
     ·exact qq3 (P := fun c => c ≠ 58) (by decide) (fun c hc => (kqi hc).2.2.2.1) h.mar c hc
   exact ha 58 hm rfl
 ·have hc : ∀ c ∈ x.scheme, c ≠ 58 := fun c hc => (kqi (nqr (h.sch.2.1 c hc))).2.2.2.1
  obtain ⟨r, hr⟩ : ∃ r, x.shw = x.scheme ++ 58 :: r := by
   unfold Ad.shw schT
   rw [if_neg hs]
   exact ⟨_, by rw [List.append_assoc]; rfl⟩
  have ha : ahead x.shw = x.scheme := by rw [hr]; exact iqf hc
  have := (hqD (t := x.shw) (by rw [ha]; exact hs) (by
   rw [ha]
   simp only [schD, Bool.and_eq_true, List.all_eq_true, decide_eq_true_eq]
   exact ⟨⟨⟨fun c hc => nqp (h.sch.2.1 c hc), by show x.scheme.length ≤ 8; exact h.sch.1⟩, h.sch.2.2⟩, h.sch.2.1⟩) (by
   rw [ha, hr, List.getElem?_append_right (Nat.le_refl _), Nat.sub_self]; rfl)).1
  rw [this, ha]
theorem uqu {x : Ad} (h : x.Wf) : RdW x x.shw :=
 ⟨houT x.house, dooT x.door, stpT x.steps x.ends, queT x.quest, oT 35 x.mark, by
  unfold Ad.shw Ad.wayT
  rw [qqm, List.append_assoc], rq1 h, sqt h.hou, oqu fun i e => (h.doo i e).1, sqp h.stp, rqZ h.que, sqw h.mar⟩
def GoodsT (n : Nat) (H : Hp) (vs : List V) : Prop := ∀ v ∈ vs, ∃ x : Ad, (x.Wf ∧ x.Tiny ∧ x.steps.length ≤ n) ∧ IsT H x.data v
theorem GoodsT.cons {n : Nat} {H : Hp} {v : V} {vs : List V} {x : Ad} (h1 : x.Wf ∧ x.Tiny ∧ x.steps.length ≤ n) (h3 : IsT H x.data v) (h : GoodsT n H vs) : GoodsT n H (v :: vs) := fun u hu => by
 rcases List.mem_cons.mp hu with rfl | hu
 ·exact ⟨x, h1, h3⟩
 ·exact h u hu
theorem Ad.Tiny.local {x : Ad} (h : x.Tiny) : ({ x with scheme := [], house := none, door := none } : Ad).Tiny := ⟨h.stp, h.que, h.mar, fun l e => by cases e⟩
end Wm
namespace Wm
open PySem L2
theorem hqz {fr s w : List Nat} (hf : ∀ c ∈ fr, c < 128) (h : WrT fr s w) : ∀ c ∈ w, c < 128 := by
 induction h with
 | nil => intro c hc; cases hc
 | self a b _ ih =>
  intro d hd
  rcases List.mem_cons.mp hd with rfl | hd
  ·rcases a with a | a
   ·exact sq7 (by unfold wch; rw [a]; rfl)
   ·exact hf _ a
  ·exact ih d hd
 | pair a _ ih =>
  intro d hd
  obtain ⟨_, h1, h2, _⟩ := kqt a
  simp only [List.mem_cons] at hd
  rcases hd with rfl | rfl | rfl | hd
  ·decide
  ·exact h1
  ·exact h2
  ·exact ih d hd
theorem sqX {fr s w : List Nat} (hf : (58 : Nat) ∉ fr) (h : WrT fr s w) : ∀ c ∈ w, c ≠ 58 := by
 induction h with
 | nil => intro c hc; cases hc
 | self a b _ ih =>
  intro d hd
  rcases List.mem_cons.mp hd with rfl | hd
  ·rcases a with a | a
   ·intro z; rw [z] at a; cases a
   ·intro z; rw [z] at a; exact hf a
  ·exact ih d hd
 | pair a _ ih =>
  intro d hd
  unfold sgO at a
  simp only [List.mem_cons] at hd
  rcases hd with rfl | rfl | rfl | hd
  ·decide
  ·intro z; subst z
   rw [show fig 58 = none by decide] at a
   simp at a
  ·intro z; subst z
   rw [show fig 58 = none by decide] at a
   simp at a
  ·exact ih d hd
theorem sq4 : (58 : Nat) ∉ frS := by decide +kernel
theorem vqj {ss : List (List Nat)} {e : Bool} {v : List Nat} (h : TlW ss e v) : ∀ c ∈ v, c ≠ 58 := by
 induction h with
 | stop => intro c hc; cases hc
 | ends => intro c hc; rw [List.mem_singleton.mp hc]; decide
 | more hw _ _ ih =>
  intro c hc
  simp only [List.mem_cons, List.mem_append] at hc
  rcases hc with rfl | hc | hc
  ·decide
  ·exact sqX sq4 hw c hc
  ·exact ih c hc
theorem vqh {ss : List (List Nat)} {e : Bool} {v : List Nat} (h : StpW ss e v) : ∀ c ∈ v, c ≠ 58 := by
 cases h with
 | none => intro c hc; cases hc
 | some hw _ ht =>
  intro c hc
  rcases List.mem_append.mp hc with hc | hc
  ·exact sqX sq4 hw c hc
  ·exact vqj ht c hc
theorem mqn {w r : List Nat} (hw : ∀ c ∈ w, c ≠ 58) (hr : r = [] ∨ ∃ c y, r = c :: y ∧ isAln c = false ∧ c ≠ 58) : schM (w ++ r) = [] := by
 refine (fqP ?_).1
 rintro ⟨_, z2, z3⟩
 rcases hr with rfl | ⟨c, y, rfl, h1, h2⟩
 ·rw [List.append_nil] at z3
  exact hw 58 (List.mem_of_getElem? z3) rfl
 ·have e : ahead (w ++ c :: y) = w ++ c :: ahead y := by
   unfold ahead
   rw [List.takeWhile_append_of_pos (fun c hc => decide_eq_true (hw c hc)), List.takeWhile_cons_of_pos (by simpa using h2)]
  rw [e] at z2
  simp only [schD, Bool.and_eq_true, List.all_eq_true] at z2
  have := z2.2 c (by simp)
  rw [h1] at this
  cases this
end Wm
namespace L2
open PySem
end L2
namespace Wm
open PySem L2
def PrW (p : List Nat × Option (List Nat)) (w : List Nat) : Prop := ∃ a v, w = a ++ v ∧ WrT frQ p.1 a ∧ ValW p.2 v
inductive PrWs : List (List Nat × Option (List Nat)) → List (List Nat) → Prop
 | nil : PrWs [] []
 | cons {p : List Nat × Option (List Nat)} {w : List Nat} {ps : List (List Nat × Option (List Nat))} {ws : List (List Nat)} : PrW p w → PrWs ps ws → PrWs (p :: ps) (w :: ws)
theorem PrWs.snoc {p : List Nat × Option (List Nat)} {w : List Nat} (h : PrW p w) : ∀ {ps : List (List Nat × Option (List Nat))} {ws : List (List Nat)}, PrWs ps ws → PrWs (ps ++ [p]) (ws ++ [w])
 | _, _, .nil => .cons h .nil
 | _, _, .cons a r => .cons a (PrWs.snoc h r)
theorem PrWs.length : ∀ {ps : List (List Nat × Option (List Nat))} {ws : List (List Nat)}, PrWs ps ws → ws.length = ps.length
 | _, _, .nil => rfl
 | _, _, .cons _ r => by simp [PrWs.length r]
theorem qqU : ∀ {ps : List (List Nat × Option (List Nat))} {ws : List (List Nat)}, PrWs ps ws → (∀ p ∈ ps, p.1 ≠ []) → PrsW ps (tlT 38 ws)
 | _, _, .nil, _ => .nil
 | (n, o) :: ps, _, .cons (w := w) (ws := ws) h r, hn => by
  obtain ⟨a, v, rfl, ha, hv⟩ := h
  have := PrsW.cons ha (hn (n, o) (List.mem_cons_self ..)) hv (qqU r fun p hp => hn p (List.mem_cons_of_mem _ hp))
  simpa [tlT] using this
theorem tqq {ps : List (List Nat × Option (List Nat))} {ws : List (List Nat)} (h : PrWs ps ws) (hn : ∀ p ∈ ps, p.1 ≠ []) : QueW (some ps) (63 :: joinT 38 ws) := by
 cases h with
 | nil => rfl
 | cons h r =>
  rename_i p w ps ws
  obtain ⟨n, o⟩ := p
  obtain ⟨a, v, rfl, ha, hv⟩ := h
  exact ⟨a, v, tlT 38 ws, by simp [joinT], ha, hn (n, o) (List.mem_cons_self ..), hv, qqU r fun p hp => hn p (List.mem_cons_of_mem _ hp)⟩
inductive StWs : List (List Nat) → List (List Nat) → Prop
 | nil : StWs [] []
 | cons {s w : List Nat} {ss ws : List (List Nat)} : WrT frS s w → StWs ss ws → StWs (s :: ss) (w :: ws)
theorem StWs.snoc {s w : List Nat} (h : WrT frS s w) : ∀ {ss ws : List (List Nat)}, StWs ss ws → StWs (ss ++ [s]) (ws ++ [w])
 | _, _, .nil => .cons h .nil
 | _, _, .cons a r => .cons a (StWs.snoc h r)
theorem StWs.length : ∀ {ss ws : List (List Nat)}, StWs ss ws → ws.length = ss.length
 | _, _, .nil => rfl
 | _, _, .cons _ r => by simp [StWs.length r]
theorem sqD {e : Bool} : ∀ {ss ws : List (List Nat)}, StWs ss ws → (∀ s ∈ ss, s ≠ []) → TlW ss e (tlT 47 ws ++ if e then [47] else [])
 | _, _, .nil, _ => by cases e <;> simp [tlT] <;> constructor
 | s :: ss, _, .cons (w := w) (ws := ws) h r, hn => by
  have := TlW.more h (hn s (List.mem_cons_self ..)) (sqD (e := e) r fun p hp => hn p (List.mem_cons_of_mem _ hp))
  simpa [tlT] using this
theorem uqz {e : Bool} {ss ws : List (List Nat)} (h : StWs ss ws) (hn : ∀ s ∈ ss, s ≠ []) : StpW ss e (joinT 47 ws ++ if e && !ss.isEmpty then [47] else []) := by
 cases h with
 | nil => simp [joinT]; exact .none
 | cons h r =>
  rename_i s w ss ws
  have := StpW.some h (hn s (List.mem_cons_self ..)) (sqD (e := e) r fun p hp => hn p (List.mem_cons_of_mem _ hp))
  simpa [joinT] using this
end Wm
namespace Wm
open PySem L2
theorem mqV : (126 : Nat) ∉ frQ ∧ ∀ c ∈ frQ, c < 128 := by decide +kernel
theorem pqR : (126 : Nat) ∉ frS ∧ ∀ c ∈ frS, c < 128 := by decide +kernel
theorem sqJ : (126 : Nat) ∉ frM ∧ ∀ c ∈ frM, c < 128 := by decide +kernel
end Wm
namespace L2
open PySem PySem.Spec PyProof.Rows
section
variable {X : Cx} {pins : List (Addr × Obj)} {σ : St} {H : Hp} {s : Shared} {h' : Heap}
end
def ItW (n : Nat) (ok : Hp → Prop) (pt : Nat → Hp → List V → Prop) : It :=
 ⟨fun i H => i < n ∧ ok H, fun i H x H' => ∃ T xs, x = .ref T ∧ H T = none ∧ H' = upd H T (.tup xs) ∧ pt i H xs, fun i H => i = n ∧ ok H⟩
section
variable {σ : St} {H : Hp} {D : Ends} {g : TG} {tb : TS}
end
section
variable {prog : Program} {w : World} {A : Around} {E : Value → Shared → Prop} {s : Shared}
end
section
variable {prog : Program} {w : World} {A : Around} {E : Value → Shared → Prop} {s : Shared}
end
def ItE (K : PySem.W.Frag) (a : Addr) (xs : List V) : It := ItW xs.length (fun H => SqT K H a xs) fun i _ ys => ∃ v, xs[i]? = some v ∧ ys = [.int (i : Int), v]
section
variable {X : Cx} {K : PySem.W.Frag} {elts : List Expr} {kk : Nat} {tpos : Pos}
def iEnum (K : PySem.W.Frag) (ta : TA) : TI := fun σ H R => ta σ H fun vs H1 => ∃ a xs, vs = [.ref a] ∧ SqT K H1 a xs ∧ R (ItE K a xs) H1
variable {σ : St} {H : Hp} {D : Ends} {g : TG} {tb : TS} {aa : TA}
theorem uq0 : tFor (iEnum K aa) g tb D σ H ↔ aa σ H fun vs H1 => ∃ a xs, vs = [.ref a] ∧ SqT K H1 a xs ∧ LoopI (ItE K a xs) g tb D σ H1 := Iff.rfl
end
structure Zap (z TI TO i1 i2 l1 l2 : Addr) : Prop where
 a1 : TI ≠ z ∧ TO ≠ z ∧ i1 ≠ z ∧ i2 ≠ z ∧ l1 ≠ z ∧ l2 ≠ z
 a2 : TI ≠ TO ∧ TI ≠ i1 ∧ TI ≠ i2 ∧ TO ≠ i1 ∧ TO ≠ i2 ∧ i1 ≠ i2
 a3 : l1 ≠ TO ∧ l2 ≠ TO ∧ l1 ≠ i2 ∧ l2 ≠ i1
section
variable {prog : Program} {w : World} {A : Around} {E : Value → Shared → Prop} {s : Shared}
variable {z TI TO i1 i2 l1 l2 : Addr} {n1 n2 k : Nat} {P1 P2 : Nat → Value → Prop} {S1 S2 : Nat → Heap → Prop}
end
section
variable {prog : Program} {w : World} {A : Around} {E : Value → Shared → Prop} {s : Shared}
end
def ItZ (K : PySem.W.Frag) (a b : Addr) (xs ys : List V) : It := ItW (min xs.length ys.length) (fun H => SqT K H a xs ∧ SqT K H b ys) fun i _ vs => ∃ x y, xs[i]? = some x ∧ ys[i]? = some y ∧ vs = [x, y]
section
variable {X : Cx} {K : PySem.W.Frag} {elts : List Expr} {kk : Nat} {tpos : Pos}
def iZip (K : PySem.W.Frag) (ta : TA) : TI := fun σ H R => ta σ H fun vs H1 => ∃ a b xs ys, vs = [.ref a, .ref b] ∧ SqT K H1 a xs ∧ SqT K H1 b ys ∧ R (ItZ K a b xs ys) H1
variable {σ : St} {H : Hp} {D : Ends} {g : TG} {tb : TS} {aa : TA}
theorem vqg : tFor (iZip K aa) g tb D σ H ↔ aa σ H fun vs H1 => ∃ a b xs ys, vs = [.ref a, .ref b] ∧ SqT K H1 a xs ∧ SqT K H1 b ys ∧ LoopI (ItZ K a b xs ys) g tb D σ H1 := Iff.rfl
variable {p : Addr} {fv : St} {tt : TT} {te : TE} {Q : VK} {H1 : Hp} {fr : List Nat}
theorem qqE : tComp2 K (iZip K aa) fr tt te σ H Q ↔ aa σ H fun vs H1 => ∃ a b xs ys, vs = [.ref a, .ref b] ∧ SqT K H1 a xs ∧ SqT K H1 b ys ∧ ∀ p, H1 p = none → CompI2 K (ItZ K a b xs ys) p (frV σ fr) tt te Q H1 := Iff.rfl
end
section
variable {p : Addr} {fv : St} {tt : TT} {te : TE} {Q : VK} {H1 H : Hp} {fr : List Nat} {aa : TA} {σ : St}
theorem qqQ : tComp (iRng1 aa) fr tt te σ H Q ↔ aa σ H fun vs H1 => ∃ j : Int, vs = [.int j] ∧ -(2 ^ 62) ≤ j ∧ j < 2 ^ 62 ∧ ∀ p, H1 p = none → CompI (Itr 0 j.toNat) p (frV σ fr) tt te Q H1 := Iff.rfl
theorem nqD {n : Nat} (J : Nat → List V → Hp → Prop) (hlen : n ≤ sizeLine) (h0 : J 0 [] (upd H1 p (.lst [])))
  (he : ∀ (i : Nat) (ys : List V) (H2 : Hp) (T : VK), i < n → J i ys H2 → H2 p = some (.lst ys) → (∀ y H3, H3 p = some (.lst ys) → J (i + 1) (ys ++ [y]) (upd H3 p (.lst (ys ++ [y]))) → T y H3) → te (some (.int (0 + (i : Int))) :: fv) H2 T)
  (hQ : ∀ ys H2, J n ys H2 → H2 p = some (.lst ys) → Q (.ref p) H2) : CompI (Itr 0 n) p fv tYes te Q H1 := by
 refine ⟨fun i m ys H2 => m = n - i ∧ i ≤ n ∧ ys.length = i ∧ H2 p = some (.lst ys) ∧ J i ys H2, ⟨n, by simp, Nat.zero_le _, rfl, aqg, h0⟩, ?_⟩
 rintro i m ys H2 ⟨rfl, hi, hyl, hp2, hJ⟩
 refine ⟨hp2, ?_⟩
 by_cases hlt : i < n
 ·refine .inr ⟨hlt, by omega, fun x H3 y => ?_⟩
  obtain ⟨rfl, rfl⟩ := y
  unfold tYes
  dsimp only
  rw [if_pos rfl]
  exact he i ys _ _ hlt hJ hp2 fun y H5 hp5 hJ5 => ⟨hp5, n - (i + 1), by omega, rfl, hlt, by rw [List.length_append, hyl]; rfl, aqg, hJ5⟩
 ·have e : i = n := by omega
  subst e
  exact .inl ⟨Nat.le_refl _, hQ ys H2 hJ hp2⟩
end
end L2
namespace L2
open PySem PySem.Spec PySem.W PyProof.Rows
def SameD (h h' : Heap) : Prop := ∀ (b : Nat) (o : Obj), h.objs[b]? = some o → ∃ o', h'.objs[b]? = some o' ∧ o'.dict = o.dict
theorem SameD.refl (h : Heap) : SameD h h := fun _ o e => ⟨o, e, rfl⟩
theorem SameD.trans {a b c : Heap} (x : SameD a b) (y : SameD b c) : SameD a c := fun d o e => by
 obtain ⟨o1, e1, q1⟩ := x d o e
 obtain ⟨o2, e2, q2⟩ := y d o1 e1
 exact ⟨o2, e2, q2.trans q1⟩
theorem SameD.push (h : Heap) (o : Obj) : SameD h (h.push o) := fun b u e => by
 refine ⟨u, ?_, rfl⟩
 have hb : b < h.objs.size := (Array.getElem?_eq_some_iff.mp e).1
 show (h.objs.push o)[b]? = some u
 rw [Array.getElem?_push, if_neg (Nat.ne_of_lt hb)]
 exact e
theorem SameD.upd (h : Heap) (a : Addr) {f : Obj → Obj} (hf : ∀ o, (f o).dict = o.dict) : SameD h (h.update a f) := fun b u e => by
 show ∃ o', (h.objs.modify a f)[b]? = some o' ∧ _
 rw [Array.getElem?_modify]
 by_cases q : a = b
 ·rw [if_pos q, e]; exact ⟨f u, rfl, hf u⟩
 ·rw [if_neg q, e]; exact ⟨u, rfl, rfl⟩
theorem SameD.get {h h' : Heap} (x : SameD h h') {b : Addr} {o o' : Obj} (e : h.get? b = some o) (e' : h'.get? b = some o') : o'.dict = o.dict := by
 obtain ⟨o1, q, r⟩ := x b o (Heap.get?_some_iff.mp e).1
 have := (Heap.get?_some_iff.mp e').1
 rw [q] at this
 cases this
 exact r
def kd {α : Type} : Sem α → Prop
 | .pure _ => True
 | .raise _ => False
 | .unsupported _ => True
 | .finish _ => True
 | .rule _ k => kd (k ())
 | .at _ k => kd (k ())
 | .load _ _ k => ∀ o, kd (k o)
 | .update _ _ f k => (∀ o, (f o).dict = o.dict) ∧ kd (k ())
 | .alloc _ k => ∀ a, kd (k a)
 | .loadIfAlive _ k => ∀ o, kd (k o)
 | .point _ k => kd (k ())
 | .register _ _ => True
 | .fresh k => ∀ t, kd (k t)
 | .ask k => ∀ t, kd (k t)
 | .choose _ _ k => ∀ t, kd (k t)
 | .os _ _ _ => False
 | .call _ _ _ _ _ => False
 | .handled _ k => ∀ t, kd (k t)
 | .newGen _ _ => False
 | .genState _ _ => False
 | .resume _ _ _ _ => False
 | .yield _ _ _ _ => True
 | .stack k => ∀ t, kd (k t)
 | .fork _ _ => True
 | .thread k => ∀ t, kd (k t)
 | .await _ _ _ _ _ => True
theorem bqf {α β : Type} {m : Sem α} {f : α → Sem β} (a : kd m) (b : ∀ x, kd (f x)) : kd (m >>= f) := by
 show kd (Sem.bind m f)
 induction m with
 | pure x => exact b x
 | raise _ => exact a.elim
 | unsupported _ => exact True.intro
 | finish _ => exact True.intro
 | rule _ k ih => exact ih () a
 | «at» _ k ih => exact ih () a
 | load _ _ k ih => exact fun o => ih o (a o)
 | update _ _ g k ih => exact ⟨a.1, ih () a.2⟩
 | alloc _ k ih => exact fun o => ih o (a o)
 | loadIfAlive _ k ih => exact fun o => ih o (a o)
 | point _ k ih => exact ih () a
 | register _ k ih => exact True.intro
 | fresh k ih => exact fun o => ih o (a o)
 | ask k ih => exact fun o => ih o (a o)
 | choose _ _ k ih => exact fun o => ih o (a o)
 | os _ _ k ih => exact a.elim
 | call _ _ _ _ k ih => exact a.elim
 | handled _ k ih => exact fun o => ih o (a o)
 | newGen _ k ih => exact a.elim
 | genState _ k ih => exact a.elim
 | resume _ _ _ k ih => exact a.elim
 | yield _ _ _ k ih => exact True.intro
 | stack k ih => exact fun o => ih o (a o)
 | fork _ k ih => exact True.intro
 | thread k ih => exact fun o => ih o (a o)
 | await _ _ _ _ k ih => exact True.intro
theorem xqr {α : Type} {M : Model} {Γ : PySem.Ctx} (t : Sem α) : ∀ {Q : α → Pos → Shared → Prop} {E : Value → Pos → Shared → Prop} {p : Pos} {s : Shared}, kd t → Sem.wp M Γ t Q E p s →
  Sem.wp M Γ t (fun a p' s' => Q a p' s' ∧ SameD s.heap s'.heap) (fun _ _ _ => False) p s := by
 induction t with
 | pure x => intro Q E p s _ h; exact ⟨h, .refl _⟩
 | raise _ => intro Q E p s a h; exact a.elim
 | unsupported _ => intro Q E p s _ h; exact h.elim
 | finish _ => intro Q E p s _ h; exact h.elim
 | rule _ k ih => intro Q E p s a h; exact ih () a h
 | «at» _ k ih => intro Q E p s a h; exact ih () a h
 | load _ _ k ih => intro Q E p s a h; obtain ⟨o, e, h⟩ := h; exact ⟨o, e, ih o (a o) h⟩
 | update x _ g k ih =>
  intro Q E p s a h
  obtain ⟨e, h⟩ := h
  exact ⟨e, Sem.wp_mono M Γ (k ()) (fun _ _ _ z => ⟨z.1, (SameD.upd _ _ a.1).trans z.2⟩) (fun _ _ _ z => z) _ _ (ih () a.2 h)⟩
 | alloc o k ih => intro Q E p s a h; exact Sem.wp_mono M Γ (k _) (fun _ _ _ z => ⟨z.1, (SameD.push _ _).trans z.2⟩) (fun _ _ _ z => z) _ _ (ih _ (a _) h)
 | loadIfAlive _ k ih => intro Q E p s a h; exact ih _ (a _) h
 | point _ k ih => intro Q E p s a h; exact ih () a h
 | register _ k ih => intro Q E p s _ h; exact h.elim
 | fresh k ih => intro Q E p s a h; exact ih _ (a _) h
 | ask k ih => intro Q E p s a h; exact ih _ (a _) h
 | choose _ _ k ih => intro Q E p s a h; exact ⟨h.1, ih _ (a _) h.2⟩
 | os _ _ k ih => intro Q E p s a h; exact a.elim
 | call _ _ _ _ k ih => intro Q E p s a h; exact a.elim
 | handled _ k ih => intro Q E p s a h; exact ih _ (a _) h
 | newGen _ k ih => intro Q E p s a h; exact a.elim
 | genState _ k ih => intro Q E p s a h; exact a.elim
 | resume _ _ _ k ih => intro Q E p s a h; exact a.elim
 | yield _ _ _ k ih => intro Q E p s a h; exact h.elim
 | stack k ih => intro Q E p s a h; exact ih _ (a _) h
 | fork _ k ih => intro Q E p s a h; exact h.elim
 | thread k ih => intro Q E p s a h; exact ih _ (a _) h
 | await _ _ _ _ k ih => intro Q E p s a h; exact h.elim
theorem iqs {α : Type} {M : Model} {A : Around} {t : Sem α} {Q : α → Shared → Prop} {E : Value → Shared → Prop} {s : Shared} (k : kd t) (h : wpAny M A t Q E s) : wpAny M A t (fun a s' => Q a s' ∧ SameD s.heap s'.heap) (fun _ _ => False) s :=
 fun Γ p hΓ => xqr t k (h Γ p hΓ)
theorem nqP (v : Value) : kd (fieldsOf v) := by
 cases v <;> first | exact True.intro | (refine bqf (fun _ => True.intro) fun o => ?_; split <;> exact True.intro)
theorem jqv (v : Value) (i : Nat) : kd (field v i) := by
 refine bqf (nqP v) fun x => ?_
 split <;> exact True.intro
theorem hqv (v : Value) (i : Nat) (x : Value) : kd (setField v i x) := by
 cases v <;> first | exact True.intro | skip
 refine bqf (fun _ => True.intro) fun o => ?_
 split
 ·split
  ·refine ⟨fun o => ?_, True.intro⟩
   unfold Obj.mapFields
   first | rfl | (split <;> rfl) | (cases o; rename_i d _; cases d <;> rfl)
  ·exact True.intro
 ·exact True.intro
theorem gqf (e : Value) (f : Option Addr) : kd (setFlight e f) := by
 refine bqf (jqv e 1) fun tb => ?_
 try dsimp only
 split
 ·exact hqv _ _ _
 ·exact True.intro
theorem hqf : ∀ l : List Env, kd (readyFrames l)
 | [] => True.intro
 | env :: outer => by
  unfold readyFrames
  split
  ·refine bqf (fun _ => True.intro) fun o => ?_
   try dsimp only
   split
   ·exact True.intro
   ·refine bqf ?_ fun im => ?_
    ·unfold behindIsImport
     try dsimp only
     split
     ·exact True.intro
     ·split
      ·exact True.intro
      ·exact bqf (jqv _ _) fun _ => True.intro
    ·refine bqf ?_ fun bk => ?_
     ·unfold keptBack
      split
      ·split
       ·exact True.intro
       ·exact bqf (bqf (fun _ => True.intro) fun _ => True.intro) fun _ => by split <;> exact True.intro
      ·exact True.intro
     ·exact bqf ⟨fun _ => rfl, True.intro⟩ fun _ => hqf outer
  ·exact True.intro
theorem oq2 (env : Env) : kd (PySem.frameOf env) := by
 unfold PySem.frameOf
 refine bqf (bqf (fun _ => True.intro) fun _ => True.intro) fun l => bqf ?_ fun r => ?_
 ·unfold frameObject
  split
  ·exact True.intro
  ·exact bqf (hqf _) fun _ => True.intro
 ·split <;> exact True.intro
theorem nqq (ty : String) (vs : List Value) : kd (newFields ty vs) := by
 unfold newFields newObj newObjAsIs
 try dsimp only
 split
 ·exact True.intro
 ·exact fun _ => True.intro
theorem iq6 (e : Value) (env : Env) : kd (noteFrame e env) := by
 unfold noteFrame
 split
 ·refine bqf (jqv e 1) fun hd => ?_
  try dsimp only
  have rest : ∀ (x : Unit) (f : Addr) (hd : Value), kd (do setField e 1 (← EntryCells.newEntry hd (← PySem.frameOf env) .none (rawInt f) .none (← entryPlaceOf f (hd != .none))) : Sem Unit) := fun _ f hd => by
   refine bqf (oq2 env) fun _ => bqf ?_ fun _ => bqf ?_ fun _ => hqv _ _ _
   ·unfold entryPlaceOf
    refine bqf (fun _ => True.intro) fun acts => ?_
    split <;> exact True.intro
   ·unfold EntryCells.newEntry
    exact nqq _ _
  split
  ·refine bqf (jqv _ _) fun g => ?_
   try dsimp only
   split
   ·exact True.intro
   ·exact bqf (hqv _ _ _) fun _ => rest () _ _
  ·exact rest () _ _
 ·exact True.intro
theorem lqb (env : Env) (e : Value) : kd (leaving env e) := bqf (iq6 e env) fun _ => gqf e none
end L2
namespace L2
open PySem PySem.Spec PySem.W PySem.Calls PyProof.Rows PySem.Builtin PySem.Builtin.ObjectAttr
def errTail : List Value → Bool
 | .ref _ :: r => errTail r
 | l => l == vErr
theorem kq7 (self : Value) : ∀ {l : List Value}, errTail l = true → refuseLoop self "__setattr__" l = pure ()
 | [], e => by cases e
 | v :: r, e => by
  cases v <;> first | (rw [refuseLoop_ref]; exact kq7 self (by unfold errTail at e; exact e)) | (rw [show (_ :: r) = vErr from beq_iff_eq.mp e]; exact PySem.F.store_ValueError.passes self)
theorem qqY : ∀ {l : List Value}, errTail l = true → l.contains (.type "object") = true
 | [], e => by cases e
 | v :: r, e => by
  cases v <;> first | (rw [List.contains_cons, qqY (l := r) (by unfold errTail at e; exact e), Bool.or_true]) | (rw [show (_ :: r) = vErr from beq_iff_eq.mp e]; decide +kernel)
def overErr (K : Frag) (C : Addr) : Bool := (clsIn K C).any fun cd => errTail cd.mro
section
variable {prog : Program} {w : World} {A : Around} {E : Value → Shared → Prop} {s : Shared} {K : Frag} {x C : Addr} {name : Str} {v : Value} {ox : Obj} {od : Option Obj}
theorem tqz {tk : Tok} {R : Result → Shared → Prop} (X : K.In s.heap) (I : PySem.W.InstAt s.heap x ox C od) (hp : overErr K C = true) (ht : takerIn K C name = some none)
  (h : ∀ b, wpAny (model prog w) A.in1 (storeInOwnDict (.ref x) (.ref C) (.str name tk) name v b)
   (fun fin s' => match fin with | .done f => R (.ok f) s' | .again c' => c'.quiet = true ∧ codeAny (model prog w) A c' R s') (fun e s' => R (.error e) s') s) :
  codeAny (model prog w) A (.call (.builtin "object.__setattr__") ⟨[.ref x, .str name tk, v], []⟩) R s := by
 have SF := PySem.F.store_object
 obtain ⟨cd, hc, ho⟩ := any_some hp
 have ne : cd.mro.isEmpty = false := by cases q : cd.mro with | nil => rw [q] at ho; cases ho | cons _ _ => rfl
 have sub : Looks (model prog w) s.heap (isInstance (.ref x) (.type "object")) true := I.type.andThen (looks_mroIn X (by unfold mroIn; rw [hc, Option.bind_some, if_neg (by rw [ne]; decide), qqY ho]))
 refine codeAny_call_builtin SF.slot.plain SF.entry (@check_slot (model prog w) _ _ s "object.__setattr__" "object" "__setattr__" (.ref x) [.str name tk, v] [] _ SF.kind SF.split sub (SF.args (.ref x) (.str name tk) v) ?_)
 obtain ⟨attr, ha, hr⟩ := Option.bind_eq_some_iff.mp ht
 have hm : Looks (model prog w) s.heap (mroOf (.ref C)) cd.mro := (looks_clsIn X hc).andThen .now
 have L3 : Looks (model prog w) s.heap (storeTaker? attr) none := by
  cases attr with
  | none => exact .now
  | some a =>
   obtain ⟨b, hb, hbn⟩ := Option.map_eq_some_iff.mp hr
   refine (looks_takesIn X hb).andThen ?_
   cases b with
   | true => cases hbn
   | false => exact .now
 rw [osa_eq, refuse_eq]
 refine wpAny_bind (wpAny_bind (I.type.here (wpAny_bind (hm.here ?_))))
 rw [kq7 _ ho]
 refine wpAny_pure (wpAny_bind (I.type.here (wpAny_bind ((looks_findIn X ha).here (wpAny_bind (L3.here ?_))))))
 exact h _
theorem tqL {Q : Unit → Shared → Prop} (X : K.In s.heap) (hx : s.heap.get? x = some ox) (hc : ox.cls = .ref C) (hd : ox.dict = none) (hn : notCls ox = true)
  (hs : findIn K (.ref C) "__setattr__" = some (some (.builtin "object.__setattr__"))) (hp : overErr K C = true) (ht : takerIn K C name = some none) (hh : hasDictIn K C = true)
  (h : ∀ h' tk, h'.get? x = some { ox with dict := some s.heap.objs.size } → h'.Ns1 s.heap.objs.size (fun y => if y = name then some v else none) → (∀ b o, b ≠ x → s.heap.get? b = some o → h'.get? b = some o) → Q () { s with heap := h', toks := tk }) :
  wpAny (model prog w) A (setAttr (.ref x) name v) Q E s := by
 have J : PySem.W.InstAt s.heap x ox C none := ⟨hx, hc, hn, by rw [hd]; exact True.intro⟩
 refine PySem.W.set_plain X J hs (tqz (s := { s with toks := s.toks + 1 }) X J hp ht fun b => ?_)
 obtain ⟨cd, hcd, hd'⟩ := any_some hh
 obtain ⟨oc, odi, oda, osl⟩ := ox
 dsimp only at hc hd
 subst hc hd
 refine wpAny_bind (wpAny_pure (wpAny_bind (wpAny_bind (wpAny_loadPart hx (wpAny_bind (Looks.here (s := { s with toks := s.toks + 1 }) (looks_clsIn X hcd) ?_))))))
 rw [hd']
 have nc : ∀ c, oda ≠ .cls c := fun c q => by subst q; cases hn
 have hx₁ : (s.heap.push { cls := .type "dict", data := .dict #[] }).get? x = some ⟨.ref C, none, oda, osl⟩ := Heap.get?_push_of_some _ hx
 have hxs : x ≠ s.heap.objs.size := Nat.ne_of_lt (Heap.lt_size hx)
 have hgd : ((s.heap.push { cls := .type "dict", data := .dict #[] }).update x fun o => { o with dict := some s.heap.objs.size }).get? s.heap.objs.size = some { cls := .type "dict", data := .dict #[] } :=
  (Heap.get?_update_ne _ _ _ _ hxs.symm).trans (Heap.get?_push_at rfl rfl)
 have hnd : ((s.heap.push { cls := .type "dict", data := .dict #[] }).update x fun o => { o with dict := some s.heap.objs.size }).Ns s.heap.objs.size (fun _ => none) :=
  ⟨_, #[], _, hgd, rfl, fun e he => absurd he (by simp), fun _ => rfl⟩
 have fin : wpAny (model prog w) A.in1 (storeInDict s.heap.objs.size (.str name (s.toks)) name v)
   (fun fin s' => match fin with | .done f => (match (Except.ok f : Result) with | .ok (.ret _) => Q () s' | .ok _ => False | .error e => E e s') | .again c' => c'.quiet = true ∧ codeAny (model prog w) A c' (fun r s' => match r with | .ok (.ret _) => Q () s' | .ok _ => False | .error e => E e s') s') (fun e s' => E e s')
   { s with heap := ((s.heap.push { cls := .type "dict", data := .dict #[] }).update x fun o => { o with dict := some s.heap.objs.size }), toks := s.toks + 1 } := by
  unfold storeInDict newKeyGuard
  refine wpAny_bind (wpAny_pure (wpAny_bind (wpAny_nsSet1 (s := { s with heap := ((s.heap.push { cls := .type "dict", data := .dict #[] }).update x fun o => { o with dict := some s.heap.objs.size }), toks := s.toks + 1 }) (Heap.Ns1.of_empty hnd) fun h' hn' hs' => ?_)))
  obtain ⟨oD, esD, epD, hoD, hdD, hcD⟩ := hn'.count (Within.cons name v Within.nil)
  refine wpAny_bind (wpAny_lookBehind hoD (by rw [hdD]; exact pastItsLine_dict (Nat.le_trans hcD (by rw [List.length_cons, List.length_nil, sizeLine_eq]; omega))) ?_)
  refine wpAny_pure (h h' _ ?_ hn' fun b o hb e => ?_)
  ·refine (hs'.2 x hxs).trans (Heap.get?_update_self _ hx₁ ?_)
   have hfr := (Heap.get?_some_iff.mp hx).2
   cases oda <;> first | rfl | exact hfr
  ·exact (hs'.2 b (Nat.ne_of_lt (Heap.lt_size e))).trans ((Heap.get?_update_ne _ _ _ _ hb).trans (Heap.get?_push_of_some _ e))
 cases oda <;> first | exact absurd rfl (nc _) | exact wpAny_bind (wpAny_alloc' (wpAny_bind (wpAny_update' hx₁ (wpAny_pure fin))))
end
end L2
namespace L2
open PySem PySem.Spec PySem.W PySem.Calls PyProof.Rows
def excInI (K : Frag) (C : Addr) (bmB : List Value) (newId : String) (fI : Addr) : Bool := match K.lookup C with
 | some ⟨.type "type", _, .cls cd, sl⟩ => (match cd.mro, sl.toList with
  | .ref C' :: bm, [_, _, _, _, some (.builtin n), _] => C' == C && n == newId && !cd.hasDel && tailIn K bmB bm && nsOkIn K cd.ns && nsIn K cd.ns "__init__" == some (some (.ref fI))
  | _, _ => false)
 | _ => false
theorem uqU {K : Frag} {h : Heap} {N : Addr} {m : Str → Option Value} {n : Str} {v : Value} (X : K.In h) (G : h.Ns N m) (e : nsIn K N n = some (some v)) : m n = some v := by
 obtain ⟨o, es, ep, ho, hd, _, hf⟩ := G
 unfold nsIn at e
 split at e
 ·next q =>
  have := X _ _ q
  rw [ho] at this
  cases this
  cases hd
  split at e
  ·next he =>
   cases e
   rw [← hf]
   unfold nsFind findBy
   rw [← Array.find?_toList, he]
   rfl
  ·split at e <;> cases e
 ·cases e
theorem excObjI {K : Frag} {h : Heap} {C fI : Addr} {bb : List Value} {nid : String} (kin : K.In h) (q : excInI K C bb nid fI = true) :
  ∃ tl N nm qn bs hd sn sub ab col dd k0 k1 k2 k3 k5, h.get? C = some (excClassObj nm qn C N bs tl hd sn sub ab col dd k0 k1 k2 k3 k5 nid) ∧ (∃ mN, h.Ns N mN ∧ mN "__init__" = some (.ref fI)) ∧ OwnTail h bb tl := by
 unfold excInI at q
 split at q
 ·next dd cd sl lk =>
  split at q
  ·next C2 tl a0 a1 a2 a3 nn a5 hmro hsl =>
   simp only [beq_iff_eq, Bool.and_eq_true, Bool.not_eq_true'] at q
   obtain ⟨⟨⟨⟨⟨e1, e2⟩, e3⟩, e4⟩, e5⟩, e6⟩ := q
   subst e1 e2
   obtain ⟨nm, bs, mro, ns, qn, hd, sn, sub, ab, col, del⟩ := cd
   simp only at hmro e3 e5 e6
   subst hmro e3
   obtain rfl : sl = #[a0, a1, a2, a3, some (.builtin nn), a5] := by
    obtain ⟨l⟩ := sl
    exact congrArg Array.mk hsl
   exact ⟨tl, ns, nm, qn, bs, hd, sn, sub, ab, col, dd, a0, a1, a2, a3, a5, kin _ _ lk, ⟨_, .of_isNs (isNs_of_in kin e5), uqU kin (.of_isNs (isNs_of_in kin e5)) e6⟩, tail_of_in kin e4⟩
  ·cases q
 ·cases q
abbrev newExc (C t : Addr) : Obj := { cls := .ref C, data := .fields #[.ref t, .none, .none, .none, .bool false, .none] }
abbrev newTup (vs : List Value) : Obj := { cls := .type "tuple", data := .seq vs.toArray }
section
variable {prog : Program} {w : World} {A : Around} {E : Value → Shared → Prop} {h : Heap} {g : Array GenState} {d : Drawn} {t : Nat} {os : OsState}
variable {nm q : Str} {C N : Addr} {bs bm bmB : List Value} {hdct : Bool} {sn : List Str} {sub : List Value} {ab : Bool} {col : Option Bool} {dd : Option Addr} {k0 k1 k2 k3 k5 : Option Value} {B newId initId : String}
theorem kqD (F : ExcBaseFacts B newId initId bmB) (T : OwnTail h bmB bm) {mN : Str → Option Value} {rest : List Value} {fI : Addr} {oI : Obj} {Q : Fin → Shared → Prop}
  (hC : h.get? C = some (excClassObj nm q C N bs bm hdct sn sub ab col dd k0 k1 k2 k3 k5 newId)) (hn : h.Ns N mN) (hi : mN "__init__" = some (.ref fI))
  (hfI : h.get? fI = some oI) (hfc : oI.cls = .type "function")
  (hq : wpAny (model prog w) A (call (.ref fI) (.ref (h.objs.size + 1) :: rest)) (fun r s' => r = .none ∧ Q (.done (.ret (.ref (h.objs.size + 1)))) s') E ⟨(h.push (newTup rest)).push (newExc C h.objs.size), g, d, t, os⟩) (hrest : rest.length ≤ sizeLine) :
  wpAny (model prog w) A (Builtin.«type.__call__» ⟨.ref C :: rest, []⟩) Q E ⟨h, g, d, t, os⟩ := by
 repeat (first | with_reducible refine wpAny_loadPart_at hC ?_ | with_reducible refine wpAny_madeBy_exc hC ?_ | wp_step)
 refine codeAny_call_builtin_code (Code.quiet_builtin _ F.quiet) (wpAny_check_new_subU F F.hasB T hC ?_)
 refine codeAny_exc_new_subU F F.hasB F T hC ?_ hrest
 show wpAny _ _ _ _ _ _
 have kp : ∀ b o, h.get? b = some o → ((h.push (newTup rest)).push (newExc C h.objs.size)).get? b = some o := fun b o e => Heap.get?_push_of_some _ (Heap.get?_push_of_some _ e)
 have hC₁ := kp _ _ hC
 have hfI₁ := kp _ _ hfI
 have hn₁ : ((h.push (newTup rest)).push (newExc C h.objs.size)).Ns N mN := hn.keeps kp
 have hget : ((h.push (newTup rest)).push (newExc C h.objs.size)).get? (h.objs.size + 1) = some (newExc C h.objs.size) := by heap_get
 have hcC : (Value.ref C :: bm).contains (.ref C) = true := by simp
 have T₁ := T.keeps kp
 unfold isInstance
 repeat (first | with_reducible refine wpAny_loadPart_at hget ?_ | (with_reducible refine wpAny_isSubtype_exc hC₁ ?_; rw [hcC]) | wp_step)
 show wpAny _ _ (typeLookup (.ref C) _) _ _ _
 refine wpAny_typeLookup_tail hC₁ hn₁ T₁ F.mroIs F.init.lookup ?_
 rw [hi]
 refine wpAny_holding (wpAny_bind ?_)
 unfold bindSpecial
 refine wpAny_bind (wpAny_typeOf (T := "function") ⟨_, hfI₁, hfc⟩ ?_)
 rw [if_pos (by decide)]
 refine wpAny_pure (wpAny_bind (wpAny_mono hq (fun r s' hr => ?_) fun _ _ x => x))
 obtain ⟨rfl, hQ⟩ := hr
 wp_walk
 exact hQ
theorem qqk (F : ExcBaseFacts B newId initId bmB) (T : OwnTail h bmB bm) {mN : Str → Option Value} {rest : List Value} {fI : Addr} {oI : Obj} {Q : Value → Shared → Prop}
  (hC : h.get? C = some (excClassObj nm q C N bs bm hdct sn sub ab col dd k0 k1 k2 k3 k5 newId)) (hn : h.Ns N mN) (hi : mN "__init__" = some (.ref fI))
  (hfI : h.get? fI = some oI) (hfc : oI.cls = .type "function")
  (hq : wpAny (model prog w) (A.under (.builtin "type.__call__" ⟨.ref C :: rest, []⟩)) (call (.ref fI) (.ref (h.objs.size + 1) :: rest)) (fun r s' => r = .none ∧ Q (.ref (h.objs.size + 1)) s') E ⟨(h.push (newTup rest)).push (newExc C h.objs.size), g, d, t, os⟩) (hrest : rest.length ≤ sizeLine) :
  wpAny (model prog w) A (call (.ref C) rest) Q E ⟨h, g, d, t, os⟩ := by
 have f1 := tc_lookup
 have f2 := tc_bind (.ref C)
 have hT : (⟨h, g, d, t, os⟩ : Shared).TypeIs (.ref C) "type" := ⟨_, hC, rfl⟩
 refine wpAny_call (codeAny_of_tree ?_)
 show wpAny _ _ (callAny (.ref C) _) _ _ _
 repeat (any_goals (first | assumption | with_reducible refine wpAny_loadPart_at hC ?_ | wp_step))
 refine ⟨rfl, ?_⟩
 exact codeAny_call_builtin_at (Code.quiet_builtin _ (by decide +kernel)) entry_typeCall (wpAny_check_type_call_sub hC (kqD (hrest := hrest) F T hC hn hi hfI hfc hq))
theorem lq7 {M : Model} {s : Shared} {env : Env} {x : Sem Value} {Q : Flow → Shared → Prop} (hbase : bm.contains (.type "BaseException") = true) (hh : A.handled = none)
  (h : wpAny M A x (fun v s₁ => ∃ e t dx sl, v = .ref e ∧ s₁.heap.get? C = some (excClassObj nm q C N bs bm hdct sn sub ab col dd k0 k1 k2 k3 k5 newId) ∧
   s₁.heap.get? e = some ⟨.ref C, dx, .fields #[.ref t, .none, .none, .none, .bool false, .none], sl⟩ ∧ E (.ref e) s₁) E s) :
  wpAny M A (raiseStmt env (some x) none) Q E s := by
 have hcB : (Value.ref C :: bm).contains (.type "BaseException") = true := by rw [List.contains_cons, hbase, Bool.or_true]
 unfold raiseStmt
 refine wpAny_bind (wpAny_mono h (fun v s₁ h₁ => ?_) fun _ _ x => x)
 obtain ⟨e, t, dx, sl, rfl, hC, he, hE⟩ := h₁
 obtain ⟨hp, g, d, tk, os⟩ := s₁
 repeat (first | with_reducible refine wpAny_loadPart_at he ?_ | with_reducible refine wpAny_loadPart_at hC ?_ | (with_reducible refine wpAny_isSubtype_exc hC ?_; rw [hcB]) | wp_step)
 exact wpAny_raiseNew_none hh hE
end
end L2
namespace L2
open PySem PySem.Spec PySem.W PySem.Calls PyProof.Rows
def exNew (e C : Addr) : HO := .ext fun h => ∃ t sl, h.get? e = some ⟨.ref C, none, .fields #[.ref t, .none, .none, .none, .bool false, .none], sl⟩
def exSet (e C d : Addr) : HO := .ext fun h => ∃ t sl, h.get? e = some ⟨.ref C, some d, .fields #[.ref t, .none, .none, .none, .bool false, .none], sl⟩
def exC (a C : Addr) (d : Option Addr) : HO := .ext fun h => ∃ o, h.get? a = some o ∧ o.cls = .ref C ∧ (∀ x, d = some x → o.dict = some x) ∧ notCls o = true
structure ExSt (K : Frag) (C : Addr) (f : Str) : Prop where
 sa : findIn K (.ref C) "__setattr__" = some (some (.builtin "object.__setattr__"))
 po : overErr K C = true
 na : findIn K (.ref C) f = some none
 hd : hasDictIn K C = true
def sFldE (K : Frag) (ta tv : TE) (f : Str) : TS := fun D σ H => tv σ H fun y H1 => ta σ H1 fun x H2 => ∃ a C, x = .ref a ∧ H2 a = some (exNew a C) ∧ ExSt K C f ∧ ∀ d, H2 d = none → D.nx σ (upd (upd H2 a (exSet a C d)) d (.xd [(f, y)]))
section
variable {X : Cx} {ta tv : TE} {o value : Expr} {f : Str} {pos pos' : Pos}
theorem uqk (ha : PE X o ta) (hv : PE X value tv) (hs : swapsWith value (some (.Attribute o f pos')) pos.line X.env = pure false) : PS X (.Assign [.Attribute o f pos'] value pos) (sFldE X.K ta tv f) := by
 intro pins s σ H D I h
 refine plainObj_wpAny_Assign_Attribute (thn (hv pins s σ H _ I h) fun u s1 ⟨y, H1, I1, ry, q⟩ => thn (ha pins s1 σ H1 _ I1 q) fun ov s2 ⟨x, H2, I2, rx, a, C, ex, ea, c, q2⟩ => ?_) hs
 subst ex
 obtain rfl : ov = Value.ref a := rx
 obtain ⟨⟨t, sl, hx⟩, _, _⟩ := I2.hok a _ ea
 refine tqL I2.kIn hx rfl rfl rfl c.sa c.po (NoAttr.taker (show NoAttr X.K C f from c.na)) c.hd fun h' tk e1 e2 e3 => ?_
 have hd : H2 s2.heap.objs.size = none := I2.hok.fresh (Nat.le_refl _)
 have na : ∀ b u, H2 b = some u → u ≠ exNew a C → b ≠ a := fun b u q n z => by subst z; rw [ea] at q; exact n (Option.some.inj q).symm
 have nd : ∀ b u, s2.heap.get? b = some u → b ≠ s2.heap.objs.size := fun b u q => Nat.ne_of_lt (Heap.lt_size q)
 have nf : ∀ b, H2 b = none → b ≠ a := fun b q z => by subst z; rw [ea] at q; cases q
 have ndh : ∀ b u, H2 b = some u → b ≠ s2.heap.objs.size := fun b u q => aql q hd
 refine ⟨σ, upd (upd H2 a (exSet a C s2.heap.objs.size)) s2.heap.objs.size (.xd [(f, y)]), I2.un (t' := tk) ⟨fun b ob q n _ _ => e3 b ob (nf b n) q, fun b ob q n _ _ => ⟨ob.slots, e3 b ob (nf b n) q⟩, fun b ob q n _ => ?_, fun b ob q _ => ?_, fun b xs q => ?_, fun b ob u q => ?_, fun b ps q => ?_⟩ (fun b u q => ?_), q2 _ hd⟩
 ·rw [aqv (nd b ob q), aqv (nf b n)]; exact n
 ·by_cases z : b = a
  ·subst z; exact ⟨_, e1⟩
  ·exact ⟨ob, e3 b ob z q⟩
 ·rw [aqv (ndh b _ q), aqv (na b _ q (by intro z; cases z))]; exact q
 ·rw [aqv (ndh b _ q), aqv (na b _ q (by intro z; cases z))]; exact q
 ·exact ⟨#[], by rw [aqv (ndh b _ q), aqv (na b _ q (by intro z; cases z)), Array.append_empty]; exact q⟩
 ·by_cases zd : b = s2.heap.objs.size
  ·subst zd
   rw [aqg] at q
   cases q
   refine ⟨_, e2, fun g => ?_⟩
   by_cases z : g = f
   ·subst z
    rw [if_pos rfl]
    simp only [List.lookup, beq_self_eq_true]
    exact ry
   ·rw [if_neg z]
    simp only [List.lookup, beq_eq_false_iff_ne.mpr z]
    exact True.intro
  ·rw [aqv zd] at q
   by_cases za : b = a
   ·subst za
    rw [aqg] at q
    cases q
    exact ⟨⟨t, sl, e1⟩, ⟨_, e1⟩, fun h1 h2 ⟨t, sl, z⟩ k => ⟨t, sl, k _ z⟩⟩
   ·rw [aqv za] at q
    refine (I2.hok b u q).stay (fun c v hc z => e3 c v ?_ z) (fun c z => ?_) fun c xs z => ?_
    ·rcases hc with rfl | hc
     ·exact za
     ·exact na c _ hc (by intro z; cases z)
    ·rw [aqv (ndh c _ z), aqv (na c _ z (by intro z; cases z))]; exact z
    ·rw [aqv (ndh c _ z), aqv (na c _ z (by intro z; cases z))]; exact z
theorem uq4 {K : Frag} {D : Ends} {σ : St} {H : Hp} : sFldE K ta tv f D σ H ↔ tv σ H fun y H1 => ta σ H1 fun x H2 => ∃ a C, x = .ref a ∧ H2 a = some (exNew a C) ∧ ExSt K C f ∧ ∀ d, H2 d = none → D.nx σ (upd (upd H2 a (exSet a C d)) d (.xd [(f, y)])) := Iff.rfl
end
end L2
namespace L2
open PySem PySem.Spec PySem.W PySem.Calls PyProof.Rows
def forget (H : Hp) (a : Addr) : Hp := fun b => if b = a then none else H b
theorem nqw {H : Hp} {a : Addr} : forget H a a = none := if_pos rfl
theorem cqR {H : Hp} {a b : Addr} (h : b ≠ a) : forget H a b = H b := if_neg h
structure FlownN (P : Program) (w : World) (base : Heap) (outer : List Env) (H : Hp) (s : Shared) (a t C : Addr) (d : Option Addr) (B : Heap) (H' : Hp) (s' : Shared) : Prop where
 f : Flown P w base outer H s a t C B H' s'
 dc : ∀ x, d = some x → ∃ oe, s'.heap.get? a = some oe ∧ oe.dict = some x
def CXN (P : Program) (w : World) (base : Heap) : CXT := fun outer H s E e s' => ∃ (a t C : Addr) (d : Option Addr) (B : Heap) (H' : Hp), e = .ref a ∧ E (.ref C) d H' ∧ FlownN P w base outer H s a t C d B H' s'
theorem Inv.xe {X : Cx} {pins : List (Addr × Obj)} {σ : St} {H : Hp} {s : Shared} (y : Value → Shared → Prop) (I : Inv X pins σ H s) : Inv { X with xe := y } pins σ H s :=
 ⟨⟨I.ok.mod, I.ok.kind, I.ok.glob, I.ok.blt, I.ok.above, I.ok.inj, I.ok.has, I.ok.cab, I.ok.hd, I.ok.frames, I.ok.stk, I.ok.exf, I.ok.bs, I.ok.bsz, I.ok.noex, I.ok.exfs, I.ok.funs, I.ok.frf⟩, I.os, I.bare, I.base, I.loc, I.cell, I.free, I.freeC, I.pin, I.hok, I.len⟩
section
variable {P : Program} {w : World} {K : Frag} {mg : Str → Option Value} {base : Heap} {N : List Str} {qual : Str} {scope : Scope} {f : Addr} {cd : Value} {A : Around} {outer : List Env} {s : Shared} {H : Hp} {E : XK}
theorem aqR : Passes (CXN P w base) (cxOf (CXN P w base) P w K mg base N qual scope f cd A outer s H E) E := by
 intro pins σ H1 s1 e s2 I hq
 obtain ⟨a, t, C, d, B, H2, rfl, hE, W⟩ := hq
 have I' : Inv (cxOf (CXE P w base) P w K mg base N qual scope f cd A outer s H fun c _ H' => E c d H') pins σ H1 s1 := I.xe _
 have z := pq2 (E := fun c _ H' => E c d H') pins σ H1 s1 (.ref a) s2 I' ⟨a, t, C, B, H2, rfl, hE, W.f⟩
 refine wpAny_mono (iqs (lqb _ _) z) (fun _ s3 ⟨⟨a', t', C', B', H', ea, hE', W'⟩, sd⟩ => ?_) fun _ _ z => z.elim
 cases ea
 refine ⟨a, t', C', d, B', H', rfl, hE', W', fun x hx => ?_⟩
 obtain ⟨oe, ho, hd⟩ := W.dc x hx
 obtain ⟨ob, hob, _⟩ := W'.fly.there
 exact ⟨ob, hob, (sd.get ho hob).trans hd⟩
def Raises1 (X : Cx) (E : XK) : Prop := ∀ (pins : List (Addr × Obj)) (σ : St) (H : Hp) (s : Shared) (a C d : Addr), Inv X pins σ H s → H a = some (exSet a C d) → X.s₀.heap.objs.size ≤ a → E (.ref C) (some d) (forget H a) → X.xe (.ref a) s
theorem eqh : Raises1 (cxOf (CXN P w base) P w K mg base N qual scope f cd A outer s H E) E := by
 intro pins σ H1 s1 e C d I ha hsz hE
 have hf : (envOfC qual scope s.heap.objs.size f cd).frame = some s.heap.objs.size := rfl
 have stk : s1.heap.FunFrames base (envOfC qual scope s.heap.objs.size f cd :: outer) := I.stack
 have stf : ∀ b ∈ frs (envOfC qual scope s.heap.objs.size f cd :: outer), H1 b = none := I.stkFree
 have ib : Un (frs outer) [] H H1 s.heap s1.heap := I.base
 obtain ⟨⟨t, sl, he⟩, _, _⟩ := I.hok e _ ha
 have hsz' : s.heap.objs.size ≤ e := hsz
 have nde : ∀ b o, s.heap.get? b = some o → b ≠ e := fun b o q => Nat.ne_of_lt (Nat.lt_of_lt_of_le (Heap.lt_size q) hsz')
 have ne : ∀ b o, s.heap.get? b = some o → b ∉ frs outer → b ∉ e :: frs (envOfC qual scope s.heap.objs.size f cd :: outer) := fun b o q n z => by
  rcases List.mem_cons.mp z with z | z
  ·exact nde b o q z
  ·rcases (hqC hf).mp z with z | z
   ·exact absurd (Heap.lt_size q) (by rw [z]; exact Nat.lt_irrefl _)
   ·exact n z
 have eN : e ∉ frs (envOfC qual scope s.heap.objs.size f cd :: outer) := fun z => by rw [stf e z] at ha; cases ha
 show wpAny (model P w) (A.deeper (envOfC qual scope s.heap.objs.size f cd)) (leaving (envOfC qual scope s.heap.objs.size f cd) (.ref e)) _ _ _
 have kB : Heap.StaysIn (hideAll s1.heap (e :: frs (envOfC qual scope s.heap.objs.size f cd :: outer))) s1.heap := fun b o q => of_hideAll _ q
 refine wpAny_mono (iqs (lqb _ _) (wpAny_leaving_firstW (E := fun _ _ => False) (Q := fun _ s3 => ∃ h', s3 = { s1 with heap := h' } ∧ Heap.LeftW (hideAll s1.heap (e :: frs (envOfC qual scope s.heap.objs.size f cd :: outer))) (envOfC qual scope s.heap.objs.size f cd :: outer) e (.ref C) (.ref t) s1.heap h')
  (base := hideAll s1.heap (e :: frs (envOfC qual scope s.heap.objs.size f cd :: outer))) (oe := ⟨.ref C, some d, .fields #[.ref t, .none, .none, .none, .bool false, .none], sl⟩) (a0 := .ref t) I.ok.frames
  (funFrames_hide stk fun env he b hb => List.mem_cons_of_mem _ (List.mem_filterMap.mpr ⟨env, he, hb⟩)) hf he kB (hideAll_none _ (.head _)) rfl rfl rfl fun h' L => ⟨h', rfl, L⟩)) (fun _ s3 ⟨⟨h2, es3, L⟩, sd⟩ => ?_) fun _ _ z => z.elim
 subst es3
 obtain ⟨x1, ⟨_, _, x2⟩, x3, x4⟩ := L
 have keepB : ∀ b o, s.heap.get? b = some o → H b = none → b ∉ frs outer → (hideAll s1.heap (e :: frs (envOfC qual scope s.heap.objs.size f cd :: outer))).get? b = some o := fun b o q n nf =>
  hideAll_get _ (ib.keep b o q n nf (by simp)) (ne b o q nf)
 have thB : ∀ b o, s.heap.get? b = some o → b ∉ frs outer → ∃ o', (hideAll s1.heap (e :: frs (envOfC qual scope s.heap.objs.size f cd :: outer))).get? b = some o' := fun b o q nf => by
  obtain ⟨o', z⟩ := ib.there b o q (by simp)
  exact ⟨o', hideAll_get _ z (ne b o q nf)⟩
 have slotF : ∀ b, b ∈ frs outer → ∀ o, s1.heap.get? b = some o → ∃ sl, h2.get? b = some { o with slots := sl } := fun b hb o q => by
  obtain ⟨_, o2, q2, nd⟩ := stk.mem ((hqC hf).mpr (.inr hb))
  rw [q] at q2
  cases q2
  exact x4 b o q nd
 have fly : Heap.FlyingW (hideAll s1.heap (e :: frs (envOfC qual scope s.heap.objs.size f cd :: outer))) outer e (.ref C) (.ref t) h2 := ⟨x1, hideAll_none _ (.head _), x2, x3⟩
 have nee : ∀ b u, H1 b = some u → u ≠ exSet e C d → b ≠ e := fun b u q n z => by subst z; rw [ha] at q; exact n (Option.some.inj q).symm
 refine ⟨e, t, C, some d, _, forget H1 e, rfl, hE, ⟨I.os, I.bare, fun b o q => ?_, fly, fun a u q => ?_, ⟨fun b o q n nf _ => x1 b o (keepB b o q n nf), fun b o q n hb _ => ?_, fun b o q n hx => ?_, fun b o q _ => ?_, fun b xs q => ?_, fun b o u q => ?_, fun b ps q => ?_⟩, keepB, thB⟩, fun x hx => ?_⟩
 ·refine hideAll_get _ (I.bk b o q) fun z => ?_
  rcases List.mem_cons.mp z with z | z
  ·exact absurd (Nat.lt_of_lt_of_le (Heap.lt_size q) (Nat.le_trans I.ok.bsz hsz')) (by rw [z]; exact Nat.lt_irrefl _)
  ·rw [(stk.mem z).1] at q; cases q
 ·by_cases z : a = e
  ·subst z; rw [nqw] at q; cases q
  ·rw [cqR z] at q
   refine (I.hok a u q).stay (fun b v hb y => hideAll_get _ y fun m => ?_) (fun b y => ?_) fun b xs y => ?_
   ·rcases List.mem_cons.mp m with m | m
    ·rcases hb with rfl | hb
     ·exact z m
     ·exact nee b _ hb (by intro y; cases y) m
    ·have := stf b m
     rcases hb with rfl | hb
     ·rw [q] at this; cases this
     ·rw [hb] at this; cases this
   ·rw [cqR (nee b _ y (by intro y; cases y))]; exact y
   ·rw [cqR (nee b _ y (by intro y; cases y))]; exact y
 ·obtain ⟨sl, z⟩ := ib.slot b o q n hb (by simp)
  obtain ⟨sl', z'⟩ := slotF b hb _ z
  exact ⟨sl', z'⟩
 ·rw [cqR (nde b o q)]
  exact ib.free b o q n hx
 ·by_cases hb : b ∈ frs outer
  ·obtain ⟨o', z⟩ := ib.there b o q (by simp)
   obtain ⟨sl', z'⟩ := slotF b hb _ z
   exact ⟨_, z'⟩
  ·obtain ⟨o', z⟩ := thB b o q hb
   exact ⟨o', x1 b o' z⟩
 ·have z := ib.tups b xs q
  rw [cqR (nee b _ z (by intro y; cases y))]; exact z
 ·have z := ib.frzs b o u q
  rw [cqR (nee b _ z (by intro y; cases y))]; exact z
 ·obtain ⟨m, z⟩ := ib.tbls b ps q
  exact ⟨m, by rw [cqR (nee b _ z (by intro y; cases y))]; exact z⟩
 ·cases hx
  obtain ⟨ob, hob, _⟩ := fly.there
  exact ⟨ob, hob, sd.get he hob⟩
end
end L2
namespace L2
open PySem PySem.Spec PySem.W PySem.Calls PyProof.Rows
structure Mk1 (K : Frag) (C f : Addr) : Prop where
 ex : excInI K C vErr vNew f = true
 fn : isFn K (.ref f) = true
 kp : keepIn K (.ref C) = true
def tRaise1 (E : XK) (C : Addr) (sp : Sp) (t : TA) : TS := fun _ σ H => t σ H fun vs H1 => ∀ a, H1 a = none → sp (.ref a :: vs) (upd H1 a (exNew a C)) (fun v H2 => v = .non ∧ ∃ d, H2 a = some (exSet a C d) ∧ E (.ref C) (some d) (forget H2 a)) E0
theorem qqB {E : XK} {C : Addr} {sp : Sp} {t : TA} {D : Ends} {σ : St} {H : Hp} : tRaise1 E C sp t D σ H ↔ t σ H fun vs H1 => ∀ a, H1 a = none → sp (.ref a :: vs) (upd H1 a (exNew a C)) (fun v H2 => v = .non ∧ ∃ d, H2 a = some (exSet a C d) ∧ E (.ref C) (some d) (forget H2 a)) E0 := Iff.rfl
theorem fqi {X : Cx} {x : Str} {C f : Addr} {E : XK} {CX : CXT} {k : Nat} {fd : FuncData} {ps : List Str} {sp : Sp} {np cpos pos : Pos} {e : Expr} {t : TA}
  (hx : Raises1 X E) (hg : Gl X x) (hm : X.mg x = some (.ref C)) (M : Mk1 X.K C f) (F : FnOk X.prog X.w X.K X.mg X.base CX k f fd ps sp) (hr : Room (k + 1) X.A) (hb : Binds X.K fd ps []) (hps : ps.length = 2) (h0 : Passes CX X E0) (hcalm : X.calm = true) (ha : PA X [e] t)
  (hdb : (x == ("__debug__" : Str)) = false := by decide) (he : starEach [e] X.env = (false, eval e X.env) :: starEach [] X.env := by rfl) (hpl : (backTo cpos (starEach [] X.env)).any (·.1) = false := by rfl) :
  PS X (.Raise (some (.Call (.Name x np) [e] [] cpos)) none pos) (tRaise1 E C sp t) := by
 intro pins s σ H D I h
 obtain ⟨tl, N, nm, qn, bs, hd', sn, sub, ab, col, dd, k0, k1, k2, k3, k5, hC, ⟨mN, hN, hni⟩, T⟩ := excObjI I.ok.mod.kin M.ex
 obtain ⟨oI, hoI, hcI⟩ : ∃ oI, X.base.get? f = some oI ∧ oI.cls = .type "function" := by
  have z : typeIn X.K (.ref f) = some (.type "function") := beq_iff_eq.mp M.fn
  unfold typeIn at z
  obtain ⟨o, ho, hc⟩ := Option.map_eq_some_iff.mp z
  exact ⟨o, I.ok.mod.kin _ _ ho, hc⟩
 rw [arm_exec_Raise]
 have hbase := T.hasType PySem.F.excBase_ValueError.hasBase
 refine wpAny_bind (wpAny_standAt (lq7 (C := C) (nm := nm) (q := qn) (N := N) (bs := bs) (bm := tl) (hdct := hd') (sn := sn) (sub := sub) (ab := ab) (col := col) (dd := dd) (k0 := k0) (k1 := k1) (k2 := k2) (k3 := k3) (k5 := k5) (newId := vNew) hbase (I.ok.hd hcalm) ?_))
 refine wpAny_bind (wpAny_mono (wpAny_Call_Name_kw (gqs I hg hm ?_ hdb)) (fun v s₃ h₃ => wpAny_bind (wpAny_standAt (wpAny_pure h₃))) fun _ _ x => x)
 refine callWith_K (h₀ := X.base) I.ok.mod.kin M.kp (thn (ha cpos pins s σ H _ I h) fun us s1 ⟨vs, H1, I1, r, q⟩ => ⟨I1.kIn, ?_⟩) he hpl
 rw [List.nil_append]
 obtain ⟨hh, g, dw, tk, os⟩ := s1
 have hlu : us.length ≤ sizeLine := by
  have z := F.len _ _ _ _ (q (hh.objs.size + 1) (I1.hok.fresh (Nat.le_succ _)))
  rw [List.length_cons, hps] at z
  rw [← r.length, sizeLine_eq]
  omega
 have kb : ∀ b o, X.base.get? b = some o → hh.get? b = some o := fun b o e => I1.bk b o e
 refine qqk PySem.F.excBase_ValueError (T.keeps kb) (kb _ _ hC) (hN.keeps kb) hni (kb _ _ hoI) hcI ?_ hlu
 have I2 : Inv X pins σ (upd H1 (hh.objs.size + 1) (exNew (hh.objs.size + 1) C)) ⟨(hh.push (newTup us)).push (newExc C hh.objs.size), g, dw, tk, os⟩ := by
  refine I1.laid (t' := tk) (fun b u e => Heap.get?_push_of_some _ (Heap.get?_push_of_some _ e)) (Nat.le_succ _) ?_
  have hg2 : ((hh.push (newTup us)).push (newExc C hh.objs.size)).get? (hh.objs.size + 1) = some (newExc C hh.objs.size) := by heap_get
  exact ⟨⟨_, _, hg2⟩, ⟨_, hg2⟩, fun h1 h2 ⟨t, sl, z⟩ k => ⟨t, sl, k _ z⟩⟩
 have q2 := q (hh.objs.size + 1) (I1.hok.fresh (Nat.le_succ _))
 have r2 : Vals (V.ref (hh.objs.size + 1) :: vs) (Value.ref (hh.objs.size + 1) :: us) := .cons rfl r
 have hl : (Value.ref (hh.objs.size + 1) :: us).length = ps.length := by rw [← r2.length]; exact F.len _ _ _ _ q2
 have hbb := hb ⟨(hh.push (newTup us)).push (newExc C hh.objs.size), g, dw, tk, os⟩ (Value.ref (hh.objs.size + 1) :: us) I2.kIn (by rw [List.append_nil]; exact hl)
 rw [List.append_nil] at hbb
 refine wpAny_call (codeAny_mono (F.run _ X.stack _ _ ⟨Value.ref (hh.objs.size + 1) :: us, []⟩ (Value.ref (hh.objs.size + 1) :: us) _ _ E0 (hr.make C us []) (I2.env0.make C us []) hbb r2 q2) fun r s' hq' => ?_)
 cases r with
 | error ev => exact h0 pins σ _ _ ev s' I2 hq'
 | ok fl =>
  cases fl with
  | ret u =>
   obtain ⟨v, H', I3, rv, ev, d, hd, hE⟩ := I2.after hq'
   subst ev
   obtain ⟨⟨t, sl, hx3⟩, _, _⟩ := I3.hok _ _ hd
   exact ⟨rv, _, t, some d, sl, rfl, I3.bk _ _ hC, hx3, hx pins σ H' s' _ C d I3 hd (Nat.le_trans I1.sz (Nat.le_succ _)) hE⟩
  | next => exact False.elim hq'
  | brk => exact False.elim hq'
  | cont => exact False.elim hq'
end L2
namespace L2
open PySem PySem.Spec PySem.W PySem.Calls PyProof.Rows
theorem Fun.okn {P : Program} {w : World} {K : Frag} {mg : Str → Option Value} {base : Heap} {x qual : Str} {st : Stmt} {f : Addr} {fd : FuncData} {N ps : List Str} {k : Nat} {sp : Sp} (F : Fun K x qual st f fd) (S : FnScope N ps (defScope st)) (len : ∀ vs H Q E, sp vs H Q E → vs.length = ps.length)
  (hbody : ∀ (cdv : Value) (A : Around) (outer : List Env) (s : Shared) (H : Hp) (vs : List V) (Q : VK) (E : XK), Room k (A.deeper (envOfC qual (defScope st) s.heap.objs.size f cdv)) → sp vs H Q E →
   ∃ t, PSs (cxOf (CXN P w base) P w K mg base N qual (defScope st) f cdv A outer s H E) (defBody st) t ∧ t { nx := fun _ H' => Q .non H', rt := Q } (start N vs) H) : FnOk P w K mg base (CXN P w base) (k + 1) f fd ps sp := by
 obtain ⟨oc, od, kV, doc, pm, an, cdv, ct, osl, rfl, lk, hcd⟩ := F.ex
 exact uqm lk hcd S len fun A outer s H vs Q E hr hsp => hbody cdv A outer s H vs Q E hr hsp
theorem passes0N {P : Program} {w : World} {base : Heap} {X : Cx} : Passes (CXN P w base) X E0 := fun _ _ _ _ _ _ _ ⟨_, _, _, _, _, _, _, z, _⟩ => z.elim
def TryB (X : Cx) (body : List Stmt) (t : XK → TS) : Prop := ∀ (pins : List (Addr × Obj)) (s : Shared) (σ : St) (H : Hp) (D : Ends) (Eh : XK), Inv X pins σ H s → t Eh D σ H →
 wpAny (model X.prog X.w) X.A (execs body X.env) (SP X pins D) (fun e s' => ∃ H1 s1, Inv X pins σ H1 s1 ∧ CXN X.prog X.w X.base X.stack H1 s1 Eh e s') s
def tTryCall (sp : Sp) (t : TA) : XK → TS := fun Eh D σ H => t σ H fun vs H1 => sp vs H1 (fun _ H2 => D.nx σ H2) Eh
theorem Inv.sharp {X : Cx} {pins : List (Addr × Obj)} {σ : St} {H : Hp} {s : Shared} {a : Addr} {φ ψ : Heap → Prop} (I : Inv X pins σ (upd H a (.ext φ)) s) (h : ψ s.heap) (st : ∀ h1 h2 : Heap, ψ h1 → (∀ o, h1.get? a = some o → h2.get? a = some o) → ψ h2) : Inv X pins σ (upd H a (.ext ψ)) s := by
 have e : upd H a (.ext φ) a = some (.ext φ) := aqg
 obtain ⟨_, ex, _⟩ := I.hok a _ e
 have := I.write (x := a) (e := a) (o := .ext ψ) (t' := s.toks) (h' := s.heap) (by rw [e]; exact True.intro) (.inl rfl) (fun b u _ q => q) ex ⟨h, ex, st⟩
 rwa [qqV] at this
def tTryN (K : Frag) (t : XK → TS) (W : Addr) (i : Nat) (tb : TS) : TS := fun D σ H => t (fun cls d H2 =>
 ∃ C, cls = .ref C ∧ subIn K (.ref C) (.ref W) = some true ∧ ∀ a, H2 a = none → tb { nx := fun σ' H' => D.nx (σ'.set i none) H', rt := D.rt } (σ.set i (some (.ref a))) (upd H2 a (exC a C d))) { nx := D.nx, rt := D.rt } σ H
theorem tqD {X : Cx} {W : Addr} {x n : Str} {np hpos pos : Pos} {body : List Stmt} {b₀ : Stmt} {suite : List Stmt} {t : XK → TS} {tb : TS} {i : Nat}
  (hb : TryB X body t) (hstk : X.stack = X.env :: X.outer) (hf : X.env.frame = some X.env.locals) (hgW : Gl X x) (hmW : X.mg x = some (.ref W)) (cw : Catch X.K W)
  (nd : X.N.Nodup) (hi : X.N[i]? = some n) (hl : X.env.scope.names.lookup n = some .local) (hbd : ∀ a, PSs (X.handling (.ref a)) (b₀ :: suite) tb) (hdW : (x == ("__debug__" : Str)) = false := by decide) :
  PS X (.Try body [.ExceptHandler (some (.Name x np)) (some n) (b₀ :: suite) hpos] [] [] pos) (tTryN X.K t W i tb) := by
 intro pins s σ H D I h
 refine wpAny_Try_except (wpAny_mono (hb pins s σ H _ _ I h) (fun fl s2 q => ?_) fun ev s2 ⟨H1, s1, I1, hq⟩ => ?_)
 ·cases fl with
  | next => exact wpAny_execs_nil q
  | ret u => exact q
  | brk => obtain ⟨_, _, _, q⟩ := q; exact q.elim
  | cont => obtain ⟨_, _, _, q⟩ := q; exact q.elim
 ·obtain ⟨a, tt, C, d, B, H2, rfl, ⟨C', ce, hsub, hq⟩, Wn⟩ := hq
  cases ce
  have hn : H2 a = none := Wn.f.new (h5 := s.heap) (a0 := .none)
  have fl : Heap.FlyingW B (X.env :: X.outer) a (.ref C) (.ref tt) s2.heap := hstk ▸ Wn.f.fly
  have fr : X.A.frames = some (X.env :: X.outer) := hstk ▸ I1.ok.frames
  refine wpAny_mono (iqs (iq6 _ _) (wpAny_looks_onW (E := fun _ _ => False) (Q := fun _ s3 => ∃ h4, s3 = { s2 with heap := h4 } ∧ Heap.HeldW B (X.env :: X.outer) a (.ref C) (.ref tt) X.env.locals h4 ∧ s2.heap.UpToSlots h4) fr hf fl fun h4 held4 sm4 => ⟨h4, rfl, held4, sm4⟩)) (fun _ s3 ⟨⟨h4, e3, held4, sm4⟩, sd4⟩ => ?_) fun _ _ z => z.elim
  subst e3
  refine wpAny_mono (iqs (gqf _ _) (wpAny_landsW (E := fun _ _ => False) (s := { s2 with heap := h4 }) (Q := fun _ s3 => ∃ h5, s3 = { s2 with heap := h5 } ∧ Heap.FlyingW B (X.env :: X.outer) a (.ref C) (.ref tt) h5 ∧ h4.UpToSlots h5) held4 fun h5 f5 sm5 => ⟨h5, rfl, f5, sm5⟩)) (fun _ s3 ⟨⟨h5, e3, f5, sm5⟩, sd5⟩ => ?_) fun _ _ z => z.elim
  subst e3
  have I5 := I1.caught Wn.f (hstk.symm ▸ f5) (sm4.trans sm5)
  refine wpAny_handleBy_cons (codeAny_handlers_test (gqs (X := X.handling (.ref a)) (I5.handling _) hgW hmW ?_ hdW)) (by intro q; cases q)
  obtain ⟨ob, hob, hoc⟩ := f5.there
  refine (nqC I5.kIn hob hoc cw hsub) _ _ _ _ (fun b o q => q) ?_
  refine codeAny_handlers_suite_as ?_
  refine wpAny_mono (iqs (gqf _ _) (lands_againW (E := fun _ _ => False) (s := { s2 with heap := h5 }) (Q := fun _ s3 => ∃ h6, s3 = { s2 with heap := h6 } ∧ Heap.FlyingW B (X.env :: X.outer) a (.ref C) (.ref tt) h6 ∧ h5.UpToSlots h6) f5 fun h6 f6 sm6 => ⟨h6, rfl, f6, sm6⟩)) (fun _ s3 ⟨⟨h6, e3, f6, sm6⟩, sd6⟩ => ?_) fun _ _ z => z.elim
  subst e3
  have I6' := I1.caught Wn.f (hstk.symm ▸ f6) ((sm4.trans sm5).trans sm6)
  obtain ⟨oe, vs6, ho6, hc6, hd6, _⟩ := f6.first
  have I6 : Inv X pins σ (upd H2 a (exC a C d)) { s2 with heap := h6 } := by
   refine I6'.sharp ⟨oe, ho6, hc6, fun y hy => ?_, by unfold notCls; rw [hd6]⟩ fun h1 h2 ⟨o, z, c⟩ k => ⟨o, k o z, c⟩
   obtain ⟨o2, z2, zd⟩ := Wn.dc y hy
   exact (((sd4.trans sd5).trans sd6).get z2 ho6).trans zd
  refine jqn (X := X.handling (.ref a)) (i := i) (v := .ref a) (I6.handling _) nd hi (.inl hl) rfl (fun s7 I7 => ?_) (.inr hl)
  refine wpAny_mono (hbd a pins s7 _ _ _ I7 (hq a hn)) (fun fl s8 q8 => ?_) fun e s8 z => z.elim
  cases fl with
  | next =>
   obtain ⟨σ', H', I', q'⟩ := q8
   exact (Inv.handled I1.ok I').goes nd hi hl fun s9 I9 => ⟨_, _, I9, q'⟩
  | ret u =>
   obtain ⟨v, σ', H', I', rv, q'⟩ := q8
   exact (Inv.handled I1.ok I').goes nd hi hl fun s9 I9 => ⟨_, _, _, I9, rv, q'⟩
  | brk =>
   obtain ⟨_, _, _, q'⟩ := q8
   exact q'.elim
  | cont =>
   obtain ⟨_, _, _, q'⟩ := q8
   exact q'.elim
theorem uqL {K : Frag} {t : XK → TS} {W : Addr} {i : Nat} {tb : TS} {D : Ends} {σ : St} {H : Hp} : tTryN K t W i tb D σ H ↔ t (fun cls d H2 =>
 ∃ C, cls = .ref C ∧ subIn K (.ref C) (.ref W) = some true ∧ ∀ a, H2 a = none → tb { nx := fun σ' H' => D.nx (σ'.set i none) H', rt := D.rt } (σ.set i (some (.ref a))) (upd H2 a (exC a C d))) { nx := D.nx, rt := D.rt } σ H := Iff.rfl
theorem oq3 {sp : Sp} {t : TA} {Eh : XK} {D : Ends} {σ : St} {H : Hp} : tTryCall sp t Eh D σ H ↔ t σ H fun vs H1 => sp vs H1 (fun _ H2 => D.nx σ H2) Eh := Iff.rfl
def rIsX (K : Frag) : List V → Hp → VK → Prop := fun vs H Q => ∃ a c C d b, vs = [.ref a, c] ∧ H a = some (exC a C d) ∧ ExLook K C ∧ KitAns K H C c b ∧ Q (.bl b) H
theorem equ {X : Cx} {K : Frag} (hk : X.K = K) : CallR X (.builtin "isinstance") (rIsX K) := by
 subst hk
 intro pins s σ H vs us Q I rv h
 obtain ⟨a, c, C, d, b, rfl, ha, L, ans, q⟩ := h
 cases rv with
 | cons r1 rs =>
  cases rs with
  | cons r2 rn =>
   cases rn
   cases r1
   have hobj : ∃ o, s.heap.get? a = some o ∧ o.cls = .ref C := let ⟨⟨o, z, c, _⟩, _⟩ := I.hok a _ ha; ⟨o, z, c⟩
   have Z := rqO (a := a) L PySem.F.attrBase_ValueError.ga
   cases ans with
   | cls e =>
    cases r2
    exact kia_one Z I.kIn hobj e (by intro z; cases z) fun tk => ⟨.bl b, H, I.tok tk, rfl, q⟩
   | ty e =>
    cases r2
    exact kia_one Z I.kIn hobj e (by intro z; cases z) fun tk => ⟨.bl b, H, I.tok tk, rfl, q⟩
   | tup hp e =>
    cases r2
    obtain ⟨_, its, rv, ⟨oc, od, da, sl⟩, hob, hcl, n, hda⟩ := I.hok _ _ hp
    dsimp only at hcl hda
    subst hcl hda
    rw [mqi rv] at hob
    exact kia_tup Z I.kIn hobj hob e (by intro z; cases z) fun tk => ⟨.bl b, H, I.tok tk, rfl, q⟩
theorem vqX {K : Frag} {a : Addr} {c : V} {H : Hp} {Q : VK} : rIsX K [.ref a, c] H Q ↔ ∃ C d b, H a = some (exC a C d) ∧ ExLook K C ∧ KitAns K H C c b ∧ Q (.bl b) H :=
 ⟨fun ⟨_, _, C, d, b, e, h⟩ => by cases e; exact ⟨C, d, b, h⟩, fun ⟨C, d, b, h⟩ => ⟨a, c, C, d, b, rfl, h⟩⟩
end L2
namespace L2
open PySem PySem.Spec PySem.W PySem.Calls PyProof.Rows PySem.Builtin PySem.Builtin.ObjectAttr
section
variable {prog : Program} {w : World} {A : Around} {E : Value → Shared → Prop} {hh : Heap} {g : Array GenState} {dr : Drawn} {t : Nat} {os : OsState} {K : Frag} {a C : Addr} {o : Obj} {od : Option Obj} {name : Str} {v : Value}
theorem lqv {tk : Tok} {Q : Fin → Shared → Prop} (kin : K.In hh) (I : PySem.W.InstAt hh a o C od) (hf : findObj K C od name = some (.value v)) (hq : Q (.done (.ret v)) ⟨hh, g, dr, t, os⟩) :
  wpAny (model prog w) A (Builtin.«object.__getattribute__» ⟨[.ref a, .str name tk], []⟩) Q E ⟨hh, g, dr, t, os⟩ := by
 have L0 := I.type (M := model prog w)
 have L1 := looks_find (M := model prog w) kin I hf
 refine wpAny_bind (wpAny_pure (wpAny_bind (wpAny_pure (wpAny_bind (L0.at (wpAny_bind (L1.at ?_)))))))
 exact wpAny_pure hq
theorem pqi {tk : Tok} {n1 ex : Bool} {Q : Value → Shared → Prop} (kin : K.In hh) (I : PySem.W.InstAt hh a o C od) (hf : findObj K C od name = some (.value v)) (hv : handedIn v = true) (L : ExLook K C) (gb : Slot "ValueError" "__getattribute__" "BaseException.__getattribute__") (hq : Q v ⟨hh, g, dr, t, os⟩) :
  wpAny (model prog w) A (getAttrBy (.ref a) (.str name tk) n1 ex) Q E ⟨hh, g, dr, t, os⟩ := by
 have lt := gqX (M := model prog w) I.at_ I.cls; have lg := looks_findIn (M := model prog w) kin L.ga; have ln := looks_findIn (M := model prog w) kin L.na
 have f3 := gb.bind (.ref a)
 have y2 : (Value.builtin "BaseException.__getattribute__" == Value.builtin "object.__getattribute__") = false := by decide +kernel
 have y1 : (onTheHeap (Value.ref C) && Value.builtin "BaseException.__getattribute__" == Value.builtin "object.__getattribute__") = false := by rw [y2]; rfl
 have y0 : (ex && onTheHeap (Value.builtin "BaseException.__getattribute__")) = false := by cases ex <;> rfl
 repeat (any_goals (first | assumption | with_reducible refine Looks.at lt ?_ | with_reducible refine Looks.at lg ?_ | with_reducible refine Looks.at ln ?_ | rw [y0] | wp_step))
 refine codeAny_call_builtin gb.plain PySem.F.entry_bexc_ga (iqP kin I.at_ I.cls L (lqv kin I hf ?_))
 have hz := handedOut_of hv
 repeat (any_goals (first | assumption | rw [hz] | wp_step))
end
structure ExFld (K : Frag) (C : Addr) (f : Str) : Prop where
 look : ExLook K C
 na : findIn K (.ref C) f = some none
 hd : hasDictIn K C = true
def tFldE (K : Frag) (te : TE) (f : Str) : TE := fun σ H Q => te σ H fun x H1 => ∃ a C d fs v, x = .ref a ∧ H1 a = some (exC a C (some d)) ∧ H1 d = some (.xd fs) ∧ ExFld K C f ∧ fs.lookup f = some v ∧ Q v H1
theorem tqu {K : Frag} {te : TE} {f : Str} {σ : St} {H : Hp} {Q : VK} : tFldE K te f σ H Q ↔ te σ H fun x H1 => ∃ a C d fs v, x = .ref a ∧ H1 a = some (exC a C (some d)) ∧ H1 d = some (.xd fs) ∧ ExFld K C f ∧ fs.lookup f = some v ∧ Q v H1 := Iff.rfl
theorem tq1 {X : Cx} {e : Expr} {f : Str} {pos : Pos} {te : TE} (he : PE X e te) (hb : attributeBase e f X.env (eval e X.env) = eval e X.env) : PE X (.Attribute e f pos) (tFldE X.K te f) := by
 intro pins s σ H Q I h
 refine pq6 hb (thn (he pins s σ H _ I h) fun u s1 ⟨x, H1, I1, rx, a, C, d, fs, v, ex, ea, ed, c, l, q⟩ => ?_)
 subst ex
 obtain rfl : u = Value.ref a := rx
 obtain ⟨⟨o, ho, hc, hdc, hnc⟩, _, _⟩ := I1.hok a _ ea
 obtain ⟨mA, hN, hR⟩ := I1.hok d _ ed
 obtain ⟨od, hod, hl⟩ := mqG hN
 have dd := hdc d rfl
 have J : PySem.W.InstAt s1.heap a o C (some od) := ⟨ho, hc, hnc, by rw [dd]; exact hod⟩
 obtain ⟨v', hv', rv⟩ := RelO.some_of (v := v) (o := mA f) (by rw [← l]; exact hR f)
 have K1 := I1.kIn
 have fo : findObj X.K C (some od) f = some (.value v') := findObj_own c.hd c.na rfl (by rw [hl, hv'])
 have I2 := I1.tok (s1.toks + 1)
 obtain ⟨hh, g, dr, tk, os⟩ := s1
 unfold getAttr
 refine wpAny_bind (wpAny_mkText ?_)
 refine pqi K1 J fo (nqd rv) c.look PySem.F.attrBase_ValueError.ga ?_
 exact ⟨v, H1, I2, rv, q⟩
end L2
namespace L2
open PySem PySem.Spec PySem.W PySem.Calls PyProof.Rows
theorem FunD.okn {P : Program} {w : World} {K : Frag} {mg : Str → Option Value} {base : Heap} {x qual : Str} {st : Stmt} {f T : Addr} {fd : FuncData} {N ps : List Str} {k : Nat} {sp : Sp} (F : FunD K x qual st f fd T) (S : FnScope N ps (defScope st)) (len : ∀ vs H Q E, sp vs H Q E → vs.length = ps.length)
  (hbody : ∀ (cdv : Value) (A : Around) (outer : List Env) (s : Shared) (H : Hp) (vs : List V) (Q : VK) (E : XK), Room k (A.deeper (envOfC qual (defScope st) s.heap.objs.size f cdv)) → sp vs H Q E →
   ∃ t, PSs (cxOf (CXN P w base) P w K mg base N qual (defScope st) f cdv A outer s H E) (defBody st) t ∧ t { nx := fun _ H' => Q .non H', rt := Q } (start N vs) H) : FnOk P w K mg base (CXN P w base) (k + 1) f fd ps sp := by
 obtain ⟨oc, od, kV, doc, pm, an, cdv, ct, osl, rfl, lk, hcd⟩ := F.ex
 exact uqm lk hcd S len fun A outer s H vs Q E hr hsp => hbody cdv A outer s H vs Q E hr hsp
section
variable {P : Program} {w : World} {K : Frag} {mg : Str → Option Value} {base : Heap} {j k : Nat} {A : Around} {outer : List Env} {s : Shared} {H : Hp} {E : XK}
structure RoomU (k : Nat) (A : Around) : Prop where
 dp : A.depth + 3 * k + 5 < recursionLimit
 un : A.units + 16 * k + 200 < cLine
theorem Room.hand {e : Option Value} (r : Room k A) : RoomU k (A.mark e) := ⟨r.dp, r.un⟩
theorem RoomU.calm (r : RoomU k A) : Room k { A with handled := none } := ⟨rfl, r.dp, r.un⟩
structure FnU (P : Program) (w : World) (K : Frag) (mg : Str → Option Value) (base : Heap) (k : Nat) (f : Addr) (fd : FuncData) (ps : List Str) (sp : Sp) : Prop where
 len : ∀ vs H Q E, sp vs H Q E → vs.length = ps.length
 go : ∀ (A : Around) (outer : List Env) (s : Shared) (H : Hp) (args : Args) (us : List Value) (vs : List V) (Q : VK) (E : XK), RoomU k A → Env0 P w K mg base A outer s H → BindsTo s fd args (ps.zip us) → Vals vs us → sp vs H Q E →
  codeAny (model P w) A (.call (.ref f) args) (CR CX0 outer P w H s Q E) s
abbrev cxU (P : Program) (w : World) (K : Frag) (mg : Str → Option Value) (base : Heap) (N : List Str) (qual : Str) (scope : Scope) (f : Addr) (cd : Value) (A : Around) (outer : List Env) (s : Shared) (H : Hp) : Cx :=
 { cxOf CX0 P w K mg base N qual scope f cd A outer s H E0 with calm := false, xe := fun _ _ => False }
theorem xqn {N ps : List Str} {qual : Str} {scope : Scope} {f : Addr} {cd : Value} {s1 : Shared} {us : List Value} {vs : List V} (S : FnScope N ps scope) (e0 : Env0 P w K mg base A outer s H) (hl : vs.length = ps.length) (r : Vals vs us)
  (x : InCallC s s.heap.objs.size (bindL (envOfC qual scope s.heap.objs.size f cd).kindOf (ps.zip us) fun _ => none) (cellsFrom (s.heap.objs.size + 1) scope.names []) (bindC (envOfC qual scope s.heap.objs.size f cd).kindOf (ps.zip us) fun _ => none) s1) :
  Inv (cxU P w K mg base N qual scope f cd A outer s H) [] (start N vs) H s1 := by
 have e1 : Env0 P w K mg base { A with handled := none } outer s H := ⟨e0.frames, e0.mod, e0.bs, e0.bsz, e0.funs, e0.frf, e0.hok, e0.bare⟩
 have I : Inv (cxOf CX0 P w K mg base N qual scope f cd { A with handled := none } outer s H E0) [] (start N vs) H s1 := nqa S rfl e1 hl r x
 exact ⟨⟨I.ok.mod, I.ok.kind, I.ok.glob, I.ok.blt, I.ok.above, I.ok.inj, I.ok.has, I.ok.cab, (fun z => nomatch z), I.ok.frames, I.ok.stk, I.ok.exf, I.ok.bs, I.ok.bsz, I.ok.noex, I.ok.exfs, I.ok.funs, I.ok.frf⟩, I.os, I.bare, I.base, I.loc, I.cell, I.free, I.freeC, I.pin, I.hok, I.len⟩
theorem Fun.oku {x qual : Str} {st : Stmt} {f : Addr} {fd : FuncData} {N ps : List Str} {sp : Sp} (F : Fun K x qual st f fd) (S : FnScope N ps (defScope st)) (len : ∀ vs H Q E, sp vs H Q E → vs.length = ps.length)
  (hbody : ∀ (cdv : Value) (A : Around) (outer : List Env) (s : Shared) (H : Hp) (vs : List V) (Q : VK) (E : XK), RoomU k (A.deeper (envOfC qual (defScope st) s.heap.objs.size f cdv)) → sp vs H Q E →
   ∃ t, PSs (cxU P w K mg base N qual (defScope st) f cdv A outer s H) (defBody st) t ∧ t { nx := fun _ H' => Q .non H', rt := Q } (start N vs) H) : FnU P w K mg base (k + 1) f fd ps sp := by
 obtain ⟨oc, od, kV, doc, pm, an, cdv, ct, osl, rfl, lk, hcd⟩ := F.ex
 refine ⟨len, fun A outer s H args us vs Q E room e0 bind rel want => ?_⟩
 have keep0 : ∀ b o, base.get? b = some o → s.heap.get? b = some o := fun b o e => (e0.bs b o e).1
 have KX := e0.mod.kin.keeps keep0
 have lim := e0.mod.nolimit.keeps keep0
 have names : ∀ y ∈ ps.zip us, (defScope st).names.lookup y.1 = some .local ∨ ((defScope st).names.lookup y.1 = some .cell ∧ ((cellsFrom (s.heap.objs.size + 1) (defScope st).names []).lookup y.1).isSome = true) := fun ⟨n, v⟩ hy =>
  (S.par n (List.of_mem_zip hy).1).imp id fun q => ⟨q, cellsFrom_some _ _ _ (.inl q)⟩
 refine codeAny_call_function room.calm.depth (KX _ _ lk) rfl S.co S.gen rfl (codeRec_of KX hcd) (bind _ _ _ _ ?_)
 refine wpAny_newFunctionEnv_cells S.kind names fun env he s1 x => ?_
 subst he
 refine ⟨lim.keeps x.toInCall.keep, codeAny_func ?_⟩
 obtain ⟨t, ht, hq⟩ := hbody cdv A outer s H vs Q E ⟨(room.calm.deeper (envOfC qual (defScope st) s.heap.objs.size f cdv)).dp, (room.calm.deeper (envOfC qual (defScope st) s.heap.objs.size f cdv)).un⟩ want
 refine wpAny_mono (ht [] s1 (start N vs) H _ (xqn S e0 (len _ _ _ _ want) rel x) hq) (fun fl s' hs => ?_) fun e s' hs => hs.elim
 cases fl with
 | ret u => obtain ⟨v, σ', H', J, rv, q⟩ := hs; exact ⟨v, H', J.os, J.bare, J.base, J.hok, rv, q⟩
 | next => obtain ⟨σ', H', J, q⟩ := hs; exact ⟨V.non, H', J.os, J.bare, J.base, J.hok, rfl, q⟩
 | brk => obtain ⟨_, _, _, q⟩ := hs; exact q.elim
 | cont => obtain ⟨_, _, _, q⟩ := hs; exact q.elim
end
theorem sqj {X : Cx} {k : Nat} {f : Addr} {fd : FuncData} {ps : List Str} {sp : Sp} {x : Str} {p pos : Pos} {e : Expr} {es : List Expr} {t : TA} (F : FnU X.prog X.w X.K X.mg X.base k f fd ps sp) (hr : RoomU k X.A) (hg : Gl X x) (hm : X.mg x = some (.ref f)) (hk : keepIn X.K (.ref f) = true) (hb : Binds X.K fd ps []) (ha : PA X (e :: es) t)
  (hdb : (x == ("__debug__" : Str)) = false := by decide) (he : starEach (e :: es) X.env = (false, eval e X.env) :: starEach es X.env := by rfl) (hpl : (backTo pos (starEach es X.env)).any (·.1) = false := by rfl) :
  PE X (.Call (.Name x p) (e :: es) [] pos) (tCall sp [] E0 t) := by
 intro pins s σ H Q I h
 refine wpAny_Call_Name_kw (gqs I hg hm (callWith_K (h₀ := X.base) I.ok.mod.kin hk (thn (ha pos pins s σ H _ I h) fun us s1 ⟨vs, H1, I1, r, q⟩ => ⟨I1.kIn, ?_⟩) he hpl) hdb)
 have q : sp (vs ++ []) H1 Q E0 := q
 rw [List.append_nil] at q
 have hl : (us ++ []).length = ps.length := by rw [List.append_nil, ← r.length]; exact F.len _ _ _ _ q
 have hbb := hb s1 us I1.kIn hl
 rw [List.append_nil] at hbb
 refine wpAny_call (codeAny_mono (F.go X.A X.stack s1 H1 ⟨us, []⟩ us vs Q E0 hr I1.env0 hbb r q) fun z s' hq => ?_)
 cases z with
 | error e => exact hq.elim
 | ok fl =>
  cases fl with
  | ret u => exact I1.after hq
  | next => exact False.elim hq
  | brk => exact False.elim hq
  | cont => exact False.elim hq
section
variable {X : Cx}
def tTryIf (tc : TT) (ta tb : XK → TS) : XK → TS := fun Eh D σ H => tc σ H fun b H1 => if b = true then ta Eh D σ H1 else tb Eh D σ H1
theorem sql {tc : TT} {ta tb : XK → TS} {Eh : XK} {D : Ends} {σ : St} {H : Hp} : tTryIf tc ta tb Eh D σ H ↔ tc σ H fun b H1 => if b = true then ta Eh D σ H1 else tb Eh D σ H1 := Iff.rfl
def TryE (X : Cx) (e : Expr) (t : XK → TE) : Prop := ∀ (pins : List (Addr × Obj)) (s : Shared) (σ : St) (H : Hp) (Q : VK) (Eh : XK), Inv X pins σ H s → t Eh σ H Q →
 wpAny (model X.prog X.w) X.A (eval e X.env) (EP X pins σ Q) (fun e s' => ∃ H1 s1, Inv X pins σ H1 s1 ∧ CXN X.prog X.w X.base X.stack H1 s1 Eh e s') s
def tTryE (sp : Sp) (t : TA) : XK → TE := fun Eh σ H Q => t σ H fun vs H1 => sp vs H1 Q Eh
theorem qq7 {k : Nat} {f : Addr} {fd : FuncData} {ps : List Str} {sp : Sp} {fx : Str} {p cpos : Pos} {e : Expr} {es : List Expr} {t : TA}
  (F : FnOk X.prog X.w X.K X.mg X.base (CXN X.prog X.w X.base) k f fd ps sp) (hr : Room k X.A) (hg : Gl X fx) (hm : X.mg fx = some (.ref f)) (hk : keepIn X.K (.ref f) = true) (hb : Binds X.K fd ps []) (ha : PA X (e :: es) t)
  (hx0 : ∀ e s, X.xe e s → False)
  (hdb : (fx == ("__debug__" : Str)) = false := by decide)
  (he : starEach (e :: es) X.env = (false, eval e X.env) :: starEach es X.env := by rfl) (hpl : (backTo cpos (starEach es X.env)).any (·.1) = false := by rfl) :
  TryE X (.Call (.Name fx p) (e :: es) [] cpos) (tTryE sp t) := by
 intro pins s σ H Q Eh I h
 refine wpAny_Call_Name_kw (gqs I hg hm ?_ hdb)
 refine callWith_K (h₀ := X.base) I.ok.mod.kin hk (wpAny_mono (ha cpos pins s σ H _ I h) (fun us s1 ⟨vs, H1, I1, r, q⟩ => ⟨I1.kIn, ?_⟩) fun e s1 z => (hx0 e s1 z).elim) he hpl
 have hlen : (us ++ []).length = ps.length := by rw [List.append_nil, ← r.length]; exact F.len _ _ _ _ q
 have hbb := hb s1 us I1.kIn hlen
 rw [List.append_nil] at hbb
 refine wpAny_call (codeAny_mono (F.run X.A X.stack s1 H1 ⟨us, []⟩ us vs _ _ hr I1.env0 hbb r q) fun r s2 hq => ?_)
 cases r with
 | ok fl =>
  cases fl with
  | ret u => exact I1.after hq
  | next => exact False.elim hq
  | brk => exact False.elim hq
  | cont => exact False.elim hq
 | error ev => exact ⟨H1, s1, I1, hq⟩
def tTryP (ta : TE) (te : XK → TE) : XK → TE := fun Eh σ H Q => ta σ H fun x H1 => te Eh σ H1 fun y H2 => ∀ p H', H2 p = none → Same H2 H' → H' p = some (.tup [x, y]) → Q (.ref p) H'
theorem rqd {a e : Expr} {ta : TE} {te : XK → TE} {x1} {pos : Pos} (ha : PE X a ta) (he : TryE X e te) (hx0 : ∀ e s, X.xe e s → False)
  (hs1 : starEach [a, e] X.env = (false, eval a X.env) :: starEach [e] X.env := by rfl) (hs2 : starEach [e] X.env = (false, eval e X.env) :: starEach [] X.env := by rfl) : TryE X (.Tuple [a, e] x1 pos) (tTryP ta te) := by
 intro pins s σ H Q Eh I h
 refine wpAny_Tuple_spliced ?_
 rw [hs1]
 show wpAny _ _ (spliced ((false, eval a X.env) :: backTo pos (starEach [e] X.env))) _ _ s
 refine Calls.spliced_cons (wpAny_mono (ha pins s σ H _ I h) (fun u s1 ⟨x, H1, I1, r1, q1⟩ => ?_) fun e s1 z => (hx0 e s1 z).elim)
 rw [hs2]
 show wpAny _ _ (spliced ((false, eval e X.env) :: backTo pos (starEach [] X.env))) _ _ s1
 refine Calls.spliced_cons (wpAny_mono (he pins s1 σ H1 _ Eh I1 q1) (fun v s2 ⟨y, H2, I2, r2, q2⟩ => ?_) fun _ _ z => z)
 refine Calls.spliced_nil ⟨by show 2 ≤ sizeLine; decide, ?_⟩
 have hf : H2 s2.heap.objs.size = none := I2.hok.fresh (Nat.le_refl _)
 refine ⟨.ref s2.heap.objs.size, upd H2 s2.heap.objs.size (.tup [x, y]), I2.laid (t' := s2.toks) (fun b u e => Heap.get?_push_of_some _ e) (Nat.le_refl _) ?_, rfl, q2 _ _ hf (cq0 hf) aqg⟩
 exact ⟨by show 2 ≤ sizeLine; decide, [u, v], .cons r1 (.cons r2 .nil), ⟨_, Heap.get?_push_size _ rfl, rfl, _, rfl⟩⟩
def tTryS (i : Nat) (te : XK → TE) : XK → TS := fun Eh D σ H => te Eh σ H fun v H1 => D.nx (σ.set i (some v)) H1
theorem uqh {i : Nat} {x : Str} {e : Expr} {te : XK → TE} {pos pos' : Pos} (hN : X.N.Nodup) (hi : X.N[i]? = some x) (hl : X.env.scope.names.lookup x = some .local) (he : TryE X e te) (hs : swapsWith e (some (.Name x pos')) pos.line X.env = pure false := by rfl) :
  TryB X [.Assign [.Name x pos'] e pos] (tTryS i te) := by
 intro pins s σ H D Eh I h
 refine wpAny_execs_cons (wpAny_Assign_Name (wpAny_mono (he pins s σ H _ Eh I h) (fun v s1 ⟨y, H1, I1, r1, q1⟩ => ?_) fun _ _ z => z) hs)
 exact jqn I1 hN hi (.inl hl) r1 (fun s2 I2 => wpAny_execs_nil ⟨_, H1, I2, q1⟩) (.inr hl)
theorem tqH {sp : Sp} {t : TA} {Eh : XK} {σ : St} {H : Hp} {Q : VK} : tTryE sp t Eh σ H Q ↔ t σ H fun vs H1 => sp vs H1 Q Eh := Iff.rfl
theorem tqr {ta : TE} {te : XK → TE} {Eh : XK} {σ : St} {H : Hp} {Q : VK} : tTryP ta te Eh σ H Q ↔ ta σ H fun x H1 => te Eh σ H1 fun y H2 => ∀ p H', H2 p = none → Same H2 H' → H' p = some (.tup [x, y]) → Q (.ref p) H' := Iff.rfl
theorem uqE {i : Nat} {te : XK → TE} {Eh : XK} {D : Ends} {σ : St} {H : Hp} : tTryS i te Eh D σ H ↔ te Eh σ H fun v H1 => D.nx (σ.set i (some v)) H1 := Iff.rfl
end
end L2
namespace L2
open PySem
theorem rqP {X : Cx} {K : PySem.W.Frag} {e : Expr} {f : Str} {pos : Pos} {te : TE} (hk : X.K = K) (he : PE X e te) (hb : attributeBase e f X.env (eval e X.env) = eval e X.env) : PE X (.Attribute e f pos) (tFldE K te f) := by subst hk; exact tq1 he hb
theorem lqW {X : Cx} {K : PySem.W.Frag} (h : X.K = K) : OpR X (compareOp .NotIn) (rIn K true) := by subst h; exact mqz
end L2
namespace Wm
open PySem L2
abbrev Rs (α : Type) := Except Nat (α × Nat)
def sh {α : Type} (k : Nat) : Rs α → Rs α
 | .ok (a, n) => .ok (a, k + n)
 | .error n => .error (k + n)
def mp {α β : Type} (f : α → β) : Rs α → Rs β
 | .ok (a, n) => .ok (f a, n)
 | .error n => .error n
def pre {α : Type} (c : α) (k : Nat) : Rs (List α) → Rs (List α)
 | .ok (l, n) => .ok (c :: l, k + n)
 | .error n => .error (k + n)
section
variable {α β γ : Type}
theorem mqC {a b : Nat} {r : Rs α} : sh a (sh b r) = sh (a + b) r := by
 cases r with
 | error n => show Except.error _ = Except.error _; rw [Nat.add_assoc]
 | ok x => show Except.ok _ = Except.ok _; rw [Nat.add_assoc]
theorem xqz {a : Nat} {f : α → β} {r : Rs α} : mp f (sh a r) = sh a (mp f r) := by cases r <;> rfl
theorem xqm {g : β → γ} {f : α → β} {r : Rs α} : mp g (mp f r) = mp (fun x => g (f x)) r := by cases r <;> rfl
theorem sh_0 {r : Rs α} : sh 0 r = r := by
 cases r with
 | error n => show Except.error _ = Except.error _; rw [Nat.zero_add]
 | ok x => show Except.ok _ = Except.ok _; rw [Nat.zero_add]
theorem xqs {r : Rs α} : mp (fun x => x) r = r := by cases r <;> rfl
theorem sqR {c : α} {k : Nat} {r : Rs (List α)} : pre c k r = sh k (mp (fun l => c :: l) r) := by cases r <;> rfl
def Via (tot : Rs γ) (b : Nat) (f : α → γ) (r : Rs α) : Prop := tot = sh b (mp f r)
theorem Via.refl {r : Rs α} : Via r 0 (fun x => x) r := by unfold Via; rw [xqs, sh_0]
theorem Via.step {tot : Rs γ} {b a : Nat} {f : β → γ} {g : α → β} {r : Rs β} {r' : Rs α} (h : Via tot b f r) (e : r = sh a (mp g r')) : Via tot (b + a) (fun x => f (g x)) r' := by
 unfold Via at *
 rw [h, e, xqz, mqC, xqm]
theorem Via.ok {tot : Rs γ} {b n : Nat} {f : α → γ} {r : Rs α} {x : α} (h : Via tot b f r) (e : r = .ok (x, n)) : tot = .ok (f x, b + n) := by
 unfold Via at h
 rw [h, e]; rfl
theorem Via.err {tot : Rs γ} {b n : Nat} {f : α → γ} {r : Rs α} (h : Via tot b f r) (e : r = .error n) : tot = .error (b + n) := by
 unfold Via at h
 rw [h, e]; rfl
end
theorem take1 {r : List Nat} {c : Nat} : r.take [c].length = [c] ↔ r.head? = some c := by
 cases r with
 | nil => simp
 | cons d r => simp
def dec (mo : Option Nat) : Option Nat := mo.map fun m => m - 1
def Capd (mo : Option Nat) (k : Nat) : Prop := ∀ z, mo = some z → k ≤ z
def fsF : List Nat := [50, 51, 52, 53, 54, 55]
def prM : List Nat → Rs Nat
 | a :: b :: _ => if a ∈ fsF then (match sgO a b with | some c => .ok (c, 2) | none => .error 1) else .error 0
 | [a] => if a ∈ fsF then .error 1 else .error 0
 | [] => .error 0
theorem mqp {r : List Nat} {c n : Nat} (h : prM r = .ok (c, n)) : ∃ a b r', r = a :: b :: r' ∧ sgO a b = some c ∧ n = 2 ∧ a ∈ fsF := by
 match r, h with
 | [], h => cases h
 | [a], h =>
  have h : (if a ∈ fsF then (.error 1 : Rs Nat) else .error 0) = .ok (c, n) := h
  by_cases hf : a ∈ fsF
  ·rw [if_pos hf] at h; cases h
  ·rw [if_neg hf] at h; cases h
 | a :: b :: r', h =>
  have h : (if a ∈ fsF then (match sgO a b with | some c => (.ok (c, 2) : Rs Nat) | none => .error 1) else .error 0) = .ok (c, n) := h
  by_cases hf : a ∈ fsF
  ·rw [if_pos hf] at h
   cases hs : sgO a b with
   | none => rw [hs] at h; cases h
   | some d => rw [hs] at h; cases h; exact ⟨a, b, r', rfl, hs, rfl, hf⟩
  ·rw [if_neg hf] at h; cases h
def txtM (fr : List Nat) (r : List Nat) (mo : Option Nat) : Rs (List Nat) :=
 match r with
 | [] => .ok ([], 0)
 | c :: r' =>
  if mo = some 0 then .ok ([], 0)
  else if c = 126 then (match prM r' with | .error n => .error (n + 1) | .ok (s, n) => pre s (n + 1) (txtM fr (r'.drop n) (dec mo)))
  else if isPl c = true ∨ c ∈ fr then pre c 1 (txtM fr r' (dec mo))
  else .ok ([], 0)
termination_by r.length
decreasing_by
 ·simp only [List.length_drop, List.length_cons]; omega
 ·simp only [List.length_cons]; omega
theorem gqk {fr : List Nat} {mo : Option Nat} : txtM fr [] mo = .ok ([], 0) := by rw [txtM]
theorem fqv {fr r : List Nat} : txtM fr r (some 0) = .ok ([], 0) := by
 cases r with
 | nil => exact gqk
 | cons c r => rw [txtM, if_pos rfl]
theorem dqu {fr r : List Nat} {mo : Option Nat} (h : mo ≠ some 0) : txtM fr (126 :: r) mo = (match prM r with | .error n => .error (n + 1) | .ok (s, n) => pre s (n + 1) (txtM fr (r.drop n) (dec mo))) := by
 rw [txtM, if_neg h, if_pos rfl]
theorem eqK {fr r : List Nat} {mo : Option Nat} {c : Nat} (h : mo ≠ some 0) (h1 : c ≠ 126) (h2 : isPl c = true ∨ c ∈ fr) : txtM fr (c :: r) mo = pre c 1 (txtM fr r (dec mo)) := by
 rw [txtM, if_neg h, if_neg h1, if_pos h2]
theorem iqk {fr r : List Nat} {mo : Option Nat} (h : Stops fr r) : txtM fr r mo = .ok ([], 0) := by
 cases r with
 | nil => exact gqk
 | cons c r =>
  obtain ⟨h1, h2, h3⟩ := h c rfl
  by_cases h0 : mo = some 0
  ·rw [h0]; exact fqv
  ·rw [txtM, if_neg h0, if_neg h3, if_neg (fun z => z.elim (fun z => by rw [h1] at z; cases z) h2)]
theorem hqq {fr : List Nat} : ∀ (k : Nat) {r : List Nat} {mo : Option Nat} {s : List Nat} {n : Nat}, r.length ≤ k → txtM fr r mo = .ok (s, n) →
  ∃ w r', r = w ++ r' ∧ w.length = n ∧ WrT fr s w ∧ (Stops fr r' ∨ mo = some s.length) ∧ ∀ m, mo = some m → s.length ≤ m := by
 intro k
 induction k with
 | zero =>
  intro r mo s n hk h
  have hr : r = [] := List.length_eq_zero_iff.mp (by omega)
  subst hr
  rw [gqk] at h
  cases h
  exact ⟨[], [], rfl, rfl, .nil, .inl fq9, fun m _ => Nat.zero_le _⟩
 | succ k ih =>
  intro r mo s n hk h
  cases r with
  | nil =>
   rw [gqk] at h
   cases h
   exact ⟨[], [], rfl, rfl, .nil, .inl fq9, fun m _ => Nat.zero_le _⟩
  | cons c r =>
   simp only [List.length_cons] at hk
   by_cases h0 : mo = some 0
   ·subst h0
    rw [fqv] at h
    cases h
    exact ⟨[], _, rfl, rfl, .nil, .inr rfl, fun m _ => Nat.zero_le _⟩
   have hm : ∀ (s' : List Nat) (x : Nat), (∀ m, dec mo = some m → s'.length ≤ m) → ∀ m, mo = some m → (x :: s').length ≤ m := fun s' x hh m e => by
    subst e
    have := hh (m - 1) rfl
    have h1 : m ≠ 0 := fun z => h0 (by rw [z])
    simp only [List.length_cons]; omega
   have hst : ∀ (s' r' : List Nat) (x : Nat), (Stops fr r' ∨ dec mo = some s'.length) → (Stops fr r' ∨ mo = some (x :: s').length) := fun s' r' x hh => hh.imp id fun e => by
    cases mo with
    | none => cases e
    | some m =>
     have e : some (m - 1) = some s'.length := e
     have h1 : m ≠ 0 := fun z => h0 (by rw [z])
     have e := Option.some.inj e
     rw [List.length_cons, ← e]
     congr 1; omega
   by_cases hc : c = 126
   ·subst hc
    rw [dqu h0] at h
    cases hp : prM r with
    | error e => rw [hp] at h; cases h
    | ok x =>
     obtain ⟨x, nx⟩ := x
     obtain ⟨a, b, r2, rfl, hs, rfl, _⟩ := mqp hp
     rw [hp] at h
     simp only [List.drop_succ_cons, List.drop_zero] at h
     cases ht : txtM fr r2 (dec mo) with
     | error e => rw [ht] at h; cases h
     | ok y =>
      obtain ⟨s', m⟩ := y
      rw [ht] at h
      cases h
      obtain ⟨w, r', e1, e2, e3, e4, e5⟩ := ih (by simp only [List.length_cons] at hk; omega) ht
      refine ⟨126 :: a :: b :: w, r', by rw [e1]; rfl, by simp only [List.length_cons]; omega, .pair hs e3, hst s' r' x e4, hm s' x e5⟩
   ·by_cases hp : isPl c = true ∨ c ∈ fr
    ·rw [eqK h0 hc hp] at h
     cases ht : txtM fr r (dec mo) with
     | error e => rw [ht] at h; cases h
     | ok y =>
      obtain ⟨s', m⟩ := y
      rw [ht] at h
      cases h
      obtain ⟨w, r', e1, e2, e3, e4, e5⟩ := ih (by omega) ht
      exact ⟨c :: w, r', by rw [e1]; rfl, by simp only [List.length_cons]; omega, .self hp hc e3, hst s' r' c e4, hm s' c e5⟩
    ·rw [txtM, if_neg h0, if_neg hc, if_neg hp] at h
     cases h
     refine ⟨[], c :: r, rfl, rfl, .nil, .inl (bqs ⟨?_, fun z => hp (.inr z), hc⟩), fun m _ => Nat.zero_le _⟩
     cases hi : isPl c with
     | false => rfl
     | true => exact absurd (.inl hi) hp
theorem cqn {fr r s : List Nat} {mo : Option Nat} {n : Nat} (h : txtM fr r mo = .ok (s, n)) : n ≤ r.length ∧ s.length ≤ n ∧ (s ≠ [] → 0 < n) := by
 obtain ⟨w, r', e1, e2, e3, _⟩ := hqq r.length (Nat.le_refl _) h
 have := pq8 e3
 refine ⟨by rw [e1, List.length_append]; omega, by omega, fun z => ?_⟩
 have := List.length_pos_iff.mpr z
 omega
theorem jq1 {fr s w r : List Nat} (h : WrT fr s w) : ∀ {mo : Option Nat}, (Stops fr r ∨ mo = some s.length) → (∀ m, mo = some m → s.length ≤ m) → txtM fr (w ++ r) mo = .ok (s, w.length) := by
 induction h with
 | nil =>
  intro mo h1 _
  rcases h1 with h1 | rfl
  ·exact iqk h1
  ·exact fqv
 | self a b _ ih =>
  rename_i c s w _
  intro mo h1 h2
  have h0 : mo ≠ some 0 := fun z => by have := h2 0 z; simp at this
  show txtM fr (c :: (w ++ r)) mo = _
  rw [eqK h0 b a, ih (h1.imp id fun e => by rw [e]; rfl) (fun m e => by
   cases mo with
   | none => cases e
   | some k => cases e; have := h2 k rfl; simp only [List.length_cons] at this; show s.length ≤ k - 1; omega)]
  show Except.ok (c :: s, 1 + w.length) = _
  rw [List.length_cons, Nat.add_comm]
 | pair hs _ ih =>
  rename_i c a b s w _
  intro mo h1 h2
  have h0 : mo ≠ some 0 := fun z => by have := h2 0 z; simp at this
  have hf : a ∈ fsF := by
   have := (kqt hs).1
   rw [show (Str.ofString "234567").cps.toList = fsF by decide +kernel] at this
   exact this
  have hp : prM (a :: b :: (w ++ r)) = .ok (c, 2) := by
   show (if a ∈ fsF then _ else _) = _
   rw [if_pos hf, hs]
  show txtM fr (126 :: (a :: b :: (w ++ r))) mo = _
  rw [dqu h0, hp]
  show pre c 3 (txtM fr (w ++ r) (dec mo)) = _
  rw [ih (h1.imp id fun e => by rw [e]; rfl) (fun m e => by
   cases mo with
   | none => cases e
   | some k => cases e; have := h2 k rfl; simp only [List.length_cons] at this; show s.length ≤ k - 1; omega)]
  show Except.ok (c :: s, 3 + w.length) = _
  simp only [List.length_cons]
  rw [Nat.add_comm]
def filM (fr r : List Nat) (mo : Option Nat) : Rs (List Nat) := match txtM fr r mo with
 | .error n => .error n
 | .ok (s, n) => if s = [] then .error n else .ok (s, n)
def houM (r : List Nat) : Rs (Option (List Nat)) := if r.take 2 = [47, 47] then sh 2 (mp some (filM [] (r.drop 2) (some 60))) else .ok (none, 0)
def dooG : List Nat → Nat → Nat × Nat
 | [], n => (n, 0)
 | c :: r, n => if 0 < n ∧ 48 ≤ c ∧ c ≤ 57 ∧ n * 10 + (c - 48) ≤ 65535 then ((dooG r (n * 10 + (c - 48))).1, (dooG r (n * 10 + (c - 48))).2 + 1) else (n, 0)
def dooM (r : List Nat) : Rs (Option Int) := if r.head? = some 58 then
  match r.drop 1 with
  | [] => .error 1
  | c :: r' => if 48 ≤ c ∧ c ≤ 57 then .ok (some ((dooG r' (c - 48)).1 : Int), 2 + (dooG r' (c - 48)).2) else .error 1
 else .ok (none, 0)
def stpF : Nat → List Nat → Bool → Rs (List (List Nat) × Bool)
 | 0, _, e => .ok (([], e), 0)
 | f + 1, r, e => match txtM frS r none with
  | .error n => .error n
  | .ok (s, n) => if s = [] then .ok (([], e), n)
   else if (r.drop n).head? = some 47 then sh (n + 1) (mp (fun x => (s :: x.1, x.2)) (stpF f (r.drop (n + 1)) true))
   else sh n (mp (fun x => (s :: x.1, x.2)) (stpF f (r.drop n) false))
def wayM (must : Bool) (r : List Nat) : Rs (Bool × List (List Nat) × Bool) :=
 if r.head? = some 47 then sh 1 (mp (fun x => (true, x)) (stpF (r.length + 1) (r.drop 1) true))
 else if must = true then .ok ((true, [], true), 0)
 else mp (fun x => (false, x)) (stpF (r.length + 1) r false)
def valM (r : List Nat) : Rs (Option (List Nat)) := if r.head? = some 61 then sh 1 (mp some (txtM frQ (r.drop 1) none)) else .ok (none, 0)
def marM (r : List Nat) : Rs (Option (List Nat)) := if r.head? = some 35 then sh 1 (mp some (txtM frM (r.drop 1) none)) else .ok (none, 0)
def bdR {α β : Type} (x : Rs α) (f : α → Nat → Rs β) : Rs β := match x with
 | .error n => .error n
 | .ok (a, n) => sh n (f a n)
def prsF : Nat → List Nat → Rs (List (List Nat × Option (List Nat)))
 | 0, _ => .ok ([], 0)
 | f + 1, r => if r.head? = some 38 then
   sh 1 (bdR (filM frQ (r.drop 1) none) fun s n => bdR (valM (r.drop (1 + n))) fun v m => mp (fun l => (s, v) :: l) (prsF f (r.drop (1 + n + m))))
  else .ok ([], 0)
def queM (r : List Nat) : Rs (Option (List (List Nat × Option (List Nat)))) := if r.head? = some 63 then
  sh 1 (bdR (txtM frQ (r.drop 1) none) fun s n => if s = [] then .ok (some [], 0) else
   bdR (valM (r.drop (1 + n))) fun v m => mp (fun l => some ((s, v) :: l)) (prsF (r.length + 1) (r.drop (1 + n + m))))
 else .ok (none, 0)
def bdA {α β : Type} (x : Rs α) (i : Nat) (f : α → Nat → Except Nat β) : Except Nat β := match x with
 | .error n => .error (i + n)
 | .ok (a, n) => f a (i + n)
theorem lqf {α β : Type} {a : α} {n i : Nat} {f : α → Nat → Except Nat β} : bdA (.ok (a, n)) i f = f a (i + n) := rfl
theorem iqz {α β : Type} {n i : Nat} {f : α → Nat → Except Nat β} : bdA (.error n : Rs α) i f = .error (i + n) := rfl
def dorM (h : Option (List Nat)) (r : List Nat) : Rs (Option Int) := if h = none then .ok (none, 0) else dooM r
def readM (t : List Nat) : Except Nat Ad :=
 bdA (houM (t.drop (schP t))) (schP t) fun h i => bdA (dorM h (t.drop i)) i fun d i => bdA (wayM (decide (schM t ≠ [] ∨ h ≠ none)) (t.drop i)) i fun w i =>
  bdA (queM (t.drop i)) i fun q i => bdA (marM (t.drop i)) i fun m i => if i = t.length then .ok ⟨schM t, h, d, w.1, w.2.1, w.2.2, q, m⟩ else .error i
section
variable {t : List Nat} {h : Option (List Nat)} {d : Option Int} {w : Bool × List (List Nat) × Bool} {q : Option (List (List Nat × Option (List Nat)))} {m : Option (List Nat)} {n n1 n2 n3 n4 n5 : Nat}
theorem oqp (e1 : houM (t.drop (schP t)) = .error n) : readM t = .error (schP t + n) := by unfold readM; simp only [e1, lqf, iqz]
theorem oqG (e1 : houM (t.drop (schP t)) = .ok (h, n1)) (e2 : dorM h (t.drop (schP t + n1)) = .error n) : readM t = .error (schP t + n1 + n) := by
 unfold readM; simp only [e1, e2, lqf, iqz]
theorem nqW (e1 : houM (t.drop (schP t)) = .ok (h, n1)) (e2 : dorM h (t.drop (schP t + n1)) = .ok (d, n2)) (e3 : wayM (decide (schM t ≠ [] ∨ h ≠ none)) (t.drop (schP t + n1 + n2)) = .error n) : readM t = .error (schP t + n1 + n2 + n) := by
 unfold readM; simp only [e1, e2, e3, lqf, iqz]
theorem oqM (e1 : houM (t.drop (schP t)) = .ok (h, n1)) (e2 : dorM h (t.drop (schP t + n1)) = .ok (d, n2)) (e3 : wayM (decide (schM t ≠ [] ∨ h ≠ none)) (t.drop (schP t + n1 + n2)) = .ok (w, n3)) (e4 : queM (t.drop (schP t + n1 + n2 + n3)) = .error n) : readM t = .error (schP t + n1 + n2 + n3 + n) := by
 unfold readM; simp only [e1, e2, e3, e4, lqf, iqz]
theorem nq9 (e1 : houM (t.drop (schP t)) = .ok (h, n1)) (e2 : dorM h (t.drop (schP t + n1)) = .ok (d, n2)) (e3 : wayM (decide (schM t ≠ [] ∨ h ≠ none)) (t.drop (schP t + n1 + n2)) = .ok (w, n3)) (e4 : queM (t.drop (schP t + n1 + n2 + n3)) = .ok (q, n4)) (e5 : marM (t.drop (schP t + n1 + n2 + n3 + n4)) = .error n) : readM t = .error (schP t + n1 + n2 + n3 + n4 + n) := by
 unfold readM; simp only [e1, e2, e3, e4, e5, lqf, iqz]
theorem lqh (e1 : houM (t.drop (schP t)) = .ok (h, n1)) (e2 : dorM h (t.drop (schP t + n1)) = .ok (d, n2)) (e3 : wayM (decide (schM t ≠ [] ∨ h ≠ none)) (t.drop (schP t + n1 + n2)) = .ok (w, n3)) (e4 : queM (t.drop (schP t + n1 + n2 + n3)) = .ok (q, n4)) (e5 : marM (t.drop (schP t + n1 + n2 + n3 + n4)) = .ok (m, n5)) :
  readM t = if schP t + n1 + n2 + n3 + n4 + n5 = t.length then .ok ⟨schM t, h, d, w.1, w.2.1, w.2.2, q, m⟩ else .error (schP t + n1 + n2 + n3 + n4 + n5) := by
 unfold readM; simp only [e1, e2, e3, e4, e5, lqf, iqz]
end
section
variable {r : List Nat} {n : Nat}
theorem iqp {fr : List Nat} {mo : Option Nat} {s : List Nat} (h : filM fr r mo = .ok (s, n)) : txtM fr r mo = .ok (s, n) ∧ s ≠ [] := by
 unfold filM at h
 cases e : txtM fr r mo with
 | error k => rw [e] at h; cases h
 | ok x =>
  obtain ⟨s', k⟩ := x
  rw [e] at h
  have h : (if s' = [] then (.error k : Rs (List Nat)) else .ok (s', k)) = .ok (s, n) := h
  by_cases hs : s' = []
  ·rw [if_pos hs] at h; cases h
  ·rw [if_neg hs] at h; cases h; exact ⟨rfl, hs⟩
theorem eqD {α : Type} {k : Nat} {x : Rs α} {a : α} (h : sh k x = .ok (a, n)) : ∃ m, x = .ok (a, m) ∧ n = k + m := by
 cases x with
 | error e => cases h
 | ok y => obtain ⟨y, m⟩ := y; cases h; exact ⟨m, rfl, rfl⟩
theorem dq1 {α β : Type} {f : α → β} {x : Rs α} {b : β} (h : mp f x = .ok (b, n)) : ∃ a, x = .ok (a, n) ∧ b = f a := by
 cases x with
 | error e => cases h
 | ok y => obtain ⟨y, m⟩ := y; cases h; exact ⟨y, rfl, rfl⟩
theorem fqZ {α β : Type} {x : Rs α} {f : α → Nat → Rs β} {b : β} (h : bdR x f = .ok (b, n)) : ∃ a k m, x = .ok (a, k) ∧ f a k = .ok (b, m) ∧ n = k + m := by
 cases x with
 | error e => cases h
 | ok y =>
  obtain ⟨y, k⟩ := y
  obtain ⟨m, e, en⟩ := eqD (show sh k (f y k) = _ from h)
  exact ⟨y, k, m, rfl, e, en⟩
theorem bqh {c : Nat} (h : r.head? = some c) : 1 ≤ r.length := by
 cases r with
 | nil => cases h
 | cons d r => simp
theorem oqN {o : Option (List Nat)} (h : houM r = .ok (o, n)) : n ≤ r.length := by
 unfold houM at h
 by_cases h2 : r.take 2 = [47, 47]
 ·rw [if_pos h2] at h
  obtain ⟨m, e, rfl⟩ := eqD h
  obtain ⟨a, e', rfl⟩ := dq1 e
  have h1 := (cqn (iqp e').1).1
  have h3 := congrArg List.length h2
  rw [List.length_take] at h3
  simp only [List.length_cons, List.length_nil] at h3
  rw [List.length_drop] at h1
  omega
 ·rw [if_neg h2] at h; cases h; omega
theorem oqs {o : Option (List Nat)} (h : valM r = .ok (o, n)) : n ≤ r.length := by
 unfold valM at h
 by_cases h2 : r.head? = some 61
 ·rw [if_pos h2] at h
  obtain ⟨m, e, rfl⟩ := eqD h
  obtain ⟨a, e', rfl⟩ := dq1 e
  have h1 := (cqn e').1
  have := bqh h2
  rw [List.length_drop] at h1
  omega
 ·rw [if_neg h2] at h; cases h; omega
theorem qq5 {o : Option (List Nat)} (h : marM r = .ok (o, n)) : n ≤ r.length := by
 unfold marM at h
 by_cases h2 : r.head? = some 35
 ·rw [if_pos h2] at h
  obtain ⟨m, e, rfl⟩ := eqD h
  obtain ⟨a, e', rfl⟩ := dq1 e
  have h1 := (cqn e').1
  have := bqh h2
  rw [List.length_drop] at h1
  omega
 ·rw [if_neg h2] at h; cases h; omega
theorem qqM : ∀ (r : List Nat) (k : Nat), k ≤ 65535 → (dooG r k).2 ≤ r.length ∧ (dooG r k).1 ≤ 65535
 | [], k, h => ⟨Nat.zero_le _, h⟩
 | c :: r, k, h => by
  unfold dooG
  by_cases hc : 0 < k ∧ 48 ≤ c ∧ c ≤ 57 ∧ k * 10 + (c - 48) ≤ 65535
  ·rw [if_pos hc]
   have := qqM r _ hc.2.2.2
   simp only [List.length_cons]
   exact ⟨by omega, this.2⟩
  ·rw [if_neg hc]; exact ⟨Nat.zero_le _, h⟩
theorem tqj {o : Option Int} (h : dooM r = .ok (o, n)) : n ≤ r.length ∧ ∀ i, o = some i → 0 ≤ i ∧ i ≤ 65535 := by
 unfold dooM at h
 by_cases h2 : r.head? = some 58
 ·rw [if_pos h2] at h
  have hl := bqh h2
  cases hd : r.drop 1 with
  | nil => rw [hd] at h; cases h
  | cons c r' =>
   rw [hd] at h
   have h : (if 48 ≤ c ∧ c ≤ 57 then (.ok (some ((dooG r' (c - 48)).1 : Int), 2 + (dooG r' (c - 48)).2) : Rs (Option Int)) else .error 1) = .ok (o, n) := h
   by_cases hc : 48 ≤ c ∧ c ≤ 57
   ·rw [if_pos hc] at h
    cases h
    have := qqM r' (c - 48) (by omega)
    have h3 := congrArg List.length hd
    rw [List.length_drop, List.length_cons] at h3
    exact ⟨by omega, fun i e => by cases e; omega⟩
   ·rw [if_neg hc] at h; cases h
 ·rw [if_neg h2] at h; cases h; exact ⟨Nat.zero_le _, fun i e => by cases e⟩
theorem oqb {ho : Option (List Nat)} {o : Option Int} (h : dorM ho r = .ok (o, n)) : n ≤ r.length ∧ ∀ i, o = some i → (0 ≤ i ∧ i ≤ 65535) ∧ ho ≠ none := by
 unfold dorM at h
 by_cases h2 : ho = none
 ·rw [if_pos h2] at h; cases h; exact ⟨Nat.zero_le _, fun i e => by cases e⟩
 ·rw [if_neg h2] at h
  exact ⟨(tqj h).1, fun i e => ⟨(tqj h).2 i e, h2⟩⟩
theorem qqT : ∀ (f : Nat) {r : List Nat} {e : Bool} {ss : List (List Nat)} {e' : Bool} {n : Nat}, stpF f r e = .ok ((ss, e'), n) → n ≤ r.length ∧ (∀ s ∈ ss, ∃ w, s ≠ [] ∧ WrT frS s w ∧ w.length ≤ r.length) ∧ ss.length ≤ n ∧ (ss = [] → e' = e)
 | 0, r, e, ss, e', n, h => by cases h; exact ⟨Nat.zero_le _, (fun s hs => by cases hs), Nat.le_refl _, fun _ => rfl⟩
 | f + 1, r, e, ss, e', n, h => by
  unfold stpF at h
  cases ht : txtM frS r none with
  | error k => rw [ht] at h; cases h
  | ok x =>
   obtain ⟨s, k⟩ := x
   rw [ht] at h
   have h : (if s = [] then (.ok (([], e), k) : Rs (List (List Nat) × Bool)) else if (r.drop k).head? = some 47 then sh (k + 1) (mp (fun x => (s :: x.1, x.2)) (stpF f (r.drop (k + 1)) true)) else sh k (mp (fun x => (s :: x.1, x.2)) (stpF f (r.drop k) false))) = .ok ((ss, e'), n) := h
   obtain ⟨t1, t2, t3⟩ := cqn ht
   by_cases hs : s = []
   ·rw [if_pos hs] at h; cases h; exact ⟨t1, (fun s hs => by cases hs), Nat.zero_le _, fun _ => rfl⟩
   rw [if_neg hs] at h
   have hk := t3 hs
   obtain ⟨w, r', e1, e2, e3, _⟩ := hqq r.length (Nat.le_refl _) ht
   have fin : ∀ (b : Nat) (en : Bool) (k' : Nat), k ≤ k' → k' ≤ r.length → sh k' (mp (fun x => (s :: x.1, x.2)) (stpF f (r.drop k') en)) = .ok ((ss, e'), n) → n ≤ r.length ∧ (∀ s ∈ ss, ∃ w, s ≠ [] ∧ WrT frS s w ∧ w.length ≤ r.length) ∧ ss.length ≤ n ∧ (ss = [] → e' = e) := fun b en k' hkk hkl h => by
    obtain ⟨m, h2, rfl⟩ := eqD h
    obtain ⟨a, h3, ea⟩ := dq1 h2
    obtain ⟨as, ae⟩ := a
    cases ea
    obtain ⟨i1, i2, i3, i4⟩ := qqT f h3
    rw [List.length_drop] at i1 i2
    refine ⟨by omega, fun x hx => ?_, by simp only [List.length_cons]; omega, fun z => by cases z⟩
    rcases List.mem_cons.mp hx with rfl | hx
    ·exact ⟨w, hs, e3, by omega⟩
    ·obtain ⟨w, z1, z2, z3⟩ := i2 x hx
     exact ⟨w, z1, z2, by omega⟩
   by_cases h47 : (r.drop k).head? = some 47
   ·rw [if_pos h47] at h
    have := bqh h47
    rw [List.length_drop] at this
    exact fin 0 true (k + 1) (by omega) (by omega) h
   ·rw [if_neg h47] at h
    exact fin 0 false k (Nat.le_refl _) t1 h
theorem mqO {must : Bool} {w : Bool × List (List Nat) × Bool} (h : wayM must r = .ok (w, n)) : n ≤ r.length ∧ (∀ s ∈ w.2.1, ∃ v, s ≠ [] ∧ WrT frS s v ∧ v.length ≤ r.length) ∧ w.2.1.length ≤ n ∧ (w.2.1 = [] → w.2.2 = w.1) ∧ (must = true → w.1 = true) := by
 unfold wayM at h
 by_cases h1 : r.head? = some 47
 ·rw [if_pos h1] at h
  obtain ⟨m, h2, rfl⟩ := eqD h
  obtain ⟨a, h3, rfl⟩ := dq1 h2
  obtain ⟨as, ae⟩ := a
  obtain ⟨i1, i2, i3, i4⟩ := qqT _ h3
  have := bqh h1
  rw [List.length_drop] at i1 i2
  refine ⟨by omega, fun s hs => ?_, by show as.length ≤ _; omega, i4, fun _ => rfl⟩
  obtain ⟨v, z1, z2, z3⟩ := i2 s hs
  exact ⟨v, z1, z2, by omega⟩
 ·rw [if_neg h1] at h
  by_cases h2 : must = true
  ·rw [if_pos h2] at h
   cases h
   exact ⟨Nat.zero_le _, (fun s hs => by cases hs), Nat.zero_le _, fun _ => rfl, fun _ => rfl⟩
  ·rw [if_neg h2] at h
   obtain ⟨a, h3, rfl⟩ := dq1 h
   obtain ⟨as, ae⟩ := a
   obtain ⟨i1, i2, i3, i4⟩ := qqT _ h3
   exact ⟨i1, i2, i3, i4, fun z => absurd z h2⟩
end
def Tk {α : Type} (CN : Addr) (H : Hp) (C p : Addr) (t : List Nat) (i : Nat) (r : Rs α) (ok : α → Hp → Prop) (E : XK) : Prop :=
 (∀ a n, r = .ok (a, n) → ∀ H', SameBut p H H' → Cur H' C p t (i + n) → ok a H') ∧
 (∀ n, r = .error n → ∀ d H', SameBut p H H' → H' d = some (.xd [("at", .int ((i + n : Nat) : Int))]) → E (.ref CN) (some d) H')
end Wm
namespace Wm
open PySem L2
section
variable {r : List Nat} {n : Nat}
theorem sqV {o : Option (List Nat)} (h : valM r = .ok (o, n)) : n ≤ r.length ∧ ∀ s, o = some s → ∃ w, WrT frQ s w ∧ w.length ≤ r.length := by
 refine ⟨oqs h, fun s es => ?_⟩
 unfold valM at h
 by_cases h2 : r.head? = some 61
 ·rw [if_pos h2] at h
  obtain ⟨m, e, rfl⟩ := eqD h
  obtain ⟨a, e', rfl⟩ := dq1 e
  cases es
  obtain ⟨w, r', e1, e2, e3, _⟩ := hqq _ (Nat.le_refl _) e'
  refine ⟨w, e3, ?_⟩
  have := congrArg List.length e1
  rw [List.length_drop, List.length_append] at this
  omega
 ·rw [if_neg h2] at h; cases h; cases es
theorem sqN {o : Option (List Nat)} (h : marM r = .ok (o, n)) : n ≤ r.length ∧ ∀ s, o = some s → ∃ w, WrT frM s w ∧ w.length ≤ r.length := by
 refine ⟨qq5 h, fun s es => ?_⟩
 unfold marM at h
 by_cases h2 : r.head? = some 35
 ·rw [if_pos h2] at h
  obtain ⟨m, e, rfl⟩ := eqD h
  obtain ⟨a, e', rfl⟩ := dq1 e
  cases es
  obtain ⟨w, r', e1, e2, e3, _⟩ := hqq _ (Nat.le_refl _) e'
  refine ⟨w, e3, ?_⟩
  have := congrArg List.length e1
  rw [List.length_drop, List.length_append] at this
  omega
 ·rw [if_neg h2] at h; cases h; cases es
theorem vq5 {o : Option (List Nat)} (h : houM r = .ok (o, n)) : n ≤ r.length ∧ ∀ s, o = some s → s ≠ [] ∧ s.length ≤ 60 ∧ ∃ w, WrT [] s w := by
 refine ⟨oqN h, fun s es => ?_⟩
 unfold houM at h
 by_cases h2 : r.take 2 = [47, 47]
 ·rw [if_pos h2] at h
  obtain ⟨m, e, rfl⟩ := eqD h
  obtain ⟨a, e', rfl⟩ := dq1 e
  cases es
  obtain ⟨e1, e2⟩ := iqp e'
  obtain ⟨w, r', z1, z2, z3, z4, z5⟩ := hqq _ (Nat.le_refl _) e1
  exact ⟨e2, z5 60 rfl, w, z3⟩
 ·rw [if_neg h2] at h; cases h; cases es
def PrOk (k : Nat) (p : List Nat × Option (List Nat)) : Prop := (p.1 ≠ [] ∧ ∃ w, WrT frQ p.1 w ∧ w.length ≤ k) ∧ ∀ s, p.2 = some s → ∃ w, WrT frQ s w ∧ w.length ≤ k
theorem PrOk.mono {k k' : Nat} {p : List Nat × Option (List Nat)} (h : PrOk k p) (z : k ≤ k') : PrOk k' p :=
 ⟨⟨h.1.1, let ⟨w, a, b⟩ := h.1.2; ⟨w, a, Nat.le_trans b z⟩⟩, fun s e => let ⟨w, a, b⟩ := h.2 s e; ⟨w, a, Nat.le_trans b z⟩⟩
theorem sqT : ∀ (f : Nat) {r : List Nat} {l : List (List Nat × Option (List Nat))} {n : Nat}, prsF f r = .ok (l, n) → n ≤ r.length ∧ (∀ p ∈ l, PrOk r.length p) ∧ l.length ≤ n
 | 0, r, l, n, h => by cases h; exact ⟨Nat.zero_le _, (fun s hs => by cases hs), Nat.le_refl _⟩
 | f + 1, r, l, n, h => by
  unfold prsF at h
  by_cases h2 : r.head? = some 38
  ·rw [if_pos h2] at h
   obtain ⟨m, h3, rfl⟩ := eqD h
   obtain ⟨s, k, m2, e1, h4, rfl⟩ := fqZ h3
   obtain ⟨v, k2, m3, e2, h5, rfl⟩ := fqZ h4
   obtain ⟨l', h6, rfl⟩ := dq1 h5
   obtain ⟨i1, i2, i3⟩ := sqT f h6
   obtain ⟨t1, t2⟩ := iqp e1
   obtain ⟨w, r', z1, z2, z3, _⟩ := hqq _ (Nat.le_refl _) t1
   have hh := bqh h2
   have tl := (cqn t1).1
   have vl := sqV e2
   rw [List.length_drop] at i1 i2 tl vl
   have wl := congrArg List.length z1
   rw [List.length_drop, List.length_append] at wl
   refine ⟨by omega, fun p hp => ?_, by simp only [List.length_cons]; omega⟩
   rcases List.mem_cons.mp hp with rfl | hp
   ·exact ⟨⟨t2, w, z3, by omega⟩, fun s e => let ⟨w, a, b⟩ := vl.2 s e; ⟨w, a, by omega⟩⟩
   ·exact (i2 p hp).mono (by omega)
  ·rw [if_neg h2] at h; cases h; exact ⟨Nat.zero_le _, (fun s hs => by cases hs), Nat.zero_le _⟩
theorem mqH {o : Option (List (List Nat × Option (List Nat)))} (h : queM r = .ok (o, n)) : n ≤ r.length ∧ ∀ l, o = some l → (∀ p ∈ l, PrOk r.length p) ∧ l.length ≤ n := by
 unfold queM at h
 by_cases h2 : r.head? = some 63
 ·rw [if_pos h2] at h
  obtain ⟨m, h3, rfl⟩ := eqD h
  obtain ⟨s, k, m2, e1, h4, rfl⟩ := fqZ h3
  have hh := bqh h2
  have tl := (cqn e1).1
  rw [List.length_drop] at tl
  have h4 : (if s = [] then (.ok (some [], 0) : Rs (Option (List (List Nat × Option (List Nat))))) else bdR (valM (r.drop (1 + k))) fun v m => mp (fun l => some ((s, v) :: l)) (prsF (r.length + 1) (r.drop (1 + k + m)))) = .ok (o, m2) := h4
  by_cases hs : s = []
  ·rw [if_pos hs] at h4
   cases h4
   exact ⟨by omega, fun l e => by cases e; exact ⟨(fun s hs => by cases hs), Nat.zero_le _⟩⟩
  ·rw [if_neg hs] at h4
   obtain ⟨v, k2, m3, e2, h5, rfl⟩ := fqZ h4
   obtain ⟨l', h6, rfl⟩ := dq1 h5
   obtain ⟨i1, i2, i3⟩ := sqT _ h6
   obtain ⟨w, r', z1, z2, z3, _⟩ := hqq _ (Nat.le_refl _) e1
   have vl := sqV e2
   rw [List.length_drop] at i1 i2 vl
   have wl := congrArg List.length z1
   rw [List.length_drop, List.length_append] at wl
   have hk := (cqn e1).2.2 hs
   refine ⟨by omega, fun l e => ?_⟩
   cases e
   refine ⟨fun p hp => ?_, by simp only [List.length_cons]; omega⟩
   rcases List.mem_cons.mp hp with rfl | hp
   ·exact ⟨⟨hs, w, z3, by omega⟩, fun s e => let ⟨w, a, b⟩ := vl.2 s e; ⟨w, a, by omega⟩⟩
   ·exact (i2 p hp).mono (by omega)
 ·rw [if_neg h2] at h; cases h; exact ⟨Nat.zero_le _, fun l e => by cases e⟩
end
theorem jq9 {α β : Type} {x : Rs α} {i : Nat} {f : α → Nat → Except Nat β} {b : β} (h : bdA x i f = .ok b) : ∃ a n, x = .ok (a, n) ∧ f a (i + n) = .ok b := by
 cases x with
 | error e => cases h
 | ok y => obtain ⟨a, n⟩ := y; exact ⟨a, n, rfl, h⟩
theorem nq5 {t : List Nat} {x : Ad} (e : readM t = .ok x) : ∃ n1 n2 n3 n4 n5, houM (t.drop (schP t)) = .ok (x.house, n1) ∧ dorM x.house (t.drop (schP t + n1)) = .ok (x.door, n2) ∧ wayM (decide (schM t ≠ [] ∨ x.house ≠ none)) (t.drop (schP t + n1 + n2)) = .ok ((x.rooted, x.steps, x.ends), n3) ∧
  queM (t.drop (schP t + n1 + n2 + n3)) = .ok (x.quest, n4) ∧ marM (t.drop (schP t + n1 + n2 + n3 + n4)) = .ok (x.mark, n5) ∧ schP t + n1 + n2 + n3 + n4 + n5 = t.length ∧ x.scheme = schM t := by
 unfold readM at e
 obtain ⟨h, n1, e1, e⟩ := jq9 e
 obtain ⟨d, n2, e2, e⟩ := jq9 e
 obtain ⟨w, n3, e3, e⟩ := jq9 e
 obtain ⟨q, n4, e4, e⟩ := jq9 e
 obtain ⟨m, n5, e5, e⟩ := jq9 e
 by_cases hl : schP t + n1 + n2 + n3 + n4 + n5 = t.length
 ·rw [if_pos hl] at e
  cases e
  exact ⟨n1, n2, n3, n4, n5, e1, e2, e3, e4, e5, hl, rfl⟩
 ·rw [if_neg hl] at e; cases e
theorem vqI : ∀ c ∈ frS, isSg c = true := by decide +kernel
theorem sq3 : ∀ c ∈ frQ, isSg c = true := by decide +kernel
theorem wqG : ∀ c ∈ frM, isSg c = true := by decide +kernel
theorem xqi {c : Nat} (h : isPl c = true) : isSg c = true := by
 simp only [isPl, isSg, Bool.or_eq_true, Bool.and_eq_true, decide_eq_true_eq, Bool.not_eq_true', decide_eq_false_iff_not] at *
 omega
theorem mqX {fr s w : List Nat} (hf : ∀ c ∈ fr, isSg c = true) (h : WrT fr s w) : ∀ c ∈ s, isSg c = true := by
 induction h with
 | nil => intro c hc; cases hc
 | self a _ _ ih =>
  intro c hc
  rcases List.mem_cons.mp hc with rfl | hc
  ·exact a.elim xqi (hf _)
  ·exact ih c hc
 | pair a _ ih =>
  intro c hc
  rcases List.mem_cons.mp hc with rfl | hc
  ·exact (kqt a).2.2.2
  ·exact ih c hc
theorem uqI (t : List Nat) : (schM t).length ≤ 8 ∧ (∀ c ∈ schM t, isAln c = true) ∧ ∀ c ∈ (schM t).take 1, isLet c = true := by
 by_cases h : ahead t ≠ [] ∧ schD (.str ⟨(ahead t).toArray⟩) = true ∧ t[(ahead t).length]? = some 58
 ·rw [(hqD h.1 h.2.1 h.2.2).1]
  have h2 := h.2.1
  simp only [schD, Bool.and_eq_true, List.all_eq_true, decide_eq_true_eq] at h2
  exact ⟨h2.1.1.2, h2.2, h2.1.2⟩
 ·rw [(fqP h).1]
  exact ⟨Nat.zero_le _, (fun c hc => by cases hc), fun c hc => by cases hc⟩
theorem lq9 (t : List Nat) : schP t ≤ t.length := by
 by_cases h : ahead t ≠ [] ∧ schD (.str ⟨(ahead t).toArray⟩) = true ∧ t[(ahead t).length]? = some 58
 ·rw [(hqD h.1 h.2.1 h.2.2).2, List.length_append, List.length_singleton]
  have := (List.getElem?_eq_some_iff.mp h.2.2).1
  omega
 ·rw [(fqP h).2]; exact Nat.zero_le _
theorem tqI {t : List Nat} {x : Ad} (e : readM t = .ok x) : x.Wf := by
 obtain ⟨n1, n2, n3, n4, n5, e1, e2, e3, e4, e5, hl, es⟩ := nq5 e
 have w3 := mqO e3
 have q4 := mqH e4
 have m5 := sqN e5
 refine ⟨by rw [es]; exact uqI t, fun l z => ?_, fun i z => (oqb e2).2 i z, fun s hs => ?_, fun z => ?_, w3.2.2.2.1, fun ps z p hp => ?_, fun l z => ?_⟩
 ·obtain ⟨h1, h2, w, h3⟩ := (vq5 e1).2 l z
  exact ⟨⟨List.length_pos_iff.mpr h1, h2⟩, mqX (fun c hc => by cases hc) h3⟩
 ·obtain ⟨w, h1, h2, _⟩ := w3.2.1 s hs
  exact ⟨List.length_pos_iff.mpr h1, mqX vqI h2⟩
 ·refine w3.2.2.2.2 (decide_eq_true ?_)
  rw [es] at z
  exact z
 ·obtain ⟨⟨h1, w, h2, _⟩, h3⟩ := (q4.2 ps z).1 p hp
  exact ⟨⟨List.length_pos_iff.mpr h1, mqX sq3 h2⟩, fun v ev => let ⟨w, a, _⟩ := h3 v ev; mqX sq3 a⟩
 ·obtain ⟨w, h1, _⟩ := m5.2 l z
  exact mqX wqG h1
end Wm
namespace Wm
open PySem L2
theorem wqH {o : Option (List Nat)} {w r : List Nat} (h : HouW o w) (h1 : o ≠ none → Stops [] r) (h2 : o = none → ¬ r.take 2 = [47, 47]) : houM (w ++ r) = .ok (o, w.length) := by
 cases o with
 | none =>
  have h : w = [] := h
  subst h
  unfold houM
  rw [List.nil_append, if_neg (h2 rfl)]; rfl
 | some s =>
  obtain ⟨v, rfl, hv, hne, hl⟩ := h
  unfold houM
  rw [if_pos (by simp)]
  have e : txtM [] (v ++ r) (some 60) = .ok (s, v.length) := jq1 hv (.inl (h1 (by simp))) (fun m e => by cases e; exact hl)
  have e2 : filM [] (v ++ r) (some 60) = .ok (s, v.length) := by unfold filM; rw [e]; exact if_neg hne
  show sh 2 (mp some (filM [] (v ++ r) (some 60))) = _
  rw [e2]
  show Except.ok (some s, 2 + v.length) = _
  simp only [List.length_cons]
  rw [Nat.add_comm]
theorem pqI : ∀ (ds dn r : List Nat), (∀ c ∈ ds, 48 ≤ c ∧ c ≤ 57) → (∀ c, r.head? = some c → ¬ (48 ≤ c ∧ c ≤ 57)) → (ds ≠ [] → 0 < valD dn) → valD (dn ++ ds) ≤ 65535 → dooG (ds ++ r) (valD dn) = (valD (dn ++ ds), ds.length)
 | [], dn, r, _, h2, _, _ => by
  rw [List.nil_append, List.append_nil]
  cases r with
  | nil => rfl
  | cons c r => unfold dooG; rw [if_neg (fun z => h2 c rfl ⟨z.2.1, z.2.2.1⟩)]; rfl
 | c :: ds, dn, r, h1, h2, h3, h4 => by
  have hc := h1 c (List.mem_cons_self ..)
  have h0 := h3 (by simp)
  have hle := qqp ds (dn ++ [c])
  rw [List.append_assoc] at hle
  have hle : valD (dn ++ [c]) ≤ valD (dn ++ c :: ds) := hle
  rw [fqo] at hle
  have ih := pqI ds (dn ++ [c]) r (fun x hx => h1 x (List.mem_cons_of_mem _ hx)) h2 (fun _ => by rw [fqo]; omega) (by rw [List.append_assoc]; exact h4)
  rw [fqo, List.append_assoc] at ih
  show dooG (c :: (ds ++ r)) (valD dn) = _
  unfold dooG
  rw [if_pos ⟨h0, hc.1, hc.2, by omega⟩, ih]
  rfl
theorem vqn {o : Option Int} {w r : List Nat} (h : DooW o w) (h1 : ∀ c, r.head? = some c → ¬ (48 ≤ c ∧ c ≤ 57)) (h2 : o = none → r.head? ≠ some 58) : dooM (w ++ r) = .ok (o, w.length) := by
 cases o with
 | none =>
  have h : w = [] := h
  subst h
  unfold dooM
  rw [List.nil_append, if_neg (h2 rfl)]; rfl
 | some n =>
  obtain ⟨ds, rfl, hne, hf, rfl, hl, hz⟩ := h
  cases ds with
  | nil => exact absurd rfl hne
  | cons c ds =>
   have hc := hf c (List.mem_cons_self ..)
   unfold dooM
   rw [if_pos (by simp)]
   show (if 48 ≤ c ∧ c ≤ 57 then (.ok (some ((dooG (ds ++ r) (c - 48)).1 : Int), 2 + (dooG (ds ++ r) (c - 48)).2) : Rs (Option Int)) else .error 1) = _
   have e0 : valD [c] = c - 48 := by unfold valD; simp
   have e := pqI ds [c] r (fun x hx => hf x (List.mem_cons_of_mem _ hx)) h1 (fun hd => by
    rcases hz with z | z
    ·cases ds with
     | nil => exact absurd rfl hd
     | cons _ _ => cases z
    ·rw [e0]
     have : c ≠ 48 := fun q => z (by rw [q]; rfl)
     omega) hl
   rw [e0] at e
   rw [if_pos hc, e]
   show Except.ok (some ((valD (c :: ds) : Nat) : Int), 2 + ds.length) = _
   simp only [List.length_cons]
   rw [Nat.add_comm 2 ds.length]
theorem tqg {ss : List (List Nat)} {e : Bool} {v rest : List Nat} (h2 : Stops frS rest) (h3 : rest.head? ≠ some 47) (h : StpW ss e v) : ∀ (f : Nat) (en : Bool), v.length < f → (ss = [] → e = en) → stpF f (v ++ rest) en = .ok ((ss, e), v.length) := by
 have tl : ∀ (ss : List (List Nat)) (e : Bool) (v : List Nat), TlW ss e v → ∀ (s w : List Nat) (f : Nat) (en : Bool), WrT frS s w → s ≠ [] → (w ++ v).length < f → stpF f (w ++ v ++ rest) en = .ok ((s :: ss, e), (w ++ v).length) := by
  intro ss e v ht
  have done : ∀ (f : Nat) (en : Bool), 0 < f → stpF f rest en = .ok (([], en), 0) := fun f en hf => by
   obtain ⟨k, rfl⟩ : ∃ k, f = k + 1 := ⟨f - 1, by omega⟩
   unfold stpF
   rw [iqk h2]; rfl
  have first : ∀ (s w v : List Nat) (f : Nat) (en : Bool), WrT frS s w → s ≠ [] → TlW ss e v → stpF (f + 1) (w ++ v ++ rest) en = if (v ++ rest).head? = some 47 then sh (w.length + 1) (mp (fun x => (s :: x.1, x.2)) (stpF f ((v ++ rest).drop 1) true)) else sh w.length (mp (fun x => (s :: x.1, x.2)) (stpF f (v ++ rest) false)) := fun s w v f en hw hs ht => by
   conv => lhs; unfold stpF
   rw [List.append_assoc, jq1 hw (.inl (nq7 ht h2)) (fun m z => by cases z)]
   show (if s = [] then _ else _) = _
   rw [if_neg hs, List.drop_left, show (w ++ (v ++ rest)).drop (w.length + 1) = (v ++ rest).drop 1 by rw [← List.drop_drop, List.drop_left]]
  induction ht with
  | stop =>
   intro s w f en hw hs hf
   obtain ⟨k, rfl⟩ : ∃ k, f = k + 1 := ⟨f - 1, by omega⟩
   obtain ⟨c, r, rfl, _⟩ := oql hw hs
   rw [first s _ [] k en hw hs .stop, List.nil_append, if_neg h3, done k false (by simp at hf; omega), List.append_nil]
   rfl
  | ends =>
   intro s w f en hw hs hf
   obtain ⟨k, rfl⟩ : ∃ k, f = k + 1 := ⟨f - 1, by omega⟩
   rw [first s w [47] k en hw hs .ends]
   show (if (47 :: rest).head? = some 47 then _ else _) = _
   rw [if_pos List.head?_cons]
   show sh (w.length + 1) (mp _ (stpF k rest true)) = _
   rw [done k true (by simp at hf; omega), List.length_append]
   rfl
  | more hw2 hs2 ht2 ih =>
   rename_i s2 w2 ss2 e2 v2
   intro s w f en hw hs hf
   obtain ⟨k, rfl⟩ : ∃ k, f = k + 1 := ⟨f - 1, by omega⟩
   rw [first s w _ k en hw hs (.more hw2 hs2 ht2)]
   show (if (47 :: (w2 ++ v2 ++ rest)).head? = some 47 then _ else _) = _
   rw [if_pos List.head?_cons]
   show sh (w.length + 1) (mp _ (stpF k (w2 ++ v2 ++ rest) true)) = _
   have ih2 := ih (fun s w v f en a b c => by
    conv => lhs; unfold stpF
    rw [List.append_assoc, jq1 a (.inl (nq7 c h2)) (fun m z => by cases z)]
    show (if s = [] then _ else _) = _
    rw [if_neg b, List.drop_left, show (w ++ (v ++ rest)).drop (w.length + 1) = (v ++ rest).drop 1 by rw [← List.drop_drop, List.drop_left]]) s2 w2 k true hw2 hs2 (by simp only [List.length_append, List.length_cons] at hf ⊢; omega)
   rw [ih2]
   show Except.ok ((s :: s2 :: ss2, e2), w.length + 1 + (w2 ++ v2).length) = _
   simp only [List.length_append, List.length_cons]
   rw [show w.length + 1 + (w2.length + v2.length) = w.length + (w2.length + v2.length + 1) by omega]
 intro f en hf hen
 cases h with
 | none =>
  obtain ⟨k, rfl⟩ : ∃ k, f = k + 1 := ⟨f - 1, by omega⟩
  unfold stpF
  rw [List.nil_append, iqk h2, hen rfl]; rfl
 | some hw hs ht => exact tl _ _ _ ht _ _ f en hw hs hf
theorem wqO {ss : List (List Nat)} {e rt must : Bool} {v rest : List Nat} (h : StpW ss e v) (he : ss = [] → e = rt) (hm : must = true → rt = true) (h2 : Stops frS rest) (h3 : rest.head? ≠ some 47) :
  wayM must ((if rt then [47] else []) ++ (v ++ rest)) = .ok ((rt, ss, e), (if rt then [47] else []).length + v.length) := by
 unfold wayM
 cases rt with
 | true =>
  show (if (47 :: (v ++ rest)).head? = some 47 then _ else _) = _
  rw [if_pos List.head?_cons]
  show sh 1 (mp _ (stpF _ (v ++ rest) true)) = _
  rw [tqg h2 h3 h _ true (by simp; omega) he]
  rfl
 | false =>
  show (if (v ++ rest).head? = some 47 then _ else _) = _
  rw [if_neg (oqH h h3), if_neg (fun z => by cases hm z)]
  show mp _ (stpF _ (v ++ rest) false) = _
  rw [tqg h2 h3 h _ false (by simp; omega) he]
  show Except.ok ((false, ss, e), v.length) = Except.ok ((false, ss, e), 0 + v.length)
  rw [Nat.zero_add]
theorem tqi {o : Option (List Nat)} {w r : List Nat} (h : ValW o w) (h1 : Stops frQ r) (h2 : r.head? ≠ some 61) : valM (w ++ r) = .ok (o, w.length) := by
 cases o with
 | none =>
  have h : w = [] := h
  subst h
  unfold valM
  rw [List.nil_append, if_neg h2]; rfl
 | some s =>
  obtain ⟨v, rfl, hv⟩ := h
  unfold valM
  rw [if_pos (by simp)]
  show sh 1 (mp some (txtM frQ (v ++ r) none)) = _
  rw [jq1 hv (.inl h1) (fun m z => by cases z)]
  show Except.ok (some s, 1 + v.length) = _
  rw [List.length_cons, Nat.add_comm]
theorem wqu {o : Option (List Nat)} {w : List Nat} (h : MarW o w) : marM w = .ok (o, w.length) := by
 cases o with
 | none =>
  have h : w = [] := h
  subst h
  rfl
 | some s =>
  obtain ⟨v, rfl, hv⟩ := h
  unfold marM
  rw [if_pos (by simp)]
  show sh 1 (mp some (txtM frM v none)) = _
  have := jq1 (r := []) hv (.inl fq9) (mo := none) (fun m z => by cases z)
  rw [List.append_nil] at this
  rw [this]
  show Except.ok (some s, 1 + v.length) = _
  rw [List.length_cons, Nat.add_comm]
theorem wq1 {rest : List Nat} (hr : rest = [] ∨ ∃ x, rest = 35 :: x) {ps : List (List Nat × Option (List Nat))} {w : List Nat} (h : PrsW ps w) : ∀ f, w.length < f → prsF f (w ++ rest) = .ok (ps, w.length) := by
 induction h with
 | nil =>
  intro f hf
  obtain ⟨k, rfl⟩ : ∃ k, f = k + 1 := ⟨f - 1, by omega⟩
  unfold prsF
  rw [List.nil_append, if_neg (by rcases hr with rfl | ⟨x, rfl⟩ <;> simp)]
  rfl
 | cons hw hn hv hp ih =>
  rename_i n w v o ps r
  intro f hf
  obtain ⟨k, rfl⟩ : ∃ k, f = k + 1 := ⟨f - 1, by omega⟩
  have hst := kqp hp hr
  unfold prsF
  rw [show (38 :: (w ++ (v ++ r)) ++ rest) = 38 :: (w ++ (v ++ (r ++ rest))) by simp, if_pos List.head?_cons]
  have e1 : filM frQ (w ++ (v ++ (r ++ rest))) none = .ok (n, w.length) := by
   unfold filM
   rw [jq1 hw (.inl (mqt hv hst.1)) (fun m z => by cases z)]
   exact if_neg hn
  show sh 1 (bdR (filM frQ (w ++ (v ++ (r ++ rest))) none) _) = _
  rw [e1]
  show sh 1 (sh w.length (bdR (valM ((38 :: (w ++ (v ++ (r ++ rest)))).drop (1 + w.length))) _)) = _
  have d1 : (38 :: (w ++ (v ++ (r ++ rest)))).drop (1 + w.length) = v ++ (r ++ rest) := by rw [Nat.add_comm, List.drop_succ_cons, List.drop_left]
  rw [d1, tqi hv hst.1 hst.2]
  show sh 1 (sh w.length (sh v.length (mp _ (prsF k ((38 :: (w ++ (v ++ (r ++ rest)))).drop (1 + w.length + v.length)))))) = _
  rw [← List.drop_drop, d1, List.drop_left, ih k (by simp only [List.length_cons, List.length_append] at hf; omega)]
  show Except.ok ((n, o) :: ps, 1 + (w.length + (v.length + r.length))) = _
  simp only [List.length_cons, List.length_append]
  rw [Nat.add_comm 1]
theorem vqu {rest : List Nat} (hr : rest = [] ∨ ∃ x, rest = 35 :: x) {q : Option (List (List Nat × Option (List Nat)))} {w : List Nat} (h : QueW q w) : queM (w ++ rest) = .ok (q, w.length) := by
 have h63 : rest.head? ≠ some 63 := by rcases hr with rfl | ⟨x, rfl⟩ <;> simp
 match q, h with
 | none, h =>
  have h : w = [] := h
  subst h
  unfold queM
  rw [List.nil_append, if_neg h63]; rfl
 | some [], h =>
  have h : w = [63] := h
  subst h
  unfold queM
  rw [show [63] ++ rest = 63 :: rest from rfl, if_pos List.head?_cons]
  show sh 1 (bdR (txtM frQ rest none) _) = _
  rw [iqk (show Stops frQ rest from (kqp .nil hr).1)]
  rfl
 | some ((n, o) :: ps), h =>
  obtain ⟨a, v, r, rfl, ha, hn, hv, hps⟩ := h
  have hst := kqp hps hr
  unfold queM
  rw [show (63 :: (a ++ (v ++ r)) ++ rest) = 63 :: (a ++ (v ++ (r ++ rest))) by simp, if_pos List.head?_cons]
  show sh 1 (bdR (txtM frQ (a ++ (v ++ (r ++ rest))) none) _) = _
  rw [jq1 ha (.inl (mqt hv hst.1)) (fun m z => by cases z)]
  show sh 1 (sh a.length (if n = [] then _ else bdR (valM ((63 :: (a ++ (v ++ (r ++ rest)))).drop (1 + a.length))) _)) = _
  have d1 : (63 :: (a ++ (v ++ (r ++ rest)))).drop (1 + a.length) = v ++ (r ++ rest) := by rw [Nat.add_comm, List.drop_succ_cons, List.drop_left]
  rw [if_neg hn, d1, tqi hv hst.1 hst.2]
  show sh 1 (sh a.length (sh v.length (mp _ (prsF _ ((63 :: (a ++ (v ++ (r ++ rest)))).drop (1 + a.length + v.length)))))) = _
  rw [← List.drop_drop, d1, List.drop_left, wq1 hr hps _ (by simp only [List.length_cons, List.length_append]; omega)]
  show Except.ok (some ((n, o) :: ps), 1 + (a.length + (v.length + r.length))) = _
  simp only [List.length_cons, List.length_append]
  rw [Nat.add_comm 1]
def RdV (x : Ad) (t : List Nat) : Prop := ∃ h d g w q m, t = schT x.scheme ++ (h ++ (d ++ (g ++ (w ++ (q ++ m))))) ∧ schM t = x.scheme ∧ HouW x.house h ∧ DooW x.door d ∧ (g = (if x.rooted then [47] else []) ∨ (g = [] ∧ x.rooted = true ∧ x.steps = [] ∧ (x.scheme ≠ [] ∨ x.house ≠ none))) ∧ StpW x.steps x.ends w ∧ QueW x.quest q ∧ MarW x.mark m
theorem RdW.v {x : Ad} {t : List Nat} (h : RdW x t) : RdV x t := by
 obtain ⟨h, d, w, q, m, e, es, hH, hD, hS, hQ, hM⟩ := h
 exact ⟨h, d, _, w, q, m, e, es, hH, hD, .inl rfl, hS, hQ, hM⟩
theorem jqp {x : Ad} {t : List Nat} (hw : RdV x t) (wf : x.Wf) : readM t = .ok x := by
 obtain ⟨hT, dT, gT, wT, qT, mT, et, es, hH, hD, hG, hS, hQ, hM⟩ := hw
 have hmr : mT = [] ∨ ∃ y, mT = 35 :: y := by
  cases hm : x.mark with
  | none => rw [hm] at hM; exact .inl hM
  | some s => rw [hm] at hM; obtain ⟨v, e, _⟩ := hM; exact .inr ⟨v, e⟩
 have hrq : qT ++ mT = [] ∨ (∃ y, qT ++ mT = 35 :: y) ∨ ∃ y, qT ++ mT = 63 :: y := by
  cases hq : x.quest with
  | none =>
   rw [hq] at hQ
   have hQ : qT = [] := hQ
   rw [hQ]
   rcases hmr with e | ⟨y, e⟩
   ·exact .inl e
   ·exact .inr (.inl ⟨y, e⟩)
  | some ps =>
   rw [hq] at hQ
   cases ps with
   | nil =>
    have hQ : qT = [63] := hQ
    exact .inr (.inr ⟨mT, by rw [hQ]; rfl⟩)
   | cons a ps =>
    obtain ⟨n, o⟩ := a
    obtain ⟨a, v, r, e, _⟩ := hQ
    exact .inr (.inr ⟨_, by rw [e]; rfl⟩)
 have eP : schP t = (schT x.scheme).length := by unfold schP; rw [es]
 have dr : ∀ {a b : List Nat}, t = a ++ b → t.drop a.length = b := fun {a b} e => by rw [e, List.drop_left]
 have hrt : x.house ≠ none → x.rooted = true := fun z => wf.roo (.inr z)
 have hq47 : (qT ++ mT).head? ≠ some 47 := fun z => by rcases hrq with e | ⟨y, e⟩ | ⟨y, e⟩ <;> rw [e] at z <;> cases z
 have hqS : ∀ fr : List Nat, (35 : Nat) ∉ fr → (63 : Nat) ∉ fr → Stops fr (qT ++ mT) := fun fr h1 h2 => by
  rcases hrq with e | ⟨y, e⟩ | ⟨y, e⟩ <;> rw [e]
  ·exact fq9
  ·exact bqs ⟨by decide, h1, by decide⟩
  ·exact bqs ⟨by decide, h2, by decide⟩
 have h47 := oqH hS hq47
 have omtd : gT = [] ∧ x.rooted = true ∧ x.steps = [] ∧ (x.scheme ≠ [] ∨ x.house ≠ none) → wT = [] := fun z => by
  rw [z.2.2.1] at hS
  generalize x.ends = en at hS
  cases hS
  rfl
 have behind : x.house ≠ none → (∃ y, gT ++ (wT ++ (qT ++ mT)) = 47 :: y) ∨ gT ++ (wT ++ (qT ++ mT)) = qT ++ mT := fun z => by
  rcases hG with e | e
  ·rw [e, hrt z]; exact .inl ⟨_, rfl⟩
  ·rw [e.1, omtd e]; exact .inr rfl
 have e1 : houM (t.drop (schP t)) = .ok (x.house, hT.length) := by
  rw [eP, dr et]
  refine wqH hH (fun hn => ?_) (fun hn => ?_)
  ·cases hdo : x.door with
   | none =>
    rw [hdo] at hD
    have hD : dT = [] := hD
    rw [hD, List.nil_append]
    rcases behind hn with ⟨y, e⟩ | e
    ·rw [e]; exact bqs ⟨by decide, by simp, by decide⟩
    ·rw [e]; exact hqS [] (by simp) (by simp)
   | some n =>
    rw [hdo] at hD
    obtain ⟨ds, rfl, _⟩ := hD
    exact bqs ⟨by decide, by simp, by decide⟩
  ·cases hdo : x.door with
   | some n => exact absurd hn (wf.doo n hdo).2
   | none =>
    rw [hdo] at hD
    have hD : dT = [] := hD
    rw [hD, List.nil_append]
    have no : ∀ l : List Nat, l.head? ≠ some 47 → ¬ l.take 2 = [47, 47] ∧ ¬ (47 :: l).take 2 = [47, 47] := fun l hl => by
     cases l with
     | nil => simp
     | cons c l =>
      have hc : c ≠ 47 := fun z => hl (by rw [z]; rfl)
      simp [hc]
    rcases hG with e | e
    ·rw [e]
     cases x.rooted with
     | true => exact (no _ h47).2
     | false => exact (no _ h47).1
    ·rw [e.1]; exact (no _ h47).1
 have e2 : dorM x.house (t.drop (schP t + hT.length)) = .ok (x.door, dT.length) := by
  rw [eP, ← List.length_append, dr (b := dT ++ (gT ++ (wT ++ (qT ++ mT)))) (by rw [et]; simp)]
  unfold dorM
  by_cases hn : x.house = none
  ·rw [if_pos hn]
   cases hdo : x.door with
   | some n => exact absurd hn (wf.doo n hdo).2
   | none =>
    rw [hdo] at hD
    have hD : dT = [] := hD
    rw [hD]; rfl
  ·rw [if_neg hn]
   refine vqn hD (fun c hc => ?_) (fun _ => ?_)
   ·rcases behind hn with ⟨y, e⟩ | e
    ·rw [e] at hc; cases hc; decide
    ·rw [e] at hc
     rcases hrq with e | ⟨y, e⟩ | ⟨y, e⟩ <;> rw [e] at hc <;> cases hc <;> decide
   ·rcases behind hn with ⟨y, e⟩ | e
    ·rw [e]; simp
    ·rw [e]
     rcases hrq with e | ⟨y, e⟩ | ⟨y, e⟩ <;> rw [e] <;> simp
 have e3 : wayM (decide (schM t ≠ [] ∨ x.house ≠ none)) (t.drop (schP t + hT.length + dT.length)) = .ok ((x.rooted, x.steps, x.ends), gT.length + wT.length) := by
  rw [eP, ← List.length_append, ← List.length_append, dr (b := gT ++ (wT ++ (qT ++ mT))) (by rw [et]; simp), es]
  rcases hG with e | e
  ·rw [e]
   exact wqO hS wf.end_ (fun z => wf.roo (of_decide_eq_true z)) (hqS frS (by decide +kernel) (by decide +kernel)) hq47
  ·rw [e.1, omtd e, List.nil_append, List.nil_append]
   unfold wayM
   rw [if_neg hq47, if_pos (decide_eq_true e.2.2.2), wf.end_ e.2.2.1, e.2.1, e.2.2.1]
   rfl
 have e4 : queM (t.drop (schP t + hT.length + dT.length + (gT.length + wT.length))) = .ok (x.quest, qT.length) := by
  rw [eP, ← List.length_append, ← List.length_append, ← List.length_append, ← List.length_append, dr (b := qT ++ mT) (by rw [et]; simp)]
  exact vqu hmr hQ
 have e5 : marM (t.drop (schP t + hT.length + dT.length + (gT.length + wT.length) + qT.length)) = .ok (x.mark, mT.length) := by
  rw [eP, ← List.length_append, ← List.length_append, ← List.length_append, ← List.length_append, ← List.length_append, dr (b := mT) (by rw [et]; simp)]
  exact wqu hM
 rw [lqh e1 e2 e3 e4 e5, if_pos, es]
 rw [eP]
 have := congrArg List.length et
 simp only [List.length_append] at this
 omega
end Wm
namespace Wm
open PySem L2
def sumL (l : List (List Nat)) : Nat := (l.map List.length).sum
theorem cqq (s : List Nat) (l : List (List Nat)) : sumL (s :: l) = s.length + sumL l := by unfold sumL; rw [List.map_cons, List.sum_cons]
theorem sqy (a b : List (List Nat)) : sumL (a ++ b) = sumL a + sumL b := by unfold sumL; rw [List.map_append, List.sum_append]
theorem pqH (sep : Nat) : ∀ l : List (List Nat), (tlT sep l).length = sumL l + l.length
 | [] => rfl
 | s :: r => by
  have := pqH sep r
  rw [cqq, tlT, List.length_cons, List.length_append, List.length_cons]; omega
theorem nq2 (sep : Nat) (l : List (List Nat)) : (joinT sep l).length ≤ sumL l + l.length := by
 cases l with
 | nil => exact Nat.zero_le _
 | cons s r =>
  have := pqH sep r
  rw [cqq, joinT, List.length_append, List.length_cons]; omega
theorem tq9 (l : List (List Nat)) : sumL (l.map wr) ≤ 3 * sumL l := by
 induction l with
 | nil => exact Nat.le_refl _
 | cons s r ih => rw [List.map_cons, cqq, cqq]; have := iqj s; omega
theorem nqH : ∀ (f : Nat) {r : List Nat} {e : Bool} {ss : List (List Nat)} {e' : Bool} {n : Nat}, stpF f r e = .ok ((ss, e'), n) → sumL ss ≤ n
 | 0, r, e, ss, e', n, h => by cases h; exact Nat.le_refl _
 | f + 1, r, e, ss, e', n, h => by
  unfold stpF at h
  cases ht : txtM frS r none with
  | error k => rw [ht] at h; cases h
  | ok x =>
   obtain ⟨s, k⟩ := x
   rw [ht] at h
   have h : (if s = [] then (.ok (([], e), k) : Rs (List (List Nat) × Bool)) else if (r.drop k).head? = some 47 then sh (k + 1) (mp (fun x => (s :: x.1, x.2)) (stpF f (r.drop (k + 1)) true)) else sh k (mp (fun x => (s :: x.1, x.2)) (stpF f (r.drop k) false))) = .ok ((ss, e'), n) := h
   have t2 := (cqn ht).2.1
   by_cases hs : s = []
   ·rw [if_pos hs] at h; cases h; exact Nat.zero_le _
   rw [if_neg hs] at h
   have fin : ∀ (en : Bool) (k' : Nat), k ≤ k' → sh k' (mp (fun x => (s :: x.1, x.2)) (stpF f (r.drop k') en)) = .ok ((ss, e'), n) → sumL ss ≤ n := fun en k' hkk h => by
    obtain ⟨m, h2, rfl⟩ := eqD h
    obtain ⟨a, h3, ea⟩ := dq1 h2
    obtain ⟨as, ae⟩ := a
    cases ea
    have := nqH f h3
    rw [cqq]
    show s.length + sumL as ≤ _
    omega
   by_cases h47 : (r.drop k).head? = some 47
   ·rw [if_pos h47] at h; exact fin true (k + 1) (by omega) h
   ·rw [if_neg h47] at h; exact fin false k (Nat.le_refl _) h
theorem tqG {must : Bool} {r : List Nat} {n : Nat} {w : Bool × List (List Nat) × Bool} (h : wayM must r = .ok (w, n)) : sumL w.2.1 ≤ n := by
 unfold wayM at h
 by_cases h1 : r.head? = some 47
 ·rw [if_pos h1] at h
  obtain ⟨m, h2, rfl⟩ := eqD h
  obtain ⟨a, h3, rfl⟩ := dq1 h2
  obtain ⟨as, ae⟩ := a
  have := nqH _ h3
  show sumL as ≤ _
  omega
 ·rw [if_neg h1] at h
  by_cases h2 : must = true
  ·rw [if_pos h2] at h; cases h; exact Nat.zero_le _
  ·rw [if_neg h2] at h
   obtain ⟨a, h3, rfl⟩ := dq1 h
   obtain ⟨as, ae⟩ := a
   exact nqH _ h3
def prL (p : List Nat × Option (List Nat)) : Nat := p.1.length + (p.2.getD []).length
def sumP (l : List (List Nat × Option (List Nat))) : Nat := (l.map prL).sum
theorem iqe (p : List Nat × Option (List Nat)) (l : List (List Nat × Option (List Nat))) : sumP (p :: l) = prL p + sumP l := by unfold sumP; rw [List.map_cons, List.sum_cons]
theorem qqG {r : List Nat} {n : Nat} {o : Option (List Nat)} (h : valM r = .ok (o, n)) : (o.getD []).length ≤ n := by
 unfold valM at h
 by_cases h2 : r.head? = some 61
 ·rw [if_pos h2] at h
  obtain ⟨m, e, rfl⟩ := eqD h
  obtain ⟨a, e', rfl⟩ := dq1 e
  have := (cqn e').2.1
  show a.length ≤ _
  omega
 ·rw [if_neg h2] at h; cases h; exact Nat.zero_le _
theorem pq5 : ∀ (f : Nat) {r : List Nat} {l : List (List Nat × Option (List Nat))} {n : Nat}, prsF f r = .ok (l, n) → sumP l ≤ n
 | 0, r, l, n, h => by cases h; exact Nat.le_refl _
 | f + 1, r, l, n, h => by
  unfold prsF at h
  by_cases h2 : r.head? = some 38
  ·rw [if_pos h2] at h
   obtain ⟨m, h3, rfl⟩ := eqD h
   obtain ⟨s, k, m2, e1, h4, rfl⟩ := fqZ h3
   obtain ⟨v, k2, m3, e2, h5, rfl⟩ := fqZ h4
   obtain ⟨l', h6, rfl⟩ := dq1 h5
   have i1 := pq5 f h6
   have t1 := (cqn (iqp e1).1).2.1
   have v1 := qqG e2
   rw [iqe]
   show s.length + (v.getD []).length + _ ≤ _
   omega
  ·rw [if_neg h2] at h; cases h; exact Nat.zero_le _
theorem uqc {r : List Nat} {n : Nat} {o : Option (List (List Nat × Option (List Nat)))} (h : queM r = .ok (o, n)) : ∀ l, o = some l → sumP l ≤ n := by
 intro l el
 unfold queM at h
 by_cases h2 : r.head? = some 63
 ·rw [if_pos h2] at h
  obtain ⟨m, h3, rfl⟩ := eqD h
  obtain ⟨s, k, m2, e1, h4, rfl⟩ := fqZ h3
  have h4 : (if s = [] then (.ok (some [], 0) : Rs (Option (List (List Nat × Option (List Nat))))) else bdR (valM (r.drop (1 + k))) fun v m => mp (fun l => some ((s, v) :: l)) (prsF (r.length + 1) (r.drop (1 + k + m)))) = .ok (o, m2) := h4
  by_cases hs : s = []
  ·rw [if_pos hs] at h4; cases h4; cases el; exact Nat.zero_le _
  ·rw [if_neg hs] at h4
   obtain ⟨v, k2, m3, e2, h5, rfl⟩ := fqZ h4
   obtain ⟨l', h6, rfl⟩ := dq1 h5
   cases el
   have i1 := pq5 _ h6
   have t1 := (cqn e1).2.1
   have v1 := qqG e2
   rw [iqe]
   show s.length + (v.getD []).length + _ ≤ _
   omega
 ·rw [if_neg h2] at h; cases h; cases el
theorem sqm {l : List (List Nat)} {s : List Nat} (h : s ∈ l) : s.length ≤ sumL l := by
 induction l with
 | nil => cases h
 | cons a l ih =>
  rw [cqq]
  rcases List.mem_cons.mp h with rfl | h
  ·omega
  ·have := ih h; omega
theorem sqC {l : List (List Nat × Option (List Nat))} {p : List Nat × Option (List Nat)} (h : p ∈ l) : prL p ≤ sumP l := by
 induction l with
 | nil => cases h
 | cons a l ih =>
  rw [iqe]
  rcases List.mem_cons.mp h with rfl | h
  ·omega
  ·have := ih h; omega
theorem qqb (l : List (List Nat × Option (List Nat))) : sumL (l.map pairT) ≤ 3 * sumP l + l.length := by
 induction l with
 | nil => exact Nat.le_refl _
 | cons p l ih =>
  rw [List.map_cons, cqq, iqe, List.length_cons]
  have h1 := iqj p.1
  have h2 : (oT 61 p.2).length ≤ 1 + 3 * (p.2.getD []).length := by
   cases h : p.2 with
   | none => exact Nat.zero_le _
   | some v => have := iqj v; show (61 :: wr v).length ≤ _; simp only [List.length_cons, Option.getD_some]; omega
  have : (pairT p).length ≤ 3 * prL p + 1 := by unfold pairT prL; rw [List.length_append]; omega
  omega
structure Ad.Lim (x : Ad) : Prop where
 stp : sumL x.steps ≤ 2000 ∧ x.steps.length ≤ 2000
 que : ∀ ps, x.quest = some ps → sumP ps ≤ 2000 ∧ ps.length ≤ 2000
 mar : ∀ l, x.mark = some l → l.length ≤ 2000
theorem Ad.Lim.sz {x : Ad} (h : x.Lim) (wf : x.Wf) : x.Sz where
 stp := fun s hs => by have := sqm hs; have := h.stp.1; omega
 que := fun ps e => ⟨by have := (h.que ps e).2; omega, fun p hp => by
  have h1 := sqC hp
  have h2 := (h.que ps e).1
  unfold prL at h1
  refine ⟨by omega, fun v hv => ?_⟩
  rw [hv] at h1
  have h1 : p.1.length + v.length ≤ sumP ps := h1
  omega⟩
 mar := fun l e => by have := h.mar l e; omega
 num := by have := h.stp.2; omega
 all := by
  have a1 : (schT x.scheme).length ≤ 9 := by
   unfold schT
   split
   ·simp
   ·have := wf.sch.1; simp only [List.length_append, List.length_cons, List.length_nil]; omega
  have a2 : (houT x.house).length ≤ 200 := by
   cases hh : x.house with
   | none => simp [houT]
   | some l => have := (wf.hou l hh).1.2; have := iqj l; simp only [houT, List.length_cons]; omega
  have a3 : (dooT x.door).length ≤ 6 := by
   cases hh : x.door with
   | none => simp [dooT]
   | some i => have b := (wf.doo i hh).1; have := oqf b.1 b.2; simp only [dooT, List.length_cons]; omega
  have a4 : x.wayT.length ≤ 9000 := by
   have h1 := nq2 47 (x.steps.map wr)
   have h2 := tq9 x.steps
   rw [List.length_map] at h1
   have := h.stp
   have e1 : (if x.rooted then [47] else [] : List Nat).length ≤ 1 := by split <;> simp
   have e2 : (if x.ends && !x.steps.isEmpty then [47] else [] : List Nat).length ≤ 1 := by split <;> simp
   simp only [Ad.wayT, Wm.wayT, List.length_append]
   omega
  have a5 : (queT x.quest).length ≤ 11000 := by
   cases hq : x.quest with
   | none => simp [queT]
   | some ps =>
    have hk := h.que ps hq
    have h1 := nq2 38 (ps.map pairT)
    have h2 := qqb ps
    rw [List.length_map] at h1
    simp only [queT, List.length_cons]
    omega
  have a6 := vqJ (sep := 35) (n := 2000) (o := x.mark) fun l e => h.mar l e
  simp only [Ad.shw, List.length_append]
  omega
theorem qqP {t : List Nat} {x : Ad} (e : readM t = .ok x) (hl : t.length ≤ 2000) : x.Lim := by
 obtain ⟨n1, n2, n3, n4, n5, e1, e2, e3, e4, e5, he, es⟩ := nq5 e
 have w1 : x.steps.length ≤ n3 := (mqO e3).2.2.1
 have w2 : sumL x.steps ≤ n3 := tqG e3
 have q1 := mqH e4
 have q2 := uqc e4
 have m1 := sqN e5
 refine ⟨⟨by omega, by omega⟩, fun ps h => ?_, fun l h => ?_⟩
 ·have a := q2 ps h
  have b := (q1.2 ps h).2
  omega
 ·obtain ⟨w, a, b⟩ := m1.2 l h
  have := pq8 a
  rw [List.length_drop] at b
  omega
theorem hqo {fr s w : List Nat} (h : WrT fr s w) : w.length ≤ 3 * s.length := by
 induction h with
 | nil => exact Nat.le_refl _
 | self _ _ _ ih => simp only [List.length_cons]; omega
 | pair _ _ ih => simp only [List.length_cons]; omega
end Wm
namespace Wm
open PySem L2
section
variable {r : List Nat}
theorem fqY {p : List Nat} (h : 0 < p.length) : (p ++ r).head? = p.head? := by
 cases p with
 | nil => simp at h
 | cons c p => rfl
theorem cqj {p : List Nat} {k : Nat} (h : k ≤ p.length) : (p ++ r).drop k = p.drop k ++ r := by rw [List.drop_append_of_le_length h]
theorem sqQ {α : Type} {c : α} {k n : Nat} {x : Rs (List α)} {s : List α} (h : pre c k x = .ok (s, n)) : ∃ s' m, x = .ok (s', m) ∧ s = c :: s' ∧ n = k + m := by
 cases x with
 | error e => cases h
 | ok y => obtain ⟨y, m⟩ := y; cases h; exact ⟨y, m, rfl, rfl, rfl⟩
theorem lqw {α : Type} {c : α} {k n : Nat} {x : Rs (List α)} (h : pre c k x = .error n) : ∃ m, x = .error m ∧ n = k + m := by
 cases x with
 | error e => cases h; exact ⟨e, rfl, rfl⟩
 | ok y => cases h
theorem dqS {α : Type} {k n : Nat} {x : Rs α} (h : sh k x = .error n) : ∃ m, x = .error m ∧ n = k + m := by
 cases x with
 | error e => cases h; exact ⟨e, rfl, rfl⟩
 | ok y => cases h
theorem dqR {α β : Type} {f : α → β} {n : Nat} {x : Rs α} (h : mp f x = .error n) : x = .error n := by
 cases x with
 | error e => cases h; rfl
 | ok y => cases h
theorem gqm {α β : Type} {x : Rs α} {f : α → Nat → Rs β} {n : Nat} (h : bdR x f = .error n) : x = .error n ∨ ∃ a k m, x = .ok (a, k) ∧ f a k = .error m ∧ n = k + m := by
 cases x with
 | error e => cases h; exact .inl rfl
 | ok y =>
  obtain ⟨y, k⟩ := y
  obtain ⟨m, e, en⟩ := dqS (show sh k (f y k) = _ from h)
  exact .inr ⟨y, k, m, rfl, e, en⟩
structure Loc {α : Type} (M : List Nat → Rs α) (p r : List Nat) : Prop where
 ok : ∀ a n, M p = .ok (a, n) → n < p.length → M (p ++ r) = .ok (a, n)
 err : ∀ n, M p = .error n → n < p.length → M (p ++ r) = .error n
theorem qqx {p : List Nat} : (∀ c n, prM p = .ok (c, n) → prM (p ++ r) = .ok (c, n)) ∧ ∀ n, prM p = .error n → n < p.length → prM (p ++ r) = .error n := by
 refine ⟨fun c n h => ?_, fun n h hn => ?_⟩
 ·obtain ⟨a, b, r', rfl, hs, rfl, hf⟩ := mqp h
  show (if a ∈ fsF then _ else _) = _
  rw [if_pos hf, hs]
 ·match p, h, hn with
  | [], h, hn => simp at hn
  | [a], h, hn =>
   have h : (if a ∈ fsF then (.error 1 : Rs Nat) else .error 0) = .error n := h
   by_cases hf : a ∈ fsF
   ·rw [if_pos hf] at h; cases h; simp at hn
   ·rw [if_neg hf] at h
    cases r with
    | nil => show (if a ∈ fsF then _ else _) = _; rw [if_neg hf]; exact h
    | cons b r => show (if a ∈ fsF then _ else _) = _; rw [if_neg hf]; exact h
  | a :: b :: p', h, hn => exact h
theorem uqT {fr : List Nat} : ∀ (k : Nat) {p : List Nat} {mo : Option Nat}, p.length ≤ k → Loc (fun x => txtM fr x mo) p r := by
 intro k
 induction k with
 | zero =>
  intro p mo hk
  exact ⟨fun a n _ hn => by omega, fun n _ hn => by omega⟩
 | succ k ih =>
  intro p mo hk
  cases p with
  | nil => exact ⟨fun a n _ hn => by simp at hn, fun n _ hn => by simp at hn⟩
  | cons c p =>
   simp only [List.length_cons] at hk
   by_cases h0 : mo = some 0
   ·subst h0
    exact ⟨fun a n h _ => by rw [fqv] at h ⊢; exact h, fun n h _ => by rw [fqv] at h; cases h⟩
   by_cases hc : c = 126
   ·subst hc
    cases hp : prM p with
    | error e =>
     have e1 : ∀ q, prM q = .error e → txtM fr (126 :: q) mo = .error (e + 1) := fun q hq => by rw [dqu h0, hq]
     refine ⟨(fun a n h _ => by rw [e1 p hp] at h; cases h), fun n h hn => ?_⟩
     rw [e1 p hp] at h
     cases h
     simp only [List.length_cons] at hn
     exact e1 (p ++ r) (qqx.2 e hp (by omega))
    | ok x =>
     obtain ⟨s, m⟩ := x
     have hq := qqx (r := r).1 s m hp
     obtain ⟨a, b, p2, rfl, hs, rfl, _⟩ := mqp hp
     have e1 : txtM fr (126 :: a :: b :: p2) mo = pre s 3 (txtM fr p2 (dec mo)) := by rw [dqu h0, hp]; rfl
     have e2 : txtM fr (126 :: a :: b :: p2 ++ r) mo = pre s 3 (txtM fr (p2 ++ r) (dec mo)) := by
      show txtM fr (126 :: (a :: b :: p2 ++ r)) mo = _
      rw [dqu h0, hq]; rfl
     have L := ih (p := p2) (mo := dec mo) (by simp only [List.length_cons] at hk; omega)
     refine ⟨fun x n h hn => ?_, fun n h hn => ?_⟩
     ·rw [e1] at h
      obtain ⟨s', m, h2, rfl, rfl⟩ := sqQ h
      rw [e2, L.ok s' m h2 (by simp only [List.length_cons] at hn; omega)]; rfl
     ·rw [e1] at h
      obtain ⟨m, h2, rfl⟩ := lqw h
      rw [e2, L.err m h2 (by simp only [List.length_cons] at hn; omega)]; rfl
   ·by_cases hp : isPl c = true ∨ c ∈ fr
    ·have L := ih (p := p) (mo := dec mo) (by omega)
     refine ⟨fun x n h hn => ?_, fun n h hn => ?_⟩
     ·rw [eqK h0 hc hp] at h
      obtain ⟨s', m, h2, rfl, rfl⟩ := sqQ h
      show txtM fr (c :: (p ++ r)) mo = _
      rw [eqK h0 hc hp, L.ok s' m h2 (by simp only [List.length_cons] at hn; omega)]; rfl
     ·rw [eqK h0 hc hp] at h
      obtain ⟨m, h2, rfl⟩ := lqw h
      show txtM fr (c :: (p ++ r)) mo = _
      rw [eqK h0 hc hp, L.err m h2 (by simp only [List.length_cons] at hn; omega)]; rfl
    ·have e1 : ∀ q, txtM fr (c :: q) mo = .ok ([], 0) := fun q => by rw [txtM, if_neg h0, if_neg hc, if_neg hp]
     refine ⟨fun x n h _ => ?_, fun n h _ => ?_⟩
     ·rw [e1] at h
      show txtM fr (c :: (p ++ r)) mo = _
      rw [e1]; exact h
     ·rw [e1] at h; cases h
theorem mqT {fr p : List Nat} {mo : Option Nat} : Loc (fun x => txtM fr x mo) p r := uqT p.length (Nat.le_refl _)
theorem tqa {fr p : List Nat} {mo : Option Nat} : Loc (fun x => filM fr x mo) p r := by
 have L := mqT (r := r) (fr := fr) (p := p) (mo := mo)
 refine ⟨fun a n h hn => ?_, fun n h hn => ?_⟩
 ·obtain ⟨h1, h2⟩ := iqp h
  have := L.ok a n h1 hn
  show filM fr (p ++ r) mo = _
  unfold filM
  rw [show txtM fr (p ++ r) mo = _ from this]
  exact if_neg h2
 ·have h : filM fr p mo = .error n := h
  show filM fr (p ++ r) mo = _
  unfold filM at h ⊢
  cases e : txtM fr p mo with
  | error k =>
   rw [e] at h
   cases h
   rw [show txtM fr (p ++ r) mo = _ from L.err n e hn]
  | ok x =>
   obtain ⟨s, k⟩ := x
   rw [e] at h
   have h : (if s = [] then (.error k : Rs (List Nat)) else .ok (s, k)) = .error n := h
   by_cases hs : s = []
   ·rw [if_pos hs] at h
    cases h
    rw [show txtM fr (p ++ r) mo = _ from L.ok s n e hn]
    exact if_pos hs
   ·rw [if_neg hs] at h; cases h
theorem sqG {α : Type} {c : Nat} {M : List Nat → Rs α} {a0 : α} {p : List Nat} (L : Loc M (p.drop 1) r) : Loc (fun x => if x.head? = some c then sh 1 (M (x.drop 1)) else .ok (a0, 0)) p r := by
 refine ⟨fun a n h hn => ?_, fun n h hn => ?_⟩
 ·have hp : 0 < p.length := by omega
  show (if (p ++ r).head? = some c then _ else _) = _
  rw [fqY hp, cqj hp]
  have h : (if p.head? = some c then sh 1 (M (p.drop 1)) else .ok (a0, 0)) = .ok (a, n) := h
  by_cases hc : p.head? = some c
  ·rw [if_pos hc] at h ⊢
   obtain ⟨m, h2, rfl⟩ := eqD h
   rw [L.ok a m h2 (by rw [List.length_drop]; omega)]; rfl
  ·rw [if_neg hc] at h ⊢; exact h
 ·have hp : 0 < p.length := by omega
  show (if (p ++ r).head? = some c then _ else _) = _
  rw [fqY hp, cqj hp]
  have h : (if p.head? = some c then sh 1 (M (p.drop 1)) else .ok (a0, 0)) = .error n := h
  by_cases hc : p.head? = some c
  ·rw [if_pos hc] at h ⊢
   obtain ⟨m, h2, rfl⟩ := dqS h
   rw [L.err m h2 (by rw [List.length_drop]; omega)]; rfl
  ·rw [if_neg hc] at h; cases h
theorem tqo {α β : Type} {f : α → β} {M : List Nat → Rs α} {p : List Nat} (L : Loc M p r) : Loc (fun x => mp f (M x)) p r := by
 refine ⟨fun a n h hn => ?_, fun n h hn => ?_⟩
 ·obtain ⟨x, h2, rfl⟩ := dq1 h
  show mp f (M (p ++ r)) = _
  rw [L.ok x n h2 hn]; rfl
 ·show mp f (M (p ++ r)) = _
  rw [L.err n (dqR h) hn]; rfl
theorem nql {p : List Nat} : Loc valM p r := sqG (tqo mqT)
theorem sqF {p : List Nat} : Loc marM p r := sqG (tqo mqT)
theorem qq9 : ∀ (p : List Nat) (v : Nat), (dooG p v).2 < p.length → dooG (p ++ r) v = dooG p v
 | [], v, h => by simp at h
 | c :: p, v, h => by
  show dooG (c :: (p ++ r)) v = _
  unfold dooG at h ⊢
  by_cases hc : 0 < v ∧ 48 ≤ c ∧ c ≤ 57 ∧ v * 10 + (c - 48) ≤ 65535
  ·rw [if_pos hc] at h ⊢
   rw [if_pos hc]
   have h : (dooG p (v * 10 + (c - 48))).2 + 1 < (c :: p).length := h
   rw [qq9 p _ (by simp only [List.length_cons] at h; omega)]
  ·rw [if_neg hc, if_neg hc]
theorem sqS {p : List Nat} : Loc dooM p r := by
 have key : ∀ q c q', q = 58 :: c :: q' → dooM q = if 48 ≤ c ∧ c ≤ 57 then .ok (some ((dooG q' (c - 48)).1 : Int), 2 + (dooG q' (c - 48)).2) else .error 1 := fun q c q' e => by
  subst e
  unfold dooM
  rw [if_pos List.head?_cons]
  rfl
 have off : ∀ q, q.head? ≠ some 58 → dooM q = .ok (none, 0) := fun q hq => by unfold dooM; rw [if_neg hq]
 match p with
 | [] => exact ⟨fun a n _ hn => by simp at hn, fun n _ hn => by simp at hn⟩
 | c :: p =>
  by_cases hc : c = 58
  ·subst hc
   match p with
   | [] =>
    refine ⟨(fun a n h _ => by cases h), fun n h hn => ?_⟩
    cases h
    simp at hn
   | c :: p =>
    refine ⟨fun a n h hn => ?_, fun n h hn => ?_⟩
    ·rw [key _ c p rfl] at h
     rw [key (58 :: c :: p ++ r) c (p ++ r) rfl]
     by_cases hf : 48 ≤ c ∧ c ≤ 57
     ·rw [if_pos hf] at h ⊢
      cases h
      simp only [List.length_cons] at hn
      rw [qq9 p _ (by omega)]
     ·rw [if_neg hf] at h; cases h
    ·rw [key _ c p rfl] at h
     rw [key (58 :: c :: p ++ r) c (p ++ r) rfl]
     by_cases hf : 48 ≤ c ∧ c ≤ 57
     ·rw [if_pos hf] at h; cases h
     ·rw [if_neg hf] at h ⊢; exact h
  ·have h1 : (c :: p).head? ≠ some 58 := fun z => hc (Option.some.inj z)
   have h2 : (c :: p ++ r).head? ≠ some 58 := fun z => hc (Option.some.inj z)
   refine ⟨fun a n h _ => ?_, fun n h _ => ?_⟩
   ·rw [off _ h1] at h; rw [off _ h2]; exact h
   ·rw [off _ h1] at h; cases h
theorem lqe : ∀ (f : Nat) {p : List Nat} {e : Bool}, p.length < f → (∀ x n, stpF f p e = .ok (x, n) → n < p.length → stpF (f + r.length) (p ++ r) e = .ok (x, n)) ∧ ∀ n, stpF f p e = .error n → n < p.length → stpF (f + r.length) (p ++ r) e = .error n
 | 0, p, e, hf => absurd hf (Nat.not_lt_zero _)
 | f + 1, p, e, hf => by
  have L := mqT (r := r) (fr := frS) (p := p) (mo := none)
  have un : ∀ (f : Nat) (q : List Nat) (s : List Nat) (k : Nat), txtM frS q none = .ok (s, k) → stpF (f + 1) q e = if s = [] then .ok (([], e), k) else if (q.drop k).head? = some 47 then sh (k + 1) (mp (fun x => (s :: x.1, x.2)) (stpF f (q.drop (k + 1)) true)) else sh k (mp (fun x => (s :: x.1, x.2)) (stpF f (q.drop k) false)) := fun f q s k h => by
   conv => lhs; unfold stpF
   rw [h]
  have unE : ∀ (f : Nat) (q : List Nat) (k : Nat), txtM frS q none = .error k → stpF (f + 1) q e = .error k := fun f q k h => by
   unfold stpF
   rw [h]
  rw [show f + 1 + r.length = (f + r.length) + 1 by omega]
  cases ht : txtM frS p none with
  | error k =>
   refine ⟨(fun x n h hn => by rw [unE f p k ht] at h; cases h), fun n h hn => ?_⟩
   rw [unE f p k ht] at h
   cases h
   exact unE _ _ _ (L.err _ ht hn)
  | ok y =>
   obtain ⟨s, k⟩ := y
   obtain ⟨t1, t2, t3⟩ := cqn ht
   by_cases hs : s = []
   ·refine ⟨fun x n h hn => ?_, fun n h hn => ?_⟩
    ·rw [un f p s k ht, if_pos hs] at h
     cases h
     rw [un _ _ s _ (L.ok s _ ht hn), if_pos hs]
    ·rw [un f p s k ht, if_pos hs] at h; cases h
   ·have hk := t3 hs
    by_cases h47 : (p.drop k).head? = some 47
    ·have hkl : k + 1 ≤ p.length := by have := bqh h47; rw [List.length_drop] at this; omega
     have hl1 : (p.drop (k + 1)).length < f := by rw [List.length_drop]; omega
     have ih := lqe f (p := p.drop (k + 1)) (e := true) hl1
     have e2 : stpF (f + r.length + 1) (p ++ r) e = sh (k + 1) (mp (fun x => (s :: x.1, x.2)) (stpF (f + r.length) (p.drop (k + 1) ++ r) true)) := by
      rw [un _ _ s k (L.ok s k ht (by omega)), if_neg hs, cqj (by omega), fqY (by rw [List.length_drop]; omega), if_pos h47, cqj hkl]
     refine ⟨fun x n h hn => ?_, fun n h hn => ?_⟩
     ·rw [un f p s k ht, if_neg hs, if_pos h47] at h
      obtain ⟨m, h2, rfl⟩ := eqD h
      obtain ⟨y, h3, rfl⟩ := dq1 h2
      rw [e2, ih.1 y m h3 (by rw [List.length_drop]; omega)]; rfl
     ·rw [un f p s k ht, if_neg hs, if_pos h47] at h
      obtain ⟨m, h2, rfl⟩ := dqS h
      rw [e2, ih.2 m (dqR h2) (by rw [List.length_drop]; omega)]; rfl
    ·have ih := lqe f (p := p.drop k) (e := false) (by rw [List.length_drop]; omega)
     have e2 : k < p.length → stpF (f + r.length + 1) (p ++ r) e = sh k (mp (fun x => (s :: x.1, x.2)) (stpF (f + r.length) (p.drop k ++ r) false)) := fun hkl => by
      rw [un _ _ s k (L.ok s k ht hkl), if_neg hs, cqj (by omega), fqY (by rw [List.length_drop]; omega), if_neg h47]
     refine ⟨fun x n h hn => ?_, fun n h hn => ?_⟩
     ·rw [un f p s k ht, if_neg hs, if_neg h47] at h
      obtain ⟨m, h2, rfl⟩ := eqD h
      obtain ⟨y, h3, rfl⟩ := dq1 h2
      rw [e2 (by omega), ih.1 y m h3 (by rw [List.length_drop]; omega)]; rfl
     ·rw [un f p s k ht, if_neg hs, if_neg h47] at h
      obtain ⟨m, h2, rfl⟩ := dqS h
      rw [e2 (by omega), ih.2 m (dqR h2) (by rw [List.length_drop]; omega)]; rfl
theorem nq0 {must : Bool} {p : List Nat} : Loc (wayM must) p r := by
 have fu : p.length + 1 + r.length = (p ++ r).length + 1 := by rw [List.length_append]; omega
 refine ⟨fun x n h hn => ?_, fun n h hn => ?_⟩
 ·have hp : 0 < p.length := by omega
  unfold wayM at h ⊢
  rw [fqY hp, cqj hp]
  by_cases h47 : p.head? = some 47
  ·rw [if_pos h47] at h ⊢
   obtain ⟨m, h2, rfl⟩ := eqD h
   obtain ⟨y, h3, rfl⟩ := dq1 h2
   have := (lqe (r := r) _ (show (p.drop 1).length < p.length + 1 by rw [List.length_drop]; omega)).1 y m h3 (by rw [List.length_drop]; omega)
   rw [← fu, this]; rfl
  ·rw [if_neg h47] at h ⊢
   by_cases hm : must = true
   ·rw [if_pos hm] at h ⊢; exact h
   ·rw [if_neg hm] at h ⊢
    obtain ⟨y, h3, rfl⟩ := dq1 h
    have := (lqe (r := r) _ (show p.length < p.length + 1 by omega)).1 y n h3 hn
    rw [← fu, this]; rfl
 ·have hp : 0 < p.length := by omega
  unfold wayM at h ⊢
  rw [fqY hp, cqj hp]
  by_cases h47 : p.head? = some 47
  ·rw [if_pos h47] at h ⊢
   obtain ⟨m, h2, rfl⟩ := dqS h
   have := (lqe (r := r) _ (show (p.drop 1).length < p.length + 1 by rw [List.length_drop]; omega)).2 m (dqR h2) (by rw [List.length_drop]; omega)
   rw [← fu, this]; rfl
  ·rw [if_neg h47] at h ⊢
   by_cases hm : must = true
   ·rw [if_pos hm] at h; cases h
   ·rw [if_neg hm] at h ⊢
    have := (lqe (r := r) _ (show p.length < p.length + 1 by omega)).2 n (dqR h) hn
    rw [← fu, this]; rfl
theorem oqa : ∀ (f : Nat) {p : List Nat}, p.length < f → (∀ x n, prsF f p = .ok (x, n) → n < p.length → prsF (f + r.length) (p ++ r) = .ok (x, n)) ∧ ∀ n, prsF f p = .error n → n < p.length → prsF (f + r.length) (p ++ r) = .error n
 | 0, p, hf => absurd hf (Nat.not_lt_zero _)
 | f + 1, p, hf => by
  rw [show f + 1 + r.length = (f + r.length) + 1 by omega]
  have un : ∀ (f : Nat) (q : List Nat), q.head? = some 38 → prsF (f + 1) q = sh 1 (bdR (filM frQ (q.drop 1) none) fun s n => bdR (valM (q.drop (1 + n))) fun v m => mp (fun l => (s, v) :: l) (prsF f (q.drop (1 + n + m)))) := fun f q h => by
   conv => lhs; unfold prsF
   rw [if_pos h]
  have off : ∀ (f : Nat) (q : List Nat), q.head? ≠ some 38 → prsF (f + 1) q = .ok ([], 0) := fun f q h => by unfold prsF; rw [if_neg h]
  by_cases h38 : p.head? = some 38
  ·have hp := bqh h38
   have F := tqa (r := r) (fr := frQ) (p := p.drop 1) (mo := none)
   have step : ∀ (s : List Nat) (n : Nat) (v : Option (List Nat)) (m : Nat), filM frQ (p.drop 1) none = .ok (s, n) → n < (p.drop 1).length → valM (p.drop (1 + n)) = .ok (v, m) → m < (p.drop (1 + n)).length → prsF (f + r.length + 1) (p ++ r) = sh (1 + n + m) (mp (fun l => (s, v) :: l) (prsF (f + r.length) (p.drop (1 + n + m) ++ r))) := fun s n v m e1 l1 e2 l2 => by
    rw [List.length_drop] at l1 l2
    rw [un _ _ (by rw [fqY hp]; exact h38), cqj hp, show filM frQ (p.drop 1 ++ r) none = _ from F.ok s n e1 (by rw [List.length_drop]; omega)]
    show sh 1 (sh n (bdR (valM ((p ++ r).drop (1 + n))) _)) = _
    rw [cqj (by omega), nql.ok v m e2 (by rw [List.length_drop]; omega)]
    show sh 1 (sh n (sh m (mp _ (prsF _ ((p ++ r).drop (1 + n + m)))))) = _
    rw [cqj (by omega), mqC, mqC]
   refine ⟨fun x n h hn => ?_, fun n h hn => ?_⟩
   ·rw [un f p h38] at h
    obtain ⟨m1, h1, rfl⟩ := eqD h
    obtain ⟨s, k, m2, e1, h2, rfl⟩ := fqZ h1
    obtain ⟨v, k2, m3, e2, h3, rfl⟩ := fqZ h2
    obtain ⟨l, h4, rfl⟩ := dq1 h3
    have ih := (oqa f (p := p.drop (1 + k + k2)) (by rw [List.length_drop]; omega)).1 l m3 h4 (by rw [List.length_drop]; omega)
    rw [step s k v k2 e1 (by rw [List.length_drop]; omega) e2 (by rw [List.length_drop]; omega), ih]
    show Except.ok _ = Except.ok _
    rw [show 1 + k + k2 + m3 = 1 + (k + (k2 + m3)) by omega]
   ·rw [un f p h38] at h
    obtain ⟨m1, h1, rfl⟩ := dqS h
    rcases gqm h1 with h2 | ⟨s, k, m2, e1, h2, rfl⟩
    ·rw [un _ _ (by rw [fqY hp]; exact h38), cqj hp, show filM frQ (p.drop 1 ++ r) none = _ from F.err m1 h2 (by rw [List.length_drop]; omega)]
     rfl
    ·rcases gqm h2 with h3 | ⟨v, k2, m3, e2, h3, rfl⟩
     ·rw [un _ _ (by rw [fqY hp]; exact h38), cqj hp, show filM frQ (p.drop 1 ++ r) none = _ from F.ok s k e1 (by rw [List.length_drop]; omega)]
      show sh 1 (sh k (bdR (valM ((p ++ r).drop (1 + k))) _)) = _
      rw [cqj (by omega), nql.err m2 h3 (by rw [List.length_drop]; omega)]
      rfl
     ·have ih := (oqa f (p := p.drop (1 + k + k2)) (by rw [List.length_drop]; omega)).2 m3 (dqR h3) (by rw [List.length_drop]; omega)
      rw [step s k v k2 e1 (by rw [List.length_drop]; omega) e2 (by rw [List.length_drop]; omega), ih]
      show Except.error _ = Except.error _
      rw [show 1 + k + k2 + m3 = 1 + (k + (k2 + m3)) by omega]
  ·refine ⟨fun x n h hn => ?_, fun n h hn => ?_⟩
   ·rw [off f p h38] at h
    rw [off _ _ (by rw [fqY (by omega)]; exact h38)]; exact h
   ·rw [off f p h38] at h; cases h
theorem qqh {p : List Nat} : Loc queM p r := by
 have fu : p.length + 1 + r.length = (p ++ r).length + 1 := by rw [List.length_append]; omega
 have un : ∀ (q : List Nat), q.head? = some 63 → queM q = sh 1 (bdR (txtM frQ (q.drop 1) none) fun s n => if s = [] then .ok (some [], 0) else bdR (valM (q.drop (1 + n))) fun v m => mp (fun l => some ((s, v) :: l)) (prsF (q.length + 1) (q.drop (1 + n + m)))) := fun q h => by
  unfold queM; rw [if_pos h]
 have off : ∀ (q : List Nat), q.head? ≠ some 63 → queM q = .ok (none, 0) := fun q h => by unfold queM; rw [if_neg h]
 by_cases h63 : p.head? = some 63
 ·have hp := bqh h63
  have h63' : (p ++ r).head? = some 63 := by rw [fqY hp]; exact h63
  have T := mqT (r := r) (fr := frQ) (p := p.drop 1) (mo := none)
  have u1 : ∀ (s : List Nat) (n : Nat), txtM frQ (p.drop 1) none = .ok (s, n) → n < (p.drop 1).length → s ≠ [] → queM (p ++ r) = sh (1 + n) (bdR (valM (p.drop (1 + n) ++ r)) fun v m => mp (fun l => some ((s, v) :: l)) (prsF ((p ++ r).length + 1) ((p ++ r).drop (1 + n + m)))) := fun s n e1 l1 hs => by
   rw [un _ h63', cqj hp, show txtM frQ (p.drop 1 ++ r) none = _ from T.ok s n e1 l1]
   rw [List.length_drop] at l1
   show sh 1 (sh n (if s = [] then _ else bdR (valM ((p ++ r).drop (1 + n))) _)) = _
   rw [if_neg hs, cqj (by omega), mqC]
  refine ⟨fun x n h hn => ?_, fun n h hn => ?_⟩
  ·rw [un p h63] at h
   obtain ⟨m1, h1, rfl⟩ := eqD h
   obtain ⟨s, k, m2, e1, h2, rfl⟩ := fqZ h1
   have h2 : (if s = [] then (.ok (some [], 0) : Rs (Option (List (List Nat × Option (List Nat))))) else bdR (valM (p.drop (1 + k))) fun v m => mp (fun l => some ((s, v) :: l)) (prsF (p.length + 1) (p.drop (1 + k + m)))) = .ok (x, m2) := h2
   by_cases hs : s = []
   ·rw [if_pos hs] at h2
    cases h2
    rw [un _ h63', cqj hp, show txtM frQ (p.drop 1 ++ r) none = _ from T.ok s k e1 (by rw [List.length_drop]; omega)]
    show sh 1 (sh k (if s = [] then _ else _)) = _
    rw [if_pos hs]; rfl
   ·rw [if_neg hs] at h2
    obtain ⟨v, k2, m3, e2, h3, rfl⟩ := fqZ h2
    obtain ⟨l, h4, rfl⟩ := dq1 h3
    have ih := (oqa (r := r) _ (show (p.drop (1 + k + k2)).length < p.length + 1 by rw [List.length_drop]; omega)).1 l m3 h4 (by rw [List.length_drop]; omega)
    rw [u1 s k e1 (by rw [List.length_drop]; omega) hs, nql.ok v k2 e2 (by rw [List.length_drop]; omega)]
    show sh (1 + k) (sh k2 (mp _ (prsF ((p ++ r).length + 1) ((p ++ r).drop (1 + k + k2))))) = _
    rw [cqj (by omega), ← fu, ih]
    show Except.ok _ = Except.ok _
    rw [show 1 + k + (k2 + m3) = 1 + (k + (k2 + m3)) by omega]
  ·rw [un p h63] at h
   obtain ⟨m1, h1, rfl⟩ := dqS h
   rcases gqm h1 with h2 | ⟨s, k, m2, e1, h2, rfl⟩
   ·rw [un _ h63', cqj hp, show txtM frQ (p.drop 1 ++ r) none = _ from T.err m1 h2 (by rw [List.length_drop]; omega)]
    rfl
   ·have h2 : (if s = [] then (.ok (some [], 0) : Rs (Option (List (List Nat × Option (List Nat))))) else bdR (valM (p.drop (1 + k))) fun v m => mp (fun l => some ((s, v) :: l)) (prsF (p.length + 1) (p.drop (1 + k + m)))) = .error m2 := h2
    by_cases hs : s = []
    ·rw [if_pos hs] at h2; cases h2
    ·rw [if_neg hs] at h2
     rcases gqm h2 with h3 | ⟨v, k2, m3, e2, h3, rfl⟩
     ·rw [u1 s k e1 (by rw [List.length_drop]; omega) hs, nql.err m2 h3 (by rw [List.length_drop]; omega)]
      show Except.error _ = Except.error _
      rw [show 1 + k + m2 = 1 + (k + m2) by omega]
     ·have ih := (oqa (r := r) _ (show (p.drop (1 + k + k2)).length < p.length + 1 by rw [List.length_drop]; omega)).2 m3 (dqR h3) (by rw [List.length_drop]; omega)
      rw [u1 s k e1 (by rw [List.length_drop]; omega) hs, nql.ok v k2 e2 (by rw [List.length_drop]; omega)]
      show sh (1 + k) (sh k2 (mp _ (prsF ((p ++ r).length + 1) ((p ++ r).drop (1 + k + k2))))) = _
      rw [cqj (by omega), ← fu, ih]
      show Except.error _ = Except.error _
      rw [show 1 + k + (k2 + m3) = 1 + (k + (k2 + m3)) by omega]
 ·refine ⟨fun x n h hn => ?_, fun n h hn => ?_⟩
  ·rw [off p h63] at h
   rw [off _ (by rw [fqY (by omega)]; exact h63)]; exact h
  ·rw [off p h63] at h; cases h
theorem vqs {p : List Nat} (hp : p ≠ [47]) : Loc houM p r := by
 have tk : 0 < p.length → ((p ++ r).take 2 = [47, 47] ↔ p.take 2 = [47, 47]) := fun h0 => by
  match p, hp, h0 with
  | [c], hp, _ =>
   have hc : c ≠ 47 := fun z => hp (by rw [z])
   simp [hc]
  | c :: d :: p, _, _ => simp
 have F := tqo (f := some) (tqa (r := r) (fr := []) (p := p.drop 2) (mo := some 60))
 refine ⟨fun x n h hn => ?_, fun n h hn => ?_⟩
 ·unfold houM at h ⊢
  by_cases h2 : p.take 2 = [47, 47]
  ·have hl := congrArg List.length h2
   rw [List.length_take] at hl
   simp only [List.length_cons, List.length_nil] at hl
   rw [if_pos h2] at h
   rw [if_pos ((tk (by omega)).mpr h2), cqj (by omega)]
   obtain ⟨m, h3, rfl⟩ := eqD h
   rw [show mp some (filM [] (p.drop 2 ++ r) (some 60)) = _ from F.ok x m h3 (by rw [List.length_drop]; omega)]
   rfl
  ·rw [if_neg h2] at h
   rw [if_neg (fun z => h2 ((tk (by omega)).mp z))]; exact h
 ·unfold houM at h ⊢
  by_cases h2 : p.take 2 = [47, 47]
  ·have hl := congrArg List.length h2
   rw [List.length_take] at hl
   simp only [List.length_cons, List.length_nil] at hl
   rw [if_pos h2] at h
   rw [if_pos ((tk (by omega)).mpr h2), cqj (by omega)]
   obtain ⟨m, h3, rfl⟩ := dqS h
   rw [show mp some (filM [] (p.drop 2 ++ r) (some 60)) = _ from F.err m h3 (by rw [List.length_drop]; omega)]
   rfl
  ·rw [if_neg h2] at h; cases h
theorem mqR {o : Option (List Nat)} {p : List Nat} : Loc (dorM o) p r := by
 refine ⟨fun x n h hn => ?_, fun n h hn => ?_⟩
 ·unfold dorM at h ⊢
  by_cases ho : o = none
  ·rw [if_pos ho] at h ⊢; exact h
  ·rw [if_neg ho] at h ⊢; exact sqS.ok x n h hn
 ·unfold dorM at h ⊢
  by_cases ho : o = none
  ·rw [if_pos ho] at h; cases h
  ·rw [if_neg ho] at h ⊢; exact sqS.err n h hn
end
end Wm
namespace Wm
open PySem L2
theorem oqC {fr : List Nat} : ∀ {p : List Nat}, (∀ c ∈ p, isPl c = true) → WrT fr p p
 | [], _ => .nil
 | c :: p, h => .self (.inl (h c (List.mem_cons_self ..))) (fun z => by have := h c (List.mem_cons_self ..); rw [z] at this; cases this) (oqC fun d hd => h d (List.mem_cons_of_mem _ hd))
theorem wqg {c : Nat} (h : isAln c = true) : isPl c = true := by
 simp only [isAln, isLet, isPl, Bool.or_eq_true, decide_eq_true_eq] at *
 omega
theorem lqA {t : List Nat} (h : 58 ∉ t) : schM t = [] := (fqP fun z => h (List.mem_of_getElem? z.2.2)).1
theorem rqz {p : List Nat} (h : ∀ c ∈ p, isAln c = true) : ∃ x, readM p = .ok x := by
 have h58 : 58 ∉ p := fun z => by have := h 58 z; cases this
 by_cases hp : p = []
 ·subst hp
  refine ⟨⟨[], none, none, false, [], false, none, none⟩, jqp ⟨[], [], [], [], [], [], rfl, lqA h58, rfl, rfl, .inl rfl, .none, rfl, rfl⟩ ⟨⟨by decide, (fun c hc => by cases hc), fun c hc => by cases hc⟩, (fun l e => by cases e), (fun i e => by cases e), (fun s hs => by cases hs), (fun z => by simp at z), fun _ => rfl, (fun ps e => by cases e), fun l e => by cases e⟩⟩
 ·have hw : WrT frS p p := oqC fun c hc => wqg (h c hc)
  refine ⟨⟨[], none, none, false, [p], false, none, none⟩, jqp ⟨[], [], [], p ++ [], [], [], by simp [schT], lqA h58, rfl, rfl, .inl rfl, .some hw hp .stop, rfl, rfl⟩ ⟨⟨Nat.zero_le _, (fun c hc => by cases hc), fun c hc => by cases hc⟩, (fun l e => by cases e), (fun i e => by cases e), (fun s hs => ?_), (fun z => by simp at z), (fun z => by cases z), (fun ps e => by cases e), fun l e => by cases e⟩⟩
  rw [List.mem_singleton.mp hs]
  exact ⟨List.length_pos_iff.mpr hp, fun c hc => nqp (h c hc)⟩
theorem first58 : ∀ {p : List Nat}, 58 ∈ p → ∃ a b, p = a ++ 58 :: b ∧ ∀ c ∈ a, c ≠ 58
 | c :: p, h => by
  by_cases hc : c = 58
  ·exact ⟨[], p, by rw [hc]; rfl, fun d hd => by cases hd⟩
  ·obtain ⟨a, b, e, ha⟩ := first58 (p := p) ((List.mem_cons.mp h).resolve_left (Ne.symm hc))
   exact ⟨c :: a, b, by rw [e]; rfl, fun d hd => by
    rcases List.mem_cons.mp hd with rfl | hd
    ·exact hc
    ·exact ha d hd⟩
theorem wqc {p r : List Nat} {k : Nat} (h : readM p = .error k) : schM (p ++ r) = schM p := by
 by_cases h58 : 58 ∈ p
 ·obtain ⟨a, b, rfl, ha⟩ := first58 h58
  have e1 : ahead (a ++ 58 :: b) = a := iqf ha
  have e2 : ahead (a ++ 58 :: b ++ r) = a := by rw [show a ++ 58 :: b ++ r = a ++ 58 :: (b ++ r) by simp]; exact iqf ha
  have e3 : (a ++ 58 :: b)[a.length]? = some 58 := by rw [List.getElem?_append_right (Nat.le_refl _), Nat.sub_self]; rfl
  have e4 : (a ++ 58 :: b ++ r)[a.length]? = some 58 := by rw [show a ++ 58 :: b ++ r = a ++ 58 :: (b ++ r) by simp, List.getElem?_append_right (Nat.le_refl _), Nat.sub_self]; rfl
  unfold schM
  rw [e1, e2, e3, e4]
 ·rw [lqA h58]
  by_cases hc : ahead (p ++ r) ≠ [] ∧ schD (.str ⟨(ahead (p ++ r)).toArray⟩) = true ∧ (p ++ r)[(ahead (p ++ r)).length]? = some 58
  ·exfalso
   have h2 := hc.2.1
   simp only [schD, Bool.and_eq_true, List.all_eq_true, decide_eq_true_eq] at h2
   have e : ahead (p ++ r) = p ++ ahead r := by
    unfold ahead
    exact List.takeWhile_append_of_pos (p := fun c => decide (c ≠ 58)) (fun c hc' => decide_eq_true (fun z : c = 58 => h58 (by rw [← z]; exact hc')))
   obtain ⟨x, ex⟩ := rqz (p := p) fun c hc' => h2.2 c (by rw [e]; exact List.mem_append.mpr (.inl hc'))
   rw [ex] at h
   cases h
  ·exact (fqP hc).1
theorem oq0 {p : List Nat} (hd : p.drop (schP p) = [47]) : ∃ x, readM p = .ok x := by
 have hl : schP p + 1 = p.length := by
  have := congrArg List.length hd
  rw [List.length_drop, List.length_singleton] at this
  omega
 have d1 : p.drop (schP p + 0 + 0 + 1) = [] := List.drop_of_length_le (by omega)
 have e1 : houM (p.drop (schP p)) = .ok (none, 0) := by rw [hd]; unfold houM; rw [if_neg (by decide)]
 have e2 : dorM none (p.drop (schP p + 0)) = .ok (none, 0) := by unfold dorM; rw [if_pos rfl]
 have e3 : wayM (decide (schM p ≠ [] ∨ (none : Option (List Nat)) ≠ none)) (p.drop (schP p + 0 + 0)) = .ok ((true, [], true), 1) := by
  show wayM _ (p.drop (schP p)) = _
  rw [hd]
  unfold wayM
  rw [if_pos (by decide)]
  show sh 1 (mp _ (stpF 2 [] true)) = _
  unfold stpF
  rw [gqk]; rfl
 have e4 : queM (p.drop (schP p + 0 + 0 + 1)) = .ok (none, 0) := by rw [d1]; unfold queM; rw [if_neg (by decide)]
 have e5 : marM (p.drop (schP p + 0 + 0 + 1 + 0)) = .ok (none, 0) := by show marM (p.drop (schP p + 0 + 0 + 1)) = _; rw [d1]; unfold marM; rw [if_neg (by decide)]
 exact ⟨_, by rw [lqh e1 e2 e3 e4 e5, if_pos (by omega)]⟩
theorem rql {p r : List Nat} {k : Nat} (h : readM p = .error k) (hk : k < p.length) : readM (p ++ r) = .error k := by
 have es := wqc (r := r) h
 have ep : schP (p ++ r) = schP p := by unfold schP; rw [es]
 have hsp := lq9 p
 have h47 : p.drop (schP p) ≠ [47] := fun z => by obtain ⟨x, e⟩ := oq0 z; rw [e] at h; cases h
 have da : ∀ {i : Nat}, i ≤ p.length → (p ++ r).drop i = p.drop i ++ r := fun hi => cqj hi
 have H1 := vqs (r := r) h47
 cases e1 : houM (p.drop (schP p)) with
 | error n =>
  rw [oqp e1] at h
  cases h
  have := H1.err n e1 (by rw [List.length_drop]; omega)
  rw [← ep]
  exact oqp (by rw [ep, da hsp]; exact this)
 | ok y1 =>
 obtain ⟨o, n1⟩ := y1
 have l1 := oqN e1
 rw [List.length_drop] at l1
 cases e2 : dorM o (p.drop (schP p + n1)) with
 | error n =>
  rw [oqG e1 e2] at h
  cases h
  have f1 := H1.ok o n1 e1 (by rw [List.length_drop]; omega)
  have f2 := mqR (r := r).err n e2 (by rw [List.length_drop]; omega)
  rw [← ep]
  exact oqG (h := o) (by rw [ep, da hsp]; exact f1) (by rw [ep, da (by omega)]; exact f2)
 | ok y2 =>
 obtain ⟨d, n2⟩ := y2
 have l2 := (oqb e2).1
 rw [List.length_drop] at l2
 cases e3 : wayM (decide (schM p ≠ [] ∨ o ≠ none)) (p.drop (schP p + n1 + n2)) with
 | error n =>
  rw [nqW e1 e2 e3] at h
  cases h
  have f1 := H1.ok o n1 e1 (by rw [List.length_drop]; omega)
  have f2 := mqR (r := r).ok d n2 e2 (by rw [List.length_drop]; omega)
  have f3 := nq0 (r := r).err n e3 (by rw [List.length_drop]; omega)
  rw [← ep]
  exact nqW (h := o) (d := d) (by rw [ep, da hsp]; exact f1) (by rw [ep, da (by omega)]; exact f2) (by rw [ep, es, da (by omega)]; exact f3)
 | ok y3 =>
 obtain ⟨w, n3⟩ := y3
 have l3 := (mqO e3).1
 rw [List.length_drop] at l3
 cases e4 : queM (p.drop (schP p + n1 + n2 + n3)) with
 | error n =>
  rw [oqM e1 e2 e3 e4] at h
  cases h
  have f1 := H1.ok o n1 e1 (by rw [List.length_drop]; omega)
  have f2 := mqR (r := r).ok d n2 e2 (by rw [List.length_drop]; omega)
  have f3 := nq0 (r := r).ok w n3 e3 (by rw [List.length_drop]; omega)
  have f4 := qqh (r := r).err n e4 (by rw [List.length_drop]; omega)
  rw [← ep]
  exact oqM (h := o) (d := d) (w := w) (by rw [ep, da hsp]; exact f1) (by rw [ep, da (by omega)]; exact f2) (by rw [ep, es, da (by omega)]; exact f3) (by rw [ep, da (by omega)]; exact f4)
 | ok y4 =>
 obtain ⟨q, n4⟩ := y4
 have l4 := (mqH e4).1
 rw [List.length_drop] at l4
 cases e5 : marM (p.drop (schP p + n1 + n2 + n3 + n4)) with
 | error n =>
  rw [nq9 e1 e2 e3 e4 e5] at h
  cases h
  have f1 := H1.ok o n1 e1 (by rw [List.length_drop]; omega)
  have f2 := mqR (r := r).ok d n2 e2 (by rw [List.length_drop]; omega)
  have f3 := nq0 (r := r).ok w n3 e3 (by rw [List.length_drop]; omega)
  have f4 := qqh (r := r).ok q n4 e4 (by rw [List.length_drop]; omega)
  have f5 := sqF (r := r).err n e5 (by rw [List.length_drop]; omega)
  rw [← ep]
  exact nq9 (h := o) (d := d) (w := w) (q := q) (by rw [ep, da hsp]; exact f1) (by rw [ep, da (by omega)]; exact f2) (by rw [ep, es, da (by omega)]; exact f3) (by rw [ep, da (by omega)]; exact f4) (by rw [ep, da (by omega)]; exact f5)
 | ok y5 =>
 obtain ⟨m, n5⟩ := y5
 have l5 := qq5 e5
 rw [List.length_drop] at l5
 rw [lqh e1 e2 e3 e4 e5] at h
 by_cases hend : schP p + n1 + n2 + n3 + n4 + n5 = p.length
 ·rw [if_pos hend] at h; cases h
 rw [if_neg hend] at h
 cases h
 have f1 := H1.ok o n1 e1 (by rw [List.length_drop]; omega)
 have f2 := mqR (r := r).ok d n2 e2 (by rw [List.length_drop]; omega)
 have f3 := nq0 (r := r).ok w n3 e3 (by rw [List.length_drop]; omega)
 have f4 := qqh (r := r).ok q n4 e4 (by rw [List.length_drop]; omega)
 have f5 := sqF (r := r).ok m n5 e5 (by rw [List.length_drop]; omega)
 have fin := lqh (t := p ++ r) (h := o) (d := d) (w := w) (q := q) (m := m) (n1 := n1) (n2 := n2) (n3 := n3) (n4 := n4) (n5 := n5) (by rw [ep, da hsp]; exact f1) (by rw [ep, da (by omega)]; exact f2) (by rw [ep, es, da (by omega)]; exact f3) (by rw [ep, da (by omega)]; exact f4) (by rw [ep, da (by omega)]; exact f5)
 rw [fin, ep, if_neg (by rw [List.length_append]; omega)]
end Wm
namespace Wm
open PySem L2
end Wm
namespace Wm
open PySem L2
end Wm
namespace Wm
open PySem L2
def RdS (x : Ad) (r : Bool) : Prop := r = x.rooted ∨ (r = false ∧ x.rooted = true ∧ x.steps = [] ∧ x.ends = true ∧ (x.scheme ≠ [] ∨ x.house ≠ none))
def RdW2 (x : Ad) (t : List Nat) : Prop := ∃ h d w q m r, RdS x r ∧ t = schT x.scheme ++ (h ++ (d ++ ((if r then [47] else []) ++ (w ++ (q ++ m))))) ∧ schM t = x.scheme ∧ HouW x.house h ∧ DooW x.door d ∧ StpW x.steps x.ends w ∧ QueW x.quest q ∧ MarW x.mark m
end Wm
namespace Wm
open PySem L2
theorem qql {c : Nat} (hc : isSg c = true) : sgO (PyProof.Rows.up1 (hexd (c / 16))) (PyProof.Rows.up1 (hexd (c % 16))) = some c := by
 have l := cqk hc
 have key : ∀ h, h < 16 → fig (PyProof.Rows.up1 (hexd h)) = some h := by decide +kernel
 unfold sgO
 rw [key (c / 16) (by omega), key (c % 16) (by omega)]
 simp only
 rw [show c / 16 * 16 + c % 16 = c by omega, if_pos hc]
theorem nq6 : ∀ h, h < 16 → hexd h < 128 := by decide +kernel
end Wm
namespace Wm
open PySem L2
theorem cqW {a : Nat} {l : List Nat} (ha : a < 128) (h : ∀ c ∈ l, c < 128) : ∀ c ∈ a :: l, c < 128 := fun c hc => by
 rcases List.mem_cons.mp hc with rfl | hc
 ·exact ha
 ·exact h c hc
theorem dqL {k l : List Nat} (hk : ∀ c ∈ k, c < 128) (h : ∀ c ∈ l, c < 128) : ∀ c ∈ k ++ l, c < 128 := fun c hc => by
 rcases List.mem_append.mp hc with hc | hc
 ·exact hk c hc
 ·exact h c hc
theorem dqa : ∀ c ∈ ([] : List Nat), c < 128 := fun c hc => by cases hc
theorem rq2 {o : Option (List Nat)} {w : List Nat} (h : HouW o w) : ∀ c ∈ w, c < 128 := by
 cases o with
 | none => rw [show w = [] from h]; exact dqa
 | some s => obtain ⟨v, rfl, hv, _⟩ := h; exact cqW (by decide) (cqW (by decide) (hqz dqa hv))
theorem sqn {o : Option (List Nat)} {w : List Nat} (h : MarW o w) : ∀ c ∈ w, c < 128 := by
 cases o with
 | none => rw [show w = [] from h]; exact dqa
 | some s => obtain ⟨v, rfl, hv⟩ := h; exact cqW (by decide) (hqz sqJ.2 hv)
theorem oqy {o : Option (List Nat)} {w : List Nat} (h : ValW o w) : ∀ c ∈ w, c < 128 := by
 cases o with
 | none => rw [show w = [] from h]; exact dqa
 | some s => obtain ⟨v, rfl, hv⟩ := h; exact cqW (by decide) (hqz mqV.2 hv)
theorem sqg {o : Option Int} {w : List Nat} (h : DooW o w) : ∀ c ∈ w, c < 128 := by
 cases o with
 | none => rw [show w = [] from h]; exact dqa
 | some n => obtain ⟨ds, rfl, _, hd, _⟩ := h; exact cqW (by decide) fun c hc => by have := hd c hc; omega
theorem uqt {ss : List (List Nat)} {e : Bool} {v : List Nat} (h : TlW ss e v) : ∀ c ∈ v, c < 128 := by
 induction h with
 | stop => exact dqa
 | ends => exact cqW (by decide) dqa
 | more hw _ _ ih => exact cqW (by decide) (dqL (hqz pqR.2 hw) ih)
theorem rqg {ss : List (List Nat)} {e : Bool} {v : List Nat} (h : StpW ss e v) : ∀ c ∈ v, c < 128 := by
 cases h with
 | none => exact dqa
 | some hw _ ht => exact dqL (hqz pqR.2 hw) (uqt ht)
theorem rqo {ps : List (List Nat × Option (List Nat))} {r : List Nat} (h : PrsW ps r) : ∀ c ∈ r, c < 128 := by
 induction h with
 | nil => exact dqa
 | cons hw _ hv _ ih => exact cqW (by decide) (dqL (hqz mqV.2 hw) (dqL (oqy hv) ih))
theorem rqD {q : Option (List (List Nat × Option (List Nat)))} {w : List Nat} (h : QueW q w) : ∀ c ∈ w, c < 128 := by
 cases q with
 | none => rw [show w = [] from h]; exact dqa
 | some ps =>
  cases ps with
  | nil => rw [show w = [63] from h]; exact cqW (by decide) dqa
  | cons p ps =>
   obtain ⟨n, o⟩ := p
   obtain ⟨a, v, r, rfl, ha, _, hv, hr⟩ := h
   exact cqW (by decide) (dqL (hqz mqV.2 ha) (dqL (oqy hv) (rqo hr)))
theorem squ {x : Ad} {t : List Nat} (wf : x.Wf) (h : RdW2 x t) : ∀ c ∈ t, c < 128 := by
 obtain ⟨h, d, w, q, m, r, _, rfl, _, hH, hD, hS, hQ, hM⟩ := h
 refine dqL ?_ (dqL (rq2 hH) (dqL (sqg hD) (dqL ?_ (dqL (rqg hS) (dqL (rqD hQ) (sqn hM))))))
 ·intro c hc
  unfold schT at hc
  split at hc
  ·cases hc
  ·rcases List.mem_append.mp hc with hc | hc
   ·exact rqk (nqp (wf.sch.2.1 c hc))
   ·rw [List.mem_singleton.mp hc]; decide
 ·cases r
  ·exact dqa
  ·exact cqW (by decide) dqa
theorem tqv {x : Ad} {h d w q m : List Nat} {r : Bool} (wf : x.Wf) (hr : RdS x r) (hH : HouW x.house h) (hD : DooW x.door d) (hS : StpW x.steps x.ends w) (hQ : QueW x.quest q) (hM : MarW x.mark m) :
  RdW2 x (schT x.scheme ++ (h ++ (d ++ ((if r then [47] else []) ++ (w ++ (q ++ m)))))) := by
 refine ⟨h, d, w, q, m, r, hr, rfl, ?_, hH, hD, hS, hQ, hM⟩
 by_cases hs : x.scheme = []
 ·rw [hs, show schT [] = [] from rfl, List.nil_append]
  cases hh : x.house with
  | some l =>
   rw [hh] at hH
   obtain ⟨v, rfl, _⟩ := hH
   exact mqn (w := []) (fun c hc => by cases hc) (.inr ⟨47, _, rfl, by decide, by decide⟩)
  | none =>
   rw [hh] at hH
   have hH : h = [] := hH
   cases hd : x.door with
   | some i => exact absurd hh (wf.doo i hd).2
   | none =>
    rw [hd] at hD
    have hD : d = [] := hD
    rw [hH, hD, List.nil_append, List.nil_append, ← List.append_assoc]
    refine mqn (fun c hc => ?_) ?_
    ·rcases List.mem_append.mp hc with hc | hc
     ·split at hc
      ·rw [List.mem_singleton.mp hc]; decide
      ·cases hc
     ·exact vqh hS c hc
    ·have hmr : m = [] ∨ ∃ y, m = 35 :: y := by
      cases hm : x.mark with
      | none => rw [hm] at hM; exact .inl hM
      | some s => rw [hm] at hM; obtain ⟨v, e, _⟩ := hM; exact .inr ⟨v, e⟩
     cases hq : x.quest with
     | none =>
      rw [hq] at hQ
      have hQ : q = [] := hQ
      rw [hQ]
      rcases hmr with e | ⟨y, e⟩
      ·exact .inl e
      ·exact .inr ⟨35, y, e, by decide, by decide⟩
     | some ps =>
      rw [hq] at hQ
      cases ps with
      | nil =>
       have hQ : q = [63] := hQ
       exact .inr ⟨63, m, by rw [hQ]; rfl, by decide, by decide⟩
      | cons a ps =>
       obtain ⟨n, o⟩ := a
       obtain ⟨a, v, r, e, _⟩ := hQ
       exact .inr ⟨63, _, by rw [e]; rfl, by decide, by decide⟩
 ·have hc : ∀ c ∈ x.scheme, c ≠ 58 := fun c hc => (kqi (nqr (wf.sch.2.1 c hc))).2.2.2.1
  have er : schT x.scheme = x.scheme ++ [58] := by unfold schT; rw [if_neg hs]
  rw [er, List.append_assoc, List.cons_append, List.nil_append]
  generalize (h ++ (d ++ ((if r then [47] else []) ++ (w ++ (q ++ m))))) = rr
  have ha : ahead (x.scheme ++ 58 :: rr) = x.scheme := iqf hc
  have := (hqD (t := x.scheme ++ 58 :: rr) (by rw [ha]; exact hs) (by
   rw [ha]
   simp only [schD, Bool.and_eq_true, List.all_eq_true, decide_eq_true_eq]
   exact ⟨⟨⟨fun c hc => nqp (wf.sch.2.1 c hc), by show x.scheme.length ≤ 8; exact wf.sch.1⟩, wf.sch.2.2⟩, wf.sch.2.1⟩) (by
   rw [ha, List.getElem?_append_right (Nat.le_refl _), Nat.sub_self]; rfl)).1
  rw [this, ha]
end Wm
namespace Wm
open PySem L2
def capS (m i : Nat) : Nat := (if m < 6 then 60 else 0) + 6 * i
def zOk (m i z : Nat) : Prop := z ≤ 6 ∨ (m < 6 ∧ i = 0)
theorem vqP {m : Nat} (h : m ≤ 40) : capS m m ≤ 240 := by
 unfold capS
 split <;> omega
theorem sqi {ss : List (List Nat)} {l : List Nat} {m i z : Nat} (h : sumL ss ≤ capS m i) (hz : zOk m i z) (hl : ss.length = i) (hs : l.length = z) (hz2 : z ≤ 60) : sumL (ss ++ [l]) ≤ capS m (i + 1) := by
 rw [sqy, cqq, show sumL [] = 0 from rfl]
 unfold capS at *
 rcases hz with hz | ⟨hm, hi⟩
 ·omega
 ·subst hi
  have : ss = [] := List.length_eq_zero_iff.mp hl
  subst this
  rw [if_pos hm]
  rw [show sumL [] = 0 from rfl]
  omega
theorem RdW2.v {x : Ad} {t : List Nat} (h : RdW2 x t) : RdV x t := by
 obtain ⟨h, d, w, q, m, r, hr, e, es, hH, hD, hS, hQ, hM⟩ := h
 refine ⟨h, d, _, w, q, m, e, es, hH, hD, ?_, hS, hQ, hM⟩
 rcases hr with rfl | ⟨rfl, h1, h2, _, h3⟩
 ·exact .inl rfl
 ·exact .inr ⟨rfl, h1, h2, h3⟩
theorem sqf {p : List Nat} {n : Nat} (h : prM p = .error n) : n ≤ p.length := by
 match p, h with
 | [], h => cases h; exact Nat.le_refl _
 | [a], h =>
  have h : (if a ∈ fsF then (.error 1 : Rs Nat) else .error 0) = .error n := h
  by_cases hf : a ∈ fsF
  ·rw [if_pos hf] at h; cases h; exact Nat.le_refl _
  ·rw [if_neg hf] at h; cases h; exact Nat.zero_le _
 | a :: b :: r, h =>
  have h : (if a ∈ fsF then (match sgO a b with | some c => (.ok (c, 2) : Rs Nat) | none => .error 1) else .error 0) = .error n := h
  simp only [List.length_cons]
  by_cases hf : a ∈ fsF
  ·rw [if_pos hf] at h
   cases hs : sgO a b with
   | none => rw [hs] at h; cases h; omega
   | some d => rw [hs] at h; cases h
  ·rw [if_neg hf] at h; cases h; omega
theorem sqB {fr : List Nat} : ∀ (k : Nat) {p : List Nat} {mo : Option Nat} {n : Nat}, p.length ≤ k → txtM fr p mo = .error n → n ≤ p.length := by
 intro k
 induction k with
 | zero =>
  intro p mo n hk h
  have hp : p = [] := List.length_eq_zero_iff.mp (by omega)
  subst hp
  rw [gqk] at h; cases h
 | succ k ih =>
  intro p mo n hk h
  cases p with
  | nil => rw [gqk] at h; cases h
  | cons c p =>
   simp only [List.length_cons] at hk ⊢
   by_cases h0 : mo = some 0
   ·subst h0; rw [fqv] at h; cases h
   by_cases hc : c = 126
   ·subst hc
    rw [dqu h0] at h
    cases hp : prM p with
    | error e => rw [hp] at h; cases h; have := sqf hp; omega
    | ok x =>
     obtain ⟨s, m⟩ := x
     rw [hp] at h
     obtain ⟨a, b, p2, rfl, hs, rfl, _⟩ := mqp hp
     obtain ⟨m, h2, rfl⟩ := lqw h
     have := ih (p := p2) (by simp only [List.length_cons] at hk; omega) h2
     simp only [List.length_cons]; omega
   ·by_cases hp : isPl c = true ∨ c ∈ fr
    ·rw [eqK h0 hc hp] at h
     obtain ⟨m, h2, rfl⟩ := lqw h
     have := ih (p := p) (by omega) h2
     omega
    ·rw [txtM, if_neg h0, if_neg hc, if_neg hp] at h; cases h
theorem mqy {fr p : List Nat} {mo : Option Nat} {n : Nat} (h : txtM fr p mo = .error n) : n ≤ p.length := sqB p.length (Nat.le_refl _) h
theorem sqU {fr p : List Nat} {mo : Option Nat} {n : Nat} (h : filM fr p mo = .error n) : n ≤ p.length := by
 unfold filM at h
 cases e : txtM fr p mo with
 | error k => rw [e] at h; cases h; exact mqy e
 | ok x =>
  obtain ⟨s, k⟩ := x
  rw [e] at h
  have h : (if s = [] then (.error k : Rs (List Nat)) else .ok (s, k)) = .error n := h
  by_cases hs : s = []
  ·rw [if_pos hs] at h; cases h; exact (cqn e).1
  ·rw [if_neg hs] at h; cases h
theorem vqL {p : List Nat} {n : Nat} (h : houM p = .error n) : n ≤ p.length := by
 unfold houM at h
 by_cases h2 : p.take 2 = [47, 47]
 ·rw [if_pos h2] at h
  have hl := congrArg List.length h2
  rw [List.length_take] at hl
  simp only [List.length_cons, List.length_nil] at hl
  obtain ⟨m, h3, rfl⟩ := dqS h
  have := sqU (dqR h3)
  rw [List.length_drop] at this
  omega
 ·rw [if_neg h2] at h; cases h
theorem vqM {o : Option (List Nat)} {p : List Nat} {n : Nat} (h : dorM o p = .error n) : n ≤ p.length := by
 unfold dorM at h
 by_cases ho : o = none
 ·rw [if_pos ho] at h; cases h
 ·rw [if_neg ho] at h
  unfold dooM at h
  by_cases h2 : p.head? = some 58
  ·rw [if_pos h2] at h
   have := bqh h2
   cases hd : p.drop 1 with
   | nil => rw [hd] at h; cases h; exact this
   | cons c r' =>
    rw [hd] at h
    have h : (if 48 ≤ c ∧ c ≤ 57 then (.ok (some ((dooG r' (c - 48)).1 : Int), 2 + (dooG r' (c - 48)).2) : Rs (Option Int)) else .error 1) = .error n := h
    by_cases hc : 48 ≤ c ∧ c ≤ 57
    ·rw [if_pos hc] at h; cases h
    ·rw [if_neg hc] at h; cases h; exact this
  ·rw [if_neg h2] at h; cases h
theorem oqL : ∀ (f : Nat) {p : List Nat} {e : Bool} {n : Nat}, stpF f p e = .error n → n ≤ p.length
 | 0, p, e, n, h => by cases h
 | f + 1, p, e, n, h => by
  unfold stpF at h
  cases ht : txtM frS p none with
  | error k => rw [ht] at h; cases h; exact mqy ht
  | ok y =>
   obtain ⟨s, k⟩ := y
   rw [ht] at h
   have h : (if s = [] then (.ok (([], e), k) : Rs (List (List Nat) × Bool)) else if (p.drop k).head? = some 47 then sh (k + 1) (mp (fun x => (s :: x.1, x.2)) (stpF f (p.drop (k + 1)) true)) else sh k (mp (fun x => (s :: x.1, x.2)) (stpF f (p.drop k) false))) = .error n := h
   have t1 := (cqn ht).1
   by_cases hs : s = []
   ·rw [if_pos hs] at h; cases h
   rw [if_neg hs] at h
   by_cases h47 : (p.drop k).head? = some 47
   ·rw [if_pos h47] at h
    have := bqh h47
    rw [List.length_drop] at this
    obtain ⟨m, h2, rfl⟩ := dqS h
    have i := oqL f (dqR h2)
    rw [List.length_drop] at i
    omega
   ·rw [if_neg h47] at h
    obtain ⟨m, h2, rfl⟩ := dqS h
    have i := oqL f (dqR h2)
    rw [List.length_drop] at i
    omega
theorem wq2 {must : Bool} {p : List Nat} {n : Nat} (h : wayM must p = .error n) : n ≤ p.length := by
 unfold wayM at h
 by_cases h1 : p.head? = some 47
 ·rw [if_pos h1] at h
  have := bqh h1
  obtain ⟨m, h2, rfl⟩ := dqS h
  have i := oqL _ (dqR h2)
  rw [List.length_drop] at i
  omega
 ·rw [if_neg h1] at h
  by_cases h2 : must = true
  ·rw [if_pos h2] at h; cases h
  ·rw [if_neg h2] at h; exact oqL _ (dqR h)
theorem tqh {p : List Nat} {n : Nat} (h : valM p = .error n) : n ≤ p.length := by
 unfold valM at h
 by_cases h1 : p.head? = some 61
 ·rw [if_pos h1] at h
  have := bqh h1
  obtain ⟨m, h2, rfl⟩ := dqS h
  have i := mqy (dqR h2)
  rw [List.length_drop] at i
  omega
 ·rw [if_neg h1] at h; cases h
theorem vqr {p : List Nat} {n : Nat} (h : marM p = .error n) : n ≤ p.length := by
 unfold marM at h
 by_cases h1 : p.head? = some 35
 ·rw [if_pos h1] at h
  have := bqh h1
  obtain ⟨m, h2, rfl⟩ := dqS h
  have i := mqy (dqR h2)
  rw [List.length_drop] at i
  omega
 ·rw [if_neg h1] at h; cases h
theorem sqZ : ∀ (f : Nat) {p : List Nat} {n : Nat}, prsF f p = .error n → n ≤ p.length
 | 0, p, n, h => by cases h
 | f + 1, p, n, h => by
  unfold prsF at h
  by_cases h1 : p.head? = some 38
  ·rw [if_pos h1] at h
   have := bqh h1
   obtain ⟨m, h2, rfl⟩ := dqS h
   rcases gqm h2 with h3 | ⟨s, k, m2, e1, h3, rfl⟩
   ·have i := sqU h3
    rw [List.length_drop] at i
    omega
   ·have t1 := (cqn (iqp e1).1).1
    rw [List.length_drop] at t1
    rcases gqm h3 with h4 | ⟨v, k2, m3, e2, h4, rfl⟩
    ·have i := tqh h4
     rw [List.length_drop] at i
     omega
    ·have v1 := oqs e2
     have i := sqZ f (dqR h4)
     rw [List.length_drop] at i v1
     omega
  ·rw [if_neg h1] at h; cases h
theorem vqk {p : List Nat} {n : Nat} (h : queM p = .error n) : n ≤ p.length := by
 unfold queM at h
 by_cases h1 : p.head? = some 63
 ·rw [if_pos h1] at h
  have := bqh h1
  obtain ⟨m, h2, rfl⟩ := dqS h
  rcases gqm h2 with h3 | ⟨s, k, m2, e1, h3, rfl⟩
  ·have i := mqy h3
   rw [List.length_drop] at i
   omega
  ·have t1 := (cqn e1).1
   rw [List.length_drop] at t1
   have h3 : (if s = [] then (.ok (some [], 0) : Rs (Option (List (List Nat × Option (List Nat))))) else bdR (valM (p.drop (1 + k))) fun v m => mp (fun l => some ((s, v) :: l)) (prsF (p.length + 1) (p.drop (1 + k + m)))) = .error m2 := h3
   by_cases hs : s = []
   ·rw [if_pos hs] at h3; cases h3
   ·rw [if_neg hs] at h3
    rcases gqm h3 with h4 | ⟨v, k2, m3, e2, h4, rfl⟩
    ·have i := tqh h4
     rw [List.length_drop] at i
     omega
    ·have v1 := oqs e2
     have i := sqZ _ (dqR h4)
     rw [List.length_drop] at i v1
     omega
 ·rw [if_neg h1] at h; cases h
theorem uqa {p : List Nat} {k : Nat} (h : readM p = .error k) : k ≤ p.length := by
 have hsp := lq9 p
 cases e1 : houM (p.drop (schP p)) with
 | error n => rw [oqp e1] at h; cases h; have := vqL e1; rw [List.length_drop] at this; omega
 | ok y1 =>
 obtain ⟨o, n1⟩ := y1
 have l1 := oqN e1
 rw [List.length_drop] at l1
 cases e2 : dorM o (p.drop (schP p + n1)) with
 | error n => rw [oqG e1 e2] at h; cases h; have := vqM e2; rw [List.length_drop] at this; omega
 | ok y2 =>
 obtain ⟨d, n2⟩ := y2
 have l2 := (oqb e2).1
 rw [List.length_drop] at l2
 cases e3 : wayM (decide (schM p ≠ [] ∨ o ≠ none)) (p.drop (schP p + n1 + n2)) with
 | error n => rw [nqW e1 e2 e3] at h; cases h; have := wq2 e3; rw [List.length_drop] at this; omega
 | ok y3 =>
 obtain ⟨w, n3⟩ := y3
 have l3 := (mqO e3).1
 rw [List.length_drop] at l3
 cases e4 : queM (p.drop (schP p + n1 + n2 + n3)) with
 | error n => rw [oqM e1 e2 e3 e4] at h; cases h; have := vqk e4; rw [List.length_drop] at this; omega
 | ok y4 =>
 obtain ⟨q, n4⟩ := y4
 have l4 := (mqH e4).1
 rw [List.length_drop] at l4
 cases e5 : marM (p.drop (schP p + n1 + n2 + n3 + n4)) with
 | error n => rw [nq9 e1 e2 e3 e4 e5] at h; cases h; have := vqr e5; rw [List.length_drop] at this; omega
 | ok y5 =>
 obtain ⟨m, n5⟩ := y5
 have l5 := qq5 e5
 rw [List.length_drop] at l5
 rw [lqh e1 e2 e3 e4 e5] at h
 by_cases hend : schP p + n1 + n2 + n3 + n4 + n5 = p.length
 ·rw [if_pos hend] at h; cases h
 ·rw [if_neg hend] at h; cases h; omega
end Wm
namespace Wm
open PySem L2
theorem rqC {x : Ad} {p r : List Nat} {k : Nat} (h : readM (p ++ r) = .ok x) (e : readM p = .error k) : k = p.length := by
 have hk := uqa e
 by_cases hn : k < p.length
 ·rw [rql e hn] at h; cases h
 ·omega
end Wm
namespace Wm
open PySem L2
theorem oqF : ∀ (ds dn : List Nat), valD dn * 10 ^ ds.length ≤ valD (dn ++ ds)
 | [], dn => by rw [List.append_nil, List.length_nil, Nat.pow_zero, Nat.mul_one]; exact Nat.le_refl _
 | c :: ds, dn => by
  have h := oqF ds (dn ++ [c])
  rw [fqo, List.append_assoc] at h
  refine Nat.le_trans ?_ h
  rw [List.length_cons, Nat.pow_succ, ← Nat.mul_assoc, Nat.mul_right_comm]
  exact Nat.mul_le_mul_right _ (by omega)
theorem tq7 {o : Option Int} {w : List Nat} (h : DooW o w) : w.length ≤ 6 := by
 cases o with
 | none => have h : w = [] := h; rw [h]; exact Nat.zero_le _
 | some n =>
  obtain ⟨ds, rfl, hne, hf, _, hl, hz⟩ := h
  rcases hz with rfl | hz
  ·exact by decide
  ·cases ds with
   | nil => exact absurd rfl hne
   | cons c ds =>
    have hc := hf c (List.mem_cons_self ..)
    have h49 : c ≠ 48 := fun z => hz (by rw [z]; rfl)
    have h := oqF ds [c]
    have e : valD [c] = c - 48 := by unfold valD; simp
    rw [e] at h
    have h : (c - 48) * 10 ^ ds.length ≤ valD (c :: ds) := h
    by_cases hd : ds.length ≤ 4
    ·simp only [List.length_cons]; omega
    ·have h2 : 10 ^ 5 ≤ 10 ^ ds.length := Nat.pow_le_pow_right (by decide) (by omega)
     have h3 : 1 * 10 ^ ds.length ≤ (c - 48) * 10 ^ ds.length := Nat.mul_le_mul_right _ (by omega)
     have h4 : (10 : Nat) ^ 5 = 100000 := by decide
     omega
theorem wqq {ss : List (List Nat)} {e : Bool} {v : List Nat} (h : TlW ss e v) : v.length ≤ 3 * sumL ss + ss.length + 1 := by
 induction h with
 | stop => exact Nat.zero_le _
 | ends => exact Nat.le_refl _
 | more hw _ _ ih =>
  have := hqo hw
  rw [cqq]
  simp only [List.length_cons, List.length_append]
  omega
theorem uq2 {ss : List (List Nat)} {e : Bool} {v : List Nat} (h : StpW ss e v) : v.length ≤ 3 * sumL ss + ss.length + 1 := by
 cases h with
 | none => exact Nat.zero_le _
 | some hw _ ht =>
  have := hqo hw
  have := wqq ht
  rw [cqq]
  simp only [List.length_cons, List.length_append]
  omega
theorem oqg {o : Option (List Nat)} {v : List Nat} (h : ValW o v) (hs : ∀ s, o = some s → s.length ≤ 6) : v.length ≤ 19 := by
 cases o with
 | none => have h : v = [] := h; rw [h]; exact Nat.zero_le _
 | some s =>
  obtain ⟨u, rfl, hu⟩ := h
  have := hqo hu
  have := hs s rfl
  simp only [List.length_cons]; omega
theorem rqj {ps : List (List Nat × Option (List Nat))} {r : List Nat} (h : PrsW ps r) (hp : ∀ p ∈ ps, p.1.length ≤ 6 ∧ ∀ v, p.2 = some v → v.length ≤ 6) : r.length ≤ 38 * ps.length := by
 induction h with
 | nil => exact Nat.le_refl _
 | cons hw hn0 hv hq0 ih =>
  rename_i n w v o ps r
  have h1 := hp (n, o) (List.mem_cons_self ..)
  have h2 := hqo hw
  have h3 := oqg hv h1.2
  have h4 := ih fun p hp' => hp p (List.mem_cons_of_mem _ hp')
  have h5 : n.length ≤ 6 := h1.1
  simp only [List.length_cons, List.length_append]
  omega
theorem uqF {x : Ad} {t : List Nat} (h : RdV x t) (ok : x.Ok) (hsum : sumL x.steps ≤ 240) : t.length ≤ 2000 := by
 obtain ⟨hT, dT, gT, wT, qT, mT, et, _, hH, hD, hG, hS, hQ, hM⟩ := h
 have a1 : (schT x.scheme).length ≤ 9 := by
  unfold schT
  split
  ·simp
  ·have := ok.sch.1; simp only [List.length_append, List.length_cons, List.length_nil]; omega
 have a2 : hT.length ≤ 182 := by
  cases hh : x.house with
  | none => rw [hh] at hH; have hH : hT = [] := hH; rw [hH]; exact Nat.zero_le _
  | some l =>
   rw [hh] at hH
   obtain ⟨v, rfl, hv, _⟩ := hH
   have := hqo hv
   have := (ok.hou l hh).2.1
   simp only [List.length_cons]; omega
 have a3 := tq7 hD
 have a4 := uq2 hS
 have a5 := ok.stp.1
 have a6 : gT.length ≤ 1 := by
  rcases hG with rfl | ⟨rfl, _⟩
  ·split <;> simp
  ·simp
 have a7 : qT.length ≤ 762 := by
  cases hq : x.quest with
  | none => rw [hq] at hQ; have hQ : qT = [] := hQ; rw [hQ]; exact Nat.zero_le _
  | some ps =>
   rw [hq] at hQ
   have hp := ok.que ps hq
   cases ps with
   | nil => have hQ : qT = [63] := hQ; rw [hQ]; decide
   | cons p ps =>
    obtain ⟨n, o⟩ := p
    obtain ⟨a, v, r, rfl, ha, _, hv, hr⟩ := hQ
    have h1 := hp.2 (n, o) (List.mem_cons_self ..)
    have h2 := hqo ha
    have h3 := oqg hv fun s e => (h1.2 s e).1
    have h4 := rqj hr fun p hp' => ⟨(hp.2 p (List.mem_cons_of_mem _ hp')).1.2.1, fun v e => ((hp.2 p (List.mem_cons_of_mem _ hp')).2 v e).1⟩
    have h5 : n.length ≤ 6 := h1.1.2.1
    have h6 := hp.1
    simp only [List.length_cons, List.length_append] at h6 ⊢
    omega
 have a8 : mT.length ≤ 181 := by
  cases hm : x.mark with
  | none => rw [hm] at hM; have hM : mT = [] := hM; rw [hM]; exact Nat.zero_le _
  | some l =>
   rw [hm] at hM
   obtain ⟨v, rfl, hv⟩ := hM
   have := hqo hv
   have := (ok.mar l hm).1
   simp only [List.length_cons]; omega
 have := congrArg List.length et
 simp only [List.length_append] at this
 omega
end Wm
namespace Wm
open PySem L2
theorem vq3 {x : Ad} : PyData.eqv (.tuple [.str (Str.ofString "read"), x.data]) (.tuple [.str (Str.ofString "read"), x.data]) = true := by
 simp only [PyData.eqv, PyData.eqvAll, Bool.and_true, beq_self_eq_true, Bool.true_and]
 exact (Ad.eqv_iff _ _).mpr rfl
end Wm
namespace Wm
open PySem L2
theorem pqP {x : Ad} (wf : x.Wf) : SeqAt.shaped (.tuple [.str (Str.ofString "read"), x.data]) = true := by
 have e : PyData.str (Str.ofString "read") = st [114, 101, 97, 100] := by rw [show Str.ofString "read" = ⟨[114, 101, 97, 100].toArray⟩ by decide +kernel]
 have L := wf.lay
 rw [e]
 exact (LayAt.tup (n := 3) (ds := [st [114, 101, 97, 100], x.data]) (fun d hd => by
  rcases List.mem_cons.mp hd with rfl | hd
  ·exact (LayAt.st (l := [114, 101, 97, 100]) (by decide)).le (Nat.zero_le _)
  ·rw [List.mem_singleton.mp hd]; exact L)).shaped (by decide)
end Wm
namespace Wm
open PySem L2
def top (i : Nat) : Stmt := PySem.Challenge.pw_waymark_k14_beginnings_of_texts.main.body.getD i (.Pass ⟨0, 0, 0, 0⟩)
abbrev eqB : Stmt := top 15
abbrev eqp : Stmt := top 16
abbrev bqe : Stmt := top 18
abbrev aq7 : Stmt := top 19
abbrev cq9 : Stmt := top 34
abbrev aqM : Stmt := inClass (top 38) 0
abbrev aqU : Stmt := inClass (top 46) 0
abbrev aq6 : Stmt := inClass (top 46) 1
abbrev bqy : Stmt := inClass (top 46) 3
abbrev aq9 : Stmt := inClass (top 46) 4
abbrev cqy : Stmt := top 51
abbrev eqG : Stmt := top 63
abbrev bqn : Stmt := top 68
abbrev bq2 : Stmt := top 69
abbrev bq9 : Stmt := top 70
abbrev bq4 : Stmt := top 72
abbrev cqJ : Stmt := top 73
abbrev cqG : Stmt := top 74
abbrev cqC : Stmt := top 83
abbrev eqA : Stmt := top 14
abbrev eqo : Stmt := top 17
abbrev eql : Stmt := top 20
abbrev bqF : Stmt := inClass (top 46) 2
abbrev dqb : Stmt := top 71
abbrev cqD : Stmt := top 75
abbrev bqA : Stmt := top 76
abbrev cqH : Stmt := top 35
abbrev bqR : Stmt := top 50
abbrev bqT : Stmt := top 58
abbrev bqE : Stmt := top 61
abbrev cqE : Stmt := top 62
abbrev bqD : Stmt := top 65
abbrev bq5 : Stmt := top 66
abbrev cqa : Stmt := top 77
abbrev bqc : Stmt := top 78
abbrev bqW : Stmt := top 80
abbrev bqo : Stmt := top 48
abbrev bqu : Stmt := top 57
abbrev aq0 : Stmt := top 64
abbrev bql : Stmt := top 79
abbrev aqG : Stmt := top 81
abbrev cqI : Stmt := top 52
abbrev bqC : Stmt := top 54
abbrev bqU : Stmt := top 55
abbrev aqJ : Stmt := top 56
abbrev kqa : Stmt := top 60
abbrev bqm : Stmt := top 82
abbrev bqB : Stmt := top 49
abbrev aqY : Stmt := top 53
abbrev jqW : Stmt := top 47
abbrev bq6 : Stmt := top 84
abbrev nqz : Stmt := top 85
abbrev qqJ : V := .str (Str.ofString " !\"#$&'()*+,-./0123456789:;<=>?@ABCDEFGHIJKLMNOPQRSTUVWXYZ[\\]^_`abcdefghijklmnopqrstuvwxyz{|}~")
abbrev qqS : V := .str (Str.ofString "abcdefghijklmnopqrstuvwxyzABCDEFGHIJKLMNOPQRSTUVWXYZ")
abbrev gqF : V := .str (Str.ofString "abcdefghijklmnopqrstuvwxyzABCDEFGHIJKLMNOPQRSTUVWXYZ0123456789")
abbrev kqu : V := .str (Str.ofString "0123456789")
abbrev nqN : V := .str (Str.ofString "abcdefghijklmnopqrstuvwxyzABCDEFGHIJKLMNOPQRSTUVWXYZ0123456789-_.")
abbrev eqx : V := .str (Str.ofString "!$'()*,;@&=+")
abbrev aq8 : V := .str (Str.ofString "!$'()*,;@+/?:")
abbrev gqg : V := .str (Str.ofString "!$'()*,;@&=+/?:")
abbrev hqe : V := .int 32
abbrev lq5 : V := .int 126
abbrev fqq : V := .int 37
abbrev cq2 : V := .str (Str.ofString "0123456789abcdef")
abbrev fq7 : V := .str (Str.ofString "0123456789ABCDEF")
abbrev nqU : V := .int 0
abbrev uqj : V := .int 1
abbrev vqz : V := .int 2
abbrev xqq : V := .int 3
abbrev oq1 : V := .int 4
abbrev vqy : V := .int 5
abbrev rqm : V := .int 0
abbrev tqm : V := .int 1
abbrev xqa : V := .int 2
abbrev jqh : V := .int 8
abbrev kqA : V := .int 60
abbrev nqy : V := .int 65535
abbrev gqc : V := .str (Str.ofString "234567")
set_option genInjectivity false
set_option genSizeOf false
set_option genSizeOfSpec false
structure G (K : PySem.W.Frag) (mg : Str → Option Value) where
 iqo : Addr
 gqU : FuncData
 gqa : Fun K "made_of" "made_of" eqB iqo gqU
 hqM : mg "made_of" = some (.ref iqo)
 hqG : Binds K gqU ["text", "signs"] []
 iqm : Addr
 gq1 : FuncData
 jqB : Fun K "pair_of" "pair_of" eqp iqm gq1
 mq6 : mg "pair_of" = some (.ref iqm)
 nqe : Binds K gq1 ["sign"] []
 cqZ : Addr
 cqt : FuncData
 cq5 : Fun K "figure_number" "figure_number" bqe cqZ cqt
 eqt : mg "figure_number" = some (.ref cqZ)
 eqr : Binds K cqt ["figure"] []
 cq4 : Addr
 cqx : FuncData
 eqi : Fun K "sign_numbered" "sign_numbered" aq7 cq4 cqx
 gqO : mg "sign_numbered" = some (.ref cq4)
 gqQ : Binds K cqx ["number"] []
 gqV : Addr
 fqB : FuncData
 iqu : Fun K "is_whole" "is_whole" cq9 gqV fqB
 lqg : mg "is_whole" = some (.ref gqV)
 lqj : Binds K fqB ["address"] []
 bqq : Addr
 bqi : FuncData
 dqQ : Fun K "__init__" "NoAddress.__init__" aqM bqq bqi
 aqN : Binds K bqi ["self", "at"] []
 cqc : Addr
 bqO : FuncData
 fqh : Fun K "__init__" "Cursor.__init__" aqU cqc bqO
 fqp : Binds K bqO ["self", "text"] []
 cqS : Addr
 cqw : FuncData
 gqA : Fun K "at_end" "Cursor.at_end" aq6 cqS cqw
 eqF : Binds K cqw ["self"] []
 dq6 : Addr
 dqs : FuncData
 hqU : Fun K "take" "Cursor.take" bqy dq6 dqs
 cqi : Binds K dqs ["self"] []
 cq3 : Addr
 cqv : FuncData
 gqE : Fun K "passes" "Cursor.passes" aq9 cq3 cqv
 aqK : Binds K cqv ["self", "text"] []
 fqA : Addr
 eqH : FuncData
 fqC : Fun K "door_with" "door_with" cqy fqA eqH
 hqu : mg "door_with" = some (.ref fqA)
 hqy : Binds K eqH ["door", "cursor"] []
 hqT : Addr
 gq3 : FuncData
 jqV : Fun K "slashed" "slashed" eqG hqT gq3
 mqI : mg "slashed" = some (.ref hqT)
 mqb : Binds K gq3 ["rooted", "texts", "ends"] []
 dqm : Addr
 cqM : FuncData
 dqn : Fun K "_law_cell_at" "_law_cell_at" bqn dqm cqM
 fqa : mg "_law_cell_at" = some (.ref dqm)
 fqe : Binds K cqM ["_law_script", "_law_k"] []
 eqN : Addr
 dq0 : FuncData
 gqz : Fun K "_law_whole" "_law_whole" bq2 eqN dq0
 iq5 : mg "_law_whole" = some (.ref eqN)
 iq7 : Binds K dq0 ["_law_found"] []
 eq2 : Addr
 dq8 : FuncData
 dqC : Fun K "_law_table" "_law_table" bq9 eq2 dq8
 eqR : mg "_law_table" = some (.ref eq2)
 eq5 : Binds K dq8 [] []
 eq0 : Addr
 dqY : FuncData
 gqM : Fun K "_law_plain" "_law_plain" bq4 eq0 dqY
 iqN : mg "_law_plain" = some (.ref eq0)
 iq4 : Binds K dqY ["_law_sign"] []
 fqN : Addr
 eq7 : FuncData
 hqk : Fun K "_law_deck" "_law_deck" cqJ fqN eq7
 jqG : mg "_law_deck" = some (.ref fqN)
 jqE : Binds K eq7 ["_law_cell"] []
 fqt : Addr
 eqI : FuncData
 aqm : Fun K "_law_draw" "_law_draw" cqG fqt eqI
 aqp : mg "_law_draw" = some (.ref fqt)
 aqr : Binds K eqI ["_law_deck_here", "_law_most"] []
 fqT : Addr
 eqS : FuncData
 hqj : Fun K "_law_lone" "_law_lone" cqC fqT eqS
 kqj : mg "_law_lone" = some (.ref fqT)
 jq5 : Binds K eqS ["_law_e"] []
 iqq : Addr
 gq0 : FuncData
 kqd : Fun K "is_text" "is_text" eqA iqq gq0
 mq8 : mg "is_text" = some (.ref iqq)
 mqc : Binds K gq0 ["thing"] []
 hqR : Addr
 gqZ : FuncData
 kqr : Fun K "sign_of" "sign_of" eqo hqR gqZ
 mqM : mg "sign_of" = some (.ref hqR)
 mqY : Binds K gqZ ["figures"] []
 hq9 : Addr
 gqS : FuncData
 dqG : Fun K "written" "written" eql hq9 gqS
 eqC : mg "written" = some (.ref hq9)
 eqE : Binds K gqS ["text"] []
 dqX : Addr
 dqq : FuncData
 iqr : Fun K "sees" "Cursor.sees" bqF dqX dqq
 cqO : Binds K dqq ["self", "signs"] []
 gqT : Addr
 fqD : FuncData
 gqR : Fun K "_law_hex" "_law_hex" dqb gqT fqD
 iqv : mg "_law_hex" = some (.ref gqT)
 iqG : Binds K fqD ["_law_sign"] []
 fqw : Addr
 eq9 : FuncData
 cqF : Fun K "_law_some" "_law_some" cqD fqw eq9
 dqe : mg "_law_some" = some (.ref fqw)
 dqc : Binds K eq9 ["_law_deck_here", "_law_size"] []
 dq9 : Addr
 dqj : FuncData
 fqs : Fun K "_law_scheme" "_law_scheme" bqA dq9 dqj
 hqL : mg "_law_scheme" = some (.ref dq9)
 iqt : Binds K dqj ["_law_deck_here"] []
 fqH : Addr
 eqT : FuncData
 hqn : Fun K "is_scheme" "is_scheme" cqH fqH eqT
 kqg : mg "is_scheme" = some (.ref fqH)
 jqw : Binds K eqT ["thing"] []
 eqP : Addr
 dq2 : FuncData
 gqy : Fun K "taken_door" "taken_door" bqR eqP dq2
 iq3 : mg "taken_door" = some (.ref eqP)
 iqO : Binds K dq2 ["cursor"] []
 eq3 : Addr
 dq7 : FuncData
 gqi : Fun K "taken_pair" "taken_pair" bqT eq3 dq7
 iqX : mg "taken_pair" = some (.ref eq3)
 iqZ : Binds K dq7 ["cursor"] []
 eqd : Addr
 dqh : FuncData
 fqR : Fun K "shown_house" "shown_house" bqE eqd dqh
 hqX : mg "shown_house" = some (.ref eqd)
 hqZ : Binds K dqh ["house", "door"] []
 fqQ : Addr
 eq1 : FuncData
 hql : Fun K "shown_way" "shown_way" cqE fqQ eq1
 kqs : mg "shown_way" = some (.ref fqQ)
 jqZ : Binds K eq1 ["way"] []
 dq5 : Addr
 dqk : FuncData
 fqx : Fun K "shown_asked" "shown_asked" bqD dq5 dqk
 iqd : mg "shown_asked" = some (.ref dq5)
 hq8 : Binds K dqk ["name", "value"] []
 eq8 : Addr
 eqb : FuncData
 gqb : Fun K "shown_mark" "shown_mark" bq5 eq8 eqb
 iqS : mg "shown_mark" = some (.ref eq8)
 jqa : Binds K eqb ["mark"] []
 eqO : Addr
 dqV : FuncData
 gqt : Fun K "_law_steps" "_law_steps" cqa eqO dqV
 iq0 : mg "_law_steps" = some (.ref eqO)
 iqU : Binds K dqV ["_law_deck_here"] []
 cqT : Addr
 cqs : FuncData
 eqz : Fun K "_law_question" "_law_question" bqc cqT cqs
 gqo : mg "_law_question" = some (.ref cqT)
 gqJ : Binds K cqs ["_law_deck_here"] []
 eqL : Addr
 dqW : FuncData
 bqV : Fun K "_law_loose" "_law_loose" bqW eqL dqW
 cqK : mg "_law_loose" = some (.ref eqL)
 cqL : Binds K dqW ["_law_text", "_law_free", "_law_cell"] []
 dqi : Addr
 cqU : FuncData
 fqc : Fun K "taken_scheme" "taken_scheme" bqo dqi cqU
 gq5 : mg "taken_scheme" = some (.ref dqi)
 gq4 : Binds K cqU ["cursor"] []
 eqY : Addr
 cqX : FuncData
 iq9 : Addr
 kqE : Tok
 bqv : FunD K "taken_text" "taken_text" bqu eqY cqX iq9
 cqd : Binds K cqX ["cursor", "free", "most"] [.none]
 bq1 : mg "taken_text" = some (.ref eqY)
 iq2 : Binds K cqX ["cursor", "free", "most"] []
 cqr : Addr
 cqf : FuncData
 dqH : Fun K "shown_question" "shown_question" aq0 cqr cqf
 fqW : mg "shown_question" = some (.ref cqr)
 fq0 : Binds K cqf ["question"] []
 dqo : Addr
 cq1 : FuncData
 fqd : Fun K "_law_address" "_law_address" bql dqo cq1
 gq7 : mg "_law_address" = some (.ref dqo)
 gq8 : Binds K cq1 ["_law_script", "_law_start"] []
 bqj : Addr
 bqg : FuncData
 bqX : Fun K "_law_loose_question" "_law_loose_question" aqG bqj bqg
 dqv : mg "_law_loose_question" = some (.ref bqj)
 dqA : Binds K bqg ["_law_question_here", "_law_cell"] []
 fqJ : Addr
 eqX : FuncData
 hqt : Fun K "taken_way" "taken_way" cqI fqJ eqX
 jq2 : mg "taken_way" = some (.ref fqJ)
 jqN : Binds K eqX ["cursor", "must_be_rooted"] []
 dq3 : Addr
 dql : FuncData
 dqU : Fun K "taken_value" "taken_value" bqC dq3 dql
 fqS : mg "taken_value" = some (.ref dq3)
 fqI : Binds K dql ["cursor"] []
 eq4 : Addr
 dq4 : FuncData
 gqd : Fun K "taken_mark" "taken_mark" bqU eq4 dq4
 iqW : mg "taken_mark" = some (.ref eq4)
 iqM : Binds K dq4 ["cursor"] []
 bqz : Addr
 aq1 : FuncData
 eqy : Addr
 gqK : Tok
 bqG : FunD K "taken_filled_text" "taken_filled_text" aqJ bqz aq1 eqy
 dqP : Binds K aq1 ["cursor", "free", "most"] [.none]
 cqB : mg "taken_filled_text" = some (.ref bqz)
 eqq : Binds K aq1 ["cursor", "free", "most"] []
 oqQ : Addr
 lql : FuncData
 qq0 : Fun K "show" "show" kqa oqQ lql
 sq8 : mg "show" = some (.ref oqQ)
 sq0 : Binds K lql ["address"] []
 dqg : Addr
 cqN : FuncData
 fqg : Fun K "_law_loosely" "_law_loosely" bqm dqg cqN
 hqh : mg "_law_loosely" = some (.ref dqg)
 gq6 : Binds K cqN ["_law_address_here", "_law_cell"] []
 dqZ : Addr
 dqr : FuncData
 fqL : Fun K "taken_house" "taken_house" bqB dqZ dqr
 hqF : mg "taken_house" = some (.ref dqZ)
 iqb : Binds K dqr ["cursor"] []
 cqu : Addr
 cqh : FuncData
 dqN : Fun K "taken_question" "taken_question" aqY cqu cqh
 fq2 : mg "taken_question" = some (.ref cqu)
 fqV : Binds K cqh ["cursor"] []
 oqe : Addr
 lq4 : FuncData
 oqj : Fun K "read" "read" jqW oqe lq4
 qq4 : mg "read" = some (.ref oqe)
 qqw : Binds K lq4 ["text"] []
 eqJ : Addr
 eqc : FuncData
 eqZ : Fun K "_law_asked" "_law_asked" bq6 eqJ eqc
 gqB : mg "_law_asked" = some (.ref eqJ)
 gqr : Binds K eqc ["_law_text"] []
 rqY : Addr
 mqD : FuncData
 vqD : Fun K "law" "law" nqz rqY mqD
 xqb : mg "law" = some (.ref rqY)
 xqg : Binds K mqD ["_law_script"] []
 aqu : Addr
 aqh : Cls K aqu
 aq3 : NoAttr K aqu "text"
 aqo : NoAttr K aqu "place"
 oqz : mg "Cursor" = some (.ref aqu)
 oqt : Mk K aqu cqc
 dqK : Meth K aqu "at_end" cqS
 bqM : Meth K aqu "take" dq6
 aqE : Meth K aqu "passes" cq3
 cql : Meth K aqu "sees" dqX
 jq3 : Tok
 nqt : mg "SIGNS" = some (.str (Str.ofString " !\"#$&'()*+,-./0123456789:;<=>?@ABCDEFGHIJKLMNOPQRSTUVWXYZ[\\]^_`abcdefghijklmnopqrstuvwxyz{|}~") jq3)
 gqx : Tok
 mqv : mg "LETTERS" = some (.str (Str.ofString "abcdefghijklmnopqrstuvwxyzABCDEFGHIJKLMNOPQRSTUVWXYZ") gqx)
 aqV : Tok
 dqE : mg "LETTERS_AND_FIGURES" = some (.str (Str.ofString "abcdefghijklmnopqrstuvwxyzABCDEFGHIJKLMNOPQRSTUVWXYZ0123456789") aqV)
 gqj : Tok
 jqD : mg "FIGURES" = some (.str (Str.ofString "0123456789") gqj)
 jqy : Tok
 nqM : mg "PLAIN" = some (.str (Str.ofString "abcdefghijklmnopqrstuvwxyzABCDEFGHIJKLMNOPQRSTUVWXYZ0123456789-_.") jqy)
 bq3 : Tok
 eqn : mg "FREE_IN_STEPS" = some (.str (Str.ofString "!$'()*,;@&=+") bq3)
 bqb : Tok
 bqH : mg "FREE_IN_QUESTIONS" = some (.str (Str.ofString "!$'()*,;@+/?:") bqb)
 cqb : Tok
 gqD : mg "FREE_IN_MARKS" = some (.str (Str.ofString "!$'()*,;@&=+/?:") cqb)
 cqm : Tok
 fqf : mg "FIRST_NUMBER" = some (.int 32 cqm)
 cq7 : Tok
 iqg : mg "LAST_NUMBER" = some (.int 126 cq7)
 bqt : Tok
 dqd : mg "NUMBER_LEFT_OUT" = some (.int 37 bqt)
 bqY : Tok
 bqQ : mg "SMALL_FIGURES" = some (.str (Str.ofString "0123456789abcdef") bqY)
 bqP : Tok
 eqs : mg "GREAT_FIGURES" = some (.str (Str.ofString "0123456789ABCDEF") bqP)
 hqB : Tok
 lqt : mg "SCHEME" = some (.int 0 hqB)
 jq6 : Tok
 qq2 : mg "HOUSE" = some (.int 1 jq6)
 mqx : Tok
 tqk : mg "DOOR" = some (.int 2 mqx)
 pqu : Tok
 wqz : mg "WAY" = some (.int 3 pqu)
 fqj : Tok
 lqk : mg "QUESTION" = some (.int 4 fqj)
 mqF : Tok
 sqH : mg "MARK" = some (.int 5 mqF)
 hqA : Tok
 oqx : mg "ROOTED" = some (.int 0 hqA)
 kqy : Tok
 qqD : mg "STEPS" = some (.int 1 kqy)
 mq7 : Tok
 sqL : mg "ENDS" = some (.int 2 mq7)
 bqI : Tok
 fqX : mg "LONGEST_SCHEME" = some (.int 8 bqI)
 bq7 : Tok
 gqh : mg "LONGEST_HOUSE" = some (.int 60 bq7)
 eqm : Tok
 jqR : mg "LAST_DOOR" = some (.int 65535 eqm)
 bq0 : Tok
 gqH : mg "FIRST_FIGURES" = some (.str (Str.ofString "234567") bq0)
 vqx : mg "all" = none
 vqV : mg "ord" = none
 iqI : mg "len" = none
 kql : mg "int" = none
 aqS : mg "isinstance" = none
 sq6 : mg "bool" = none
 iqV : mg "ValueError" = none
 pqS : mg "str" = none
 gqe : mg "range" = none
 kqm : mg "tuple" = none
 aqn : Addr
 bqZ : mg "NoAddress" = some (.ref aqn)
 lqH : Addr
 qqF : mg "NoRow" = some (.ref lqH)
 gqY : Addr
 kq2 : mg "WayError" = some (.ref gqY)
 jqu : Addr
 nqY : mg "NoName" = some (.ref jqu)
 hqP : Addr
 mqj : mg "NoValue" = some (.ref hqP)
 fqE : Addr
 kqf : mg "NoPattern" = some (.ref fqE)
 jqq : Addr
 oqh : mg "NoBase" = some (.ref jqq)
 jqA : Catch K aqn
 bq8 : ExLook K aqn
 cqz : Mk1 K aqn bqq
 gqN : ExSt K aqn "at"
 gqn : ExFld K aqn "at"
 dqx : PySem.W.subIn K (.ref aqn) (.ref aqn) = some true
 eqW : PySem.W.kitOne K (.ref aqn) (.ref jqq) = some false
 dqF : PySem.W.kitOne K (.ref aqn) (.ref fqE) = some false
 eqw : PySem.W.kitOne K (.ref aqn) (.ref hqP) = some false
 eqM : PySem.W.kitOne K (.ref aqn) (.ref jqu) = some false
 dqT : PySem.W.kitOne K (.ref aqn) (.ref gqY) = some true
 cq8 : PySem.W.kitOne K (.ref aqn) (.type "ValueError") = some true
 fqk : PySem.W.kitOne K (.ref aqn) (.ref lqH) = some false
def oq7 : Sp := fun vs H Q _ => ∃ x y : Str, vs = [.str x, .str y] ∧ x.length ≤ 100000 ∧ ∀ H', Same H H' → Q (.bl (x.cps.toList.all fun c => decide (c ∈ y.cps.toList))) H'
def lqc : Sp := fun vs H Q _ => ∃ c : Nat, vs = [one c] ∧ c < 256 ∧ Q (.str ⟨[126, hexd (c / 16), hexd (c % 16)].toArray⟩) H
def fq1 : Sp := fun vs H Q _ => ∃ a : Nat, vs = [one a] ∧ a < 128 ∧ Q (figV a) H
def jqe : Sp := fun vs H Q _ => ∃ n : Nat, vs = [.int (n : Int)] ∧ Q (sgV n) H
def nqI (K : PySem.W.Frag) : Sp := fun vs H Q _ => ∃ (p : Addr) (l : List Nat) (r : List V), vs = [.ref p] ∧ SqT K H p (.str ⟨l.toArray⟩ :: r) ∧ Q (.bl (!decide (l = []))) H
def dqw (K : PySem.W.Frag) (C : Addr) : Sp := fun vs H Q _ => ∃ (a : Addr) (v : V), vs = [.ref a, v] ∧ H a = some (exNew a C) ∧ ∀ d, H d = none → Q .non (upd (upd H a (exSet a C d)) d (.xd [("at", v)]))
theorem eqa {K : PySem.W.Frag} {C : Addr} {H : Hp} {E : XK} {v : V} (hE : ∀ d H', Same H H' → H' d = some (.xd [("at", v)]) → E (.ref C) (some d) H') : ∀ a, H a = none → dqw K C [.ref a, v] (upd H a (exNew a C)) (fun u H2 => u = .non ∧ ∃ d, H2 a = some (exSet a C d) ∧ E (.ref C) (some d) (forget H2 a)) E0 := by
 intro a ha
 refine ⟨a, v, rfl, aqg, fun d hd => ?_⟩
 have hda : d ≠ a := fun z => by rw [z, aqg] at hd; cases hd
 rw [aqv hda] at hd
 refine ⟨rfl, d, by rw [aqv hda.symm, aqg], hE d _ (fun b o e => ?_) ?_⟩
 ·have ba : b ≠ a := aql e ha
  rw [cqR ba, aqv (aql e hd), aqv ba, aqv ba]
  exact e
 ·rw [cqR hda, aqg]
def iqn (K : PySem.W.Frag) (C : Addr) : Sp := fun vs H Q _ => ∃ (p dx : Addr) (t : List Nat), vs = [.ref p, .str ⟨t.toArray⟩] ∧ H p = some (.ins C dx []) ∧ ∀ H', SameBut p H H' → Cur H' C p t 0 → Q .non H'
def jqj (K : PySem.W.Frag) (C : Addr) : Sp := fun vs H Q _ => ∃ (p : Addr) (t : List Nat) (i : Nat), vs = [.ref p] ∧ Cur H C p t i ∧ t.length ≤ 100000 ∧ Q (.bl (decide (i = t.length))) H
def kqC (K : PySem.W.Frag) (C : Addr) : Sp := fun vs H Q _ => ∃ (p : Addr) (t : List Nat) (i c : Nat), vs = [.ref p] ∧ Cur H C p t i ∧ t[i]? = some c ∧ t.length ≤ 100000 ∧ ∀ H', SameBut p H H' → Cur H' C p t (i + 1) → Q (.str ⟨#[c]⟩) H'
def dqJ (K : PySem.W.Frag) (C : Addr) : Sp := fun vs H Q _ => ∃ (p : Addr) (t w : List Nat) (i : Nat), vs = [.ref p, .str ⟨w.toArray⟩] ∧ Cur H C p t i ∧ i ≤ t.length ∧ t.length ≤ 100000 ∧ ((t.drop i).take w.length = w → ∀ H', SameBut p H H' → Cur H' C p t (i + w.length) → Q (.bl true) H') ∧ (¬ (t.drop i).take w.length = w → Q (.bl false) H)
def mqP (K : PySem.W.Frag) (C : Addr) : Sp := fun vs H Q _ => ∃ (p : Addr) (t : List Nat) (i c n : Nat), vs = [.int (n : Int), .ref p] ∧ Cur H C p t i ∧ t.length ≤ 100000 ∧ t[i]? = some c ∧ 48 ≤ c ∧ c ≤ 57 ∧ n ≤ 100000 ∧ Q (.int ((n * 10 + (c - 48) : Nat) : Int)) H
def oqZ (K : PySem.W.Frag) : Sp := fun vs H Q _ => ∃ (r e : Bool) (p : Addr) (ts : List (List Nat)), vs = [.bl r, .ref p, .bl e] ∧ SqL K H p (ts.map fun l => V.str ⟨l.toArray⟩) ∧ (joinT 47 ts).length ≤ 90000 ∧ Q (.str ⟨(slT r ts e).toArray⟩) H
def kqe (K : PySem.W.Frag) : Sp := fun vs H Q _ => ∃ (a : Addr) (ns : List Int) (k : Nat), vs = [.ref a, .int (k : Int)] ∧ SqL K H a (ns.map V.int) ∧ Q (.int (ns.getD k 0)) H
def lqG (K : PySem.W.Frag) : Sp := fun vs H Q _ => ∃ (i : Int), vs = [.int i] ∧ Q (.bl true) H
def hqY : Sp := fun vs H Q _ => vs = [] ∧ Q (.str ⟨SG.toArray⟩) H
def hqK : Sp := fun vs H Q _ => ∃ c : Nat, vs = [one c] ∧ c < 128 ∧ Q (.bl (isPl c)) H
def mqK : Sp := fun vs H Q _ => ∃ c : Int, vs = [.int c] ∧ ∀ p H', H p = none → Same H H' → Deck H' p 0 → Q (.ref p) H'
def mqa : Sp := fun vs H Q _ => ∃ (p : Addr) (m : Int) (n : Nat), vs = [.ref p, .int m] ∧ Deck H p n ∧ n < 100000 ∧ 0 < m ∧ m < 1000000 ∧ ∀ (r : Int) (H' : Hp), 0 ≤ r → r < m → Deck H' p (n + 1) → SameBut p H H' → Q (.int r) H'
def nqi (K : PySem.W.Frag) (C : Addr) : Sp := fun vs H Q _ => ∃ (a : Addr) (d : Option Addr), vs = [.ref a] ∧ H a = some (exC a C d) ∧ ∀ H', Same H H' → Q (.bl true) H'
def pqd : Sp := fun vs H Q _ => ∃ (d : PyData) (v : V), vs = [v] ∧ Is H d v ∧ smallD d = true ∧ ∀ H', Same H H' → Q (.bl (tx d)) H'
def kq8 : Sp := fun vs H Q _ => ∃ l : List Nat, vs = [.str ⟨l.toArray⟩] ∧ l.length ≤ 1000 ∧ (∀ c ∈ l, c < 128) ∧ Q (signOfL l) H
def fqn : Sp := fun vs H Q _ => ∃ l : List Nat, vs = [.str ⟨l.toArray⟩] ∧ l.length ≤ 2000 ∧ (∀ c ∈ l, isSg c = true) ∧ ∀ H', Same H H' → Q (.str ⟨(wr l).toArray⟩) H'
def kqF (K : PySem.W.Frag) (C : Addr) : Sp := fun vs H Q _ => ∃ (p : Addr) (t sg : List Nat) (i : Nat), vs = [.ref p, .str ⟨sg.toArray⟩] ∧ Cur H C p t i ∧ i ≤ t.length ∧ t.length ≤ 100000 ∧ Q (.bl (seesB t sg i)) H
def kqc : Sp := fun vs H Q _ => ∃ c : Nat, vs = [one c] ∧ isSg c = true ∧ Q (.str ⟨[hexd (c / 16), hexd (c % 16)].toArray⟩) H
def nqc : Sp := fun vs H Q _ => ∃ (p : Addr) (sz n : Nat), vs = [.ref p, .int (sz : Int)] ∧ Deck H p n ∧ n + sz < 90000 ∧ sz ≤ 1000 ∧ ∀ (l : List Nat) (H' : Hp), l.length = sz → (∀ c ∈ l, isSg c = true) → Deck H' p (n + sz + 1) → SameBut p H H' → Q (.str ⟨l.toArray⟩) H'
def kqY : Sp := fun vs H Q _ => ∃ (p : Addr) (n : Nat), vs = [.ref p] ∧ Deck H p n ∧ n < 50000 ∧ ∀ (l : List Nat) (H' : Hp), l.length ≤ 8 → (∀ c ∈ l, isAln c = true) → (∀ c ∈ l.take 1, isLet c = true) → Deck H' p (n + 20) → SameBut p H H' → Q (.str ⟨l.toArray⟩) H'
def nqf : Sp := fun vs H Q _ => ∃ (d : PyData) (v : V), vs = [v] ∧ Is H d v ∧ smallD d = true ∧ ∀ H', Same H H' → Q (.bl (schD d)) H'
def kqS (K : PySem.W.Frag) (C CN : Addr) : Sp := fun vs H Q E => ∃ (p : Addr) (t : List Nat) (i : Nat), vs = [.ref p] ∧ Cur H C p t i ∧ i ≤ t.length ∧ t.length ≤ 100000 ∧ (∀ c ∈ t, c < 128) ∧ Tk CN H C p t i (dooM (t.drop i)) (fun o H' => Q (itV o) H') E
def kqN (K : PySem.W.Frag) (C CN : Addr) : Sp := fun vs H Q E => ∃ (p : Addr) (t : List Nat) (i : Nat), vs = [.ref p] ∧ Cur H C p t i ∧ i ≤ t.length ∧ t.length ≤ 100000 ∧ (∀ c ∈ t, c < 128) ∧ Tk CN H C p t i (prM (t.drop i)) (fun c H' => Q (.str ⟨#[c]⟩) H') E
def kqO : Sp := fun vs H Q _ => ∃ (o : Option (List Nat)) (d : Option Int), vs = [otV o, itV d] ∧ (∀ l, o = some l → l.length ≤ 60 ∧ ∀ c ∈ l, isSg c = true) ∧ (∀ i, d = some i → (0 ≤ i ∧ i ≤ 65535) ∧ o ≠ none) ∧ ∀ H', Same H H' → Q (.str ⟨(houT o ++ dooT d).toArray⟩) H'
def mq2 (K : PySem.W.Frag) : Sp := fun vs H Q _ => ∃ (r e : Bool) (ss : List (List Nat)) (p q : Addr), vs = [.ref p] ∧ SqT K H p [.bl r, .ref q, .bl e] ∧ SqT K H q (ss.map fun l => V.str ⟨l.toArray⟩) ∧ (∀ s ∈ ss, s.length ≤ 2000 ∧ ∀ c ∈ s, isSg c = true) ∧ ss.length ≤ 2000 ∧ (wayT r ss e).length ≤ 90000 ∧ ∀ H', Same H H' → Q (.str ⟨(wayT r ss e).toArray⟩) H'
def kqT : Sp := fun vs H Q _ => ∃ (n : List Nat) (o : Option (List Nat)), vs = [.str ⟨n.toArray⟩, otV o] ∧ PairOk (n, o) ∧ n.length ≤ 2000 ∧ (∀ l, o = some l → l.length ≤ 2000) ∧ ∀ H', Same H H' → Q (.str ⟨(pairT (n, o)).toArray⟩) H'
def lqo : Sp := fun vs H Q _ => ∃ o : Option (List Nat), vs = [otV o] ∧ (∀ l, o = some l → l.length ≤ 2000 ∧ ∀ c ∈ l, isSg c = true) ∧ ∀ H', Same H H' → Q (.str ⟨(oT 35 o).toArray⟩) H'
def lqX : Sp := fun vs H Q _ => ∃ (p : Addr) (n : Nat), vs = [.ref p] ∧ Deck H p n ∧ n < 50000 ∧ ∀ (ss : List (List Nat)) (v : V) (H' : Hp), ss.length ≤ 40 → (∀ l ∈ ss, 0 < l.length ∧ Tx 60 l) → sumL ss ≤ 240 → Deck H' p (n + 4000) → SameBut p H H' → IsT H' (.tuple (ss.map st)) v → Q v H'
def jqb : Sp := fun vs H Q _ => ∃ (p : Addr) (n : Nat), vs = [.ref p] ∧ Deck H p n ∧ n < 50000 ∧ ∀ (qs : Option (List (List Nat × Option (List Nat)))) (v : V) (H' : Hp), (∀ ps, qs = some ps → ps.length ≤ 20 ∧ ∀ p ∈ ps, (0 < p.1.length ∧ Tx 6 p.1) ∧ ∀ v, p.2 = some v → Tx 6 v) → Deck H' p (n + 4000) → SameBut p H H' → IsT H' (qD qs) v → Q v H'
def lqR : Sp := fun vs H Q _ => ∃ (s fr : List Nat) (i : Int), vs = [.str ⟨s.toArray⟩, .str ⟨fr.toArray⟩, .int i] ∧ s.length ≤ 2000 ∧ (∀ c ∈ s, isSg c = true) ∧ fr.length ≤ 100 ∧ (126 : Nat) ∉ fr ∧ ∀ (w : List Nat), WrT fr s w → w.length ≤ 3 * s.length → Q (.str ⟨w.toArray⟩) H
def kqq (K : PySem.W.Frag) (C : Addr) : Sp := fun vs H Q _ => ∃ (p : Addr) (t : List Nat), vs = [.ref p] ∧ Cur H C p t 0 ∧ t.length ≤ 90000 ∧ ∀ H', SameBut p H H' → Cur H' C p t (schP t) → Q (.str ⟨(schM t).toArray⟩) H'
def kqM (K : PySem.W.Frag) (C CN : Addr) : Sp := fun vs H Q E => ∃ (p : Addr) (t fr : List Nat) (i : Nat) (mo : Option Nat), vs = [.ref p, .str ⟨fr.toArray⟩, moV mo] ∧ Cur H C p t i ∧ i ≤ t.length ∧ t.length ≤ 100000 ∧ (∀ c ∈ t, c < 128) ∧ fr.length ≤ 100 ∧ Tk CN H C p t i (txtM fr (t.drop i) mo) (fun s H' => Q (.str ⟨s.toArray⟩) H') E
def iqK (K : PySem.W.Frag) : Sp := fun vs H Q _ => ∃ (q : Option (List (List Nat × Option (List Nat)))) (v : V), vs = [v] ∧ IsK K H (qD q) v ∧ (∀ ps, q = some ps → ps.length ≤ 2000 ∧ ∀ p ∈ ps, PairOk p ∧ p.1.length ≤ 2000 ∧ ∀ l, p.2 = some l → l.length ≤ 2000) ∧ (queT q).length ≤ 90000 ∧ ∀ H', Same H H' → Q (.str ⟨(queT q).toArray⟩) H'
def kqk (K : PySem.W.Frag) : Sp := fun vs H Q _ => ∃ (a : Addr) (ns : List Int) (i : Nat), vs = [.ref a, .int (i : Int)] ∧ SqL K H a (ns.map V.int) ∧ ∀ (x : Ad) (v : V) (H' : Hp), x.Ok → sumL x.steps ≤ 240 → Same H H' → IsT H' x.data v → Q v H'
def fq6 (K : PySem.W.Frag) : Sp := fun vs H Q _ => ∃ (ps : List (List Nat × Option (List Nat))) (v : V) (i : Int), vs = [v, .int i] ∧ IsT H (qD (some ps)) v ∧ ps.length ≤ 20 ∧ (∀ p ∈ ps, PairOk p ∧ p.1.length ≤ 6 ∧ ∀ l, p.2 = some l → l.length ≤ 6) ∧ ∀ (ws : List (List Nat)) (H' : Hp), PrWs ps ws → (∀ w ∈ ws, w.length ≤ 60) → Same H H' → Q (.str ⟨(63 :: joinT 38 ws).toArray⟩) H'
def hqJ (K : PySem.W.Frag) (C CN : Addr) : Sp := fun vs H Q E => ∃ (p : Addr) (t : List Nat) (i : Nat) (must : Bool), vs = [.ref p, .bl must] ∧ Cur H C p t i ∧ i ≤ t.length ∧ t.length ≤ 100000 ∧ (∀ c ∈ t, c < 128) ∧ Tk CN H C p t i (wayM must (t.drop i)) (fun w H' => ∀ u, IsT H' (wayOf w) u → Q u H') E
def kqo (K : PySem.W.Frag) (C CN : Addr) : Sp := fun vs H Q E => ∃ (p : Addr) (t : List Nat) (i : Nat), vs = [.ref p] ∧ Cur H C p t i ∧ i ≤ t.length ∧ t.length ≤ 100000 ∧ (∀ c ∈ t, c < 128) ∧ Tk CN H C p t i (valM (t.drop i)) (fun o H' => Q (otV o) H') E
def kqV (K : PySem.W.Frag) (C CN : Addr) : Sp := fun vs H Q E => ∃ (p : Addr) (t : List Nat) (i : Nat), vs = [.ref p] ∧ Cur H C p t i ∧ i ≤ t.length ∧ t.length ≤ 100000 ∧ (∀ c ∈ t, c < 128) ∧ Tk CN H C p t i (marM (t.drop i)) (fun o H' => Q (otV o) H') E
def gqp (K : PySem.W.Frag) (C CN : Addr) : Sp := fun vs H Q E => ∃ (p : Addr) (t fr : List Nat) (i : Nat) (mo : Option Nat), vs = [.ref p, .str ⟨fr.toArray⟩, moV mo] ∧ Cur H C p t i ∧ i ≤ t.length ∧ t.length ≤ 100000 ∧ (∀ c ∈ t, c < 128) ∧ fr.length ≤ 100 ∧ Tk CN H C p t i (filM fr (t.drop i) mo) (fun s H' => Q (.str ⟨s.toArray⟩) H') E
def uqJ (K : PySem.W.Frag) : Sp := fun vs H Q _ => ∃ (x : Ad) (v : V), vs = [v] ∧ IsK K H x.data v ∧ x.Wf ∧ x.Sz ∧ ∀ H', Same H H' → Q (.str ⟨x.shw.toArray⟩) H'
def jq4 (K : PySem.W.Frag) : Sp := fun vs H Q _ => ∃ (x : Ad) (v : V) (i : Int), vs = [v, .int i] ∧ IsT H x.data v ∧ x.Ok ∧ ∀ (t : List Nat) (H' : Hp), RdW2 x t → t.length ≤ 90000 → Same H H' → Q (.str ⟨t.toArray⟩) H'
def jqz (K : PySem.W.Frag) (C CN : Addr) : Sp := fun vs H Q E => ∃ (p : Addr) (t : List Nat) (i : Nat), vs = [.ref p] ∧ Cur H C p t i ∧ i ≤ t.length ∧ t.length ≤ 100000 ∧ (∀ c ∈ t, c < 128) ∧ Tk CN H C p t i (houM (t.drop i)) (fun o H' => Q (otV o) H') E
def iqa (K : PySem.W.Frag) (C CN : Addr) : Sp := fun vs H Q E => ∃ (p : Addr) (t : List Nat) (i : Nat), vs = [.ref p] ∧ Cur H C p t i ∧ i ≤ t.length ∧ t.length ≤ 100000 ∧ (∀ c ∈ t, c < 128) ∧ Tk CN H C p t i (queM (t.drop i)) (fun o H' => ∀ u, IsT H' (qD o) u → Q u H') E
def rqf (K : PySem.W.Frag) (CN : Addr) : Sp := fun vs H Q E => ∃ (v : V), vs = [v] ∧
 ((∃ ty, TyOf K H v ty ∧ PySem.W.kitOne K ty (.type "str") = some false ∧ ∀ d H', Same H H' → H' d = some (.xd [("at", .int 0)]) → E (.ref CN) (some d) H') ∨
  ∃ t : List Nat, v = .str ⟨t.toArray⟩ ∧ t.length ≤ 90000 ∧ (∀ c ∈ t, c < 128) ∧ (∀ x, readM t = .ok x → ∀ (u : V) (H' : Hp), Same H H' → IsT H' x.data u → Q u H') ∧
   ∀ k : Nat, readM t = .error k → ∀ d H', Same H H' → H' d = some (.xd [("at", .int (k : Int))]) → E (.ref CN) (some d) H')
def lqN (K : PySem.W.Frag) : Sp := fun vs H Q _ => ∃ t : List Nat, vs = [.str ⟨t.toArray⟩] ∧ t.length ≤ 2000 ∧ (∀ c ∈ t, c < 128) ∧ (∀ x, readM t = .ok x → ∀ (p : Addr) (u : V) (H' : Hp), Same H H' → IsT H' x.data u → H' p = some (.tup [.str (Str.ofString "read"), u]) → Q (.ref p) H') ∧
 ∀ n : Nat, readM t = .error n → ∀ (p : Addr) (H' : Hp), Same H H' → H' p = some (.tup [.str (Str.ofString "at"), .int (n : Int), .bl true]) → Q (.ref p) H'
def nqT (K : PySem.W.Frag) : Sp := fun vs H Q _ => ∃ (a : Addr) (ns : List Int), vs = [.ref a] ∧ SqL K H a (ns.map V.int) ∧ ns.length ≤ 63 ∧ ∀ H', Q (.bl true) H'
section
variable {H : Hp} {Q : VK} {E : XK} {K : PySem.W.Frag}
theorem wqA {c : Nat} : lqc [.str ⟨[c].toArray⟩] H Q E ↔ c < 256 ∧ Q (.str ⟨[126, hexd (c / 16), hexd (c % 16)].toArray⟩) H :=
 ⟨fun ⟨_, e, h⟩ => by injection e with e; injection e with e; cases gqL.mp e; exact h, fun h => ⟨c, rfl, h⟩⟩
theorem xqd {c : Nat} : fq1 [.str ⟨[c].toArray⟩] H Q E ↔ c < 128 ∧ Q (figV c) H :=
 ⟨fun ⟨_, e, h⟩ => by injection e with e; injection e with e; cases gqL.mp e; exact h, fun h => ⟨c, rfl, h⟩⟩
theorem tqP : hqY [] H Q E ↔ Q (.str ⟨SG.toArray⟩) H := ⟨fun h => h.2, fun h => ⟨rfl, h⟩⟩
theorem tqU {c : Nat} : hqK [.str ⟨[c].toArray⟩] H Q E ↔ c < 128 ∧ Q (.bl (isPl c)) H :=
 ⟨fun ⟨_, e, h⟩ => by injection e with e; injection e with e; cases gqL.mp e; exact h, fun h => ⟨c, rfl, h⟩⟩
theorem pqz {l : List Nat} : kq8 [.str ⟨l.toArray⟩] H Q E ↔ l.length ≤ 1000 ∧ (∀ c ∈ l, c < 128) ∧ Q (signOfL l) H :=
 ⟨fun ⟨_, e, h⟩ => by injection e with e; injection e with e; cases gqL.mp e; exact h, fun h => ⟨l, rfl, h⟩⟩
theorem pqB {l : List Nat} : fqn [.str ⟨l.toArray⟩] H Q E ↔ l.length ≤ 2000 ∧ (∀ c ∈ l, isSg c = true) ∧ ∀ H', Same H H' → Q (.str ⟨(wr l).toArray⟩) H' :=
 ⟨fun ⟨_, e, h⟩ => by injection e with e; injection e with e; cases gqL.mp e; exact h, fun h => ⟨l, rfl, h⟩⟩
theorem xqv {c : Nat} : kqc [.str ⟨[c].toArray⟩] H Q E ↔ isSg c = true ∧ Q (.str ⟨[hexd (c / 16), hexd (c % 16)].toArray⟩) H :=
 ⟨fun ⟨_, e, h⟩ => by injection e with e; injection e with e; cases gqL.mp e; exact h, fun h => ⟨c, rfl, h⟩⟩
end
section
variable {P : Program} {w : World} {K : PySem.W.Frag} {mg : Str → Option Value} {base : Heap}
seal PE PA PT PS PSs PG PI PF PO PW
local macro_rules | `(tactic| walk_at "rd") => `(tactic| simp only [L2.start, List.map_cons, List.map_nil, List.length_cons, List.length_nil, Nat.reduceAdd, Nat.reduceSub, Nat.zero_add, List.replicate_succ, List.replicate_zero, L2.vqB, L2.rd_C, L2.qqa, L2.wqi, L2.sqc, L2.wq3, L2.uqi, L2.wqZ, L2.uq5, L2.vq1, L2.vqA, L2.uqN, L2.xqB, L2.uqC, L2.rd_B, L2.vq9, L2.xqj, L2.wqj, L2.uqS, L2.wqn, L2.uqd, L2.xqp, L2.rqu, L2.wqE, L2.uq6, L2.wqP, L2.wq6, L2.tqT, L2.uqo, L2.vqf, L2.vqa, L2.tqO, L2.tq2, L2.pqy, L2.sqh, L2.uqG, L2.xqo, L2.xqe, L2.wqN, L2.xqC, L2.pqO, L2.uqy, L2.rqJ, L2.rd_I, L2.xqf, L2.uqH, L2.iqy, L2.tqN, L2.vqd, L2.uq9, L2.tq6, L2.tqC, L2.vqb, L2.rqE, L2.uqZ, L2.uqW, L2.rqs, L2.vqQ, L2.wq9, L2.wqw, L2.iqR, L2.vqY, L2.uqQ, L2.rq9, L2.uqg, L2.rqv, L2.rqV, L2.qqj, L2.sqr, L2.rqB, L2.pqM, L2.pql, L2.iqB, L2.jqg, L2.jqc, L2.iqx, L2.hqV, L2.lqy, L2.mqW, L2.mq4, L2.lqL, L2.kq1, L2.mqw, L2.nqF, L2.nqL, L2.nqj, L2.lqm, L2.mqm, L2.nqv, L2.nqQ, L2.mqQ, L2.lq2, L2.lqB, L2.mqu, L2.mqe, L2.lqE, L2.kq0, L2.kqX, L2.lqS, L2.lqF, L2.kqQ, L2.jqS, L2.tqV, L2.tqJ, L2.rqR, L2.uqX, L2.tq3, L2.cx_K, L2.wqJ, L2.wqf, L2.wqa, L2.wq5, L2.wqX, L2.vq6, L2.wqh, L2.xqu, L2.wqL, L2.pqv, L2.xqc, L2.xqh, L2.xqx, L2.rq8, L2.rqX, L2.tql, L2.rqG, Option.getD_some, L2.vqS, L2.xqD, L2.rd_U, L2.wqe, L2.uql, L2.sqA, L2.uqx, L2.qqv, L2.uqb, L2.wq4, L2.vqN, L2.uqq, L2.uq3, L2.tqs, L2.uqK, List.getElem?_cons_zero, List.getElem?_cons_succ, List.set_cons_zero, List.set_cons_succ, List.nil_append, List.cons_append, List.append_nil, Option.some.injEq, exists_eq_left, exists_eq_left', true_and, and_true, L2.V.bl.injEq, L2.V.int.injEq, L2.V.str.injEq, L2.V.ref.injEq, List.cons.injEq, reduceCtorEq, false_and, and_false, exists_false, false_or, or_false, decide_eq_true_eq, Bool.not_true, Bool.not_false, ↓reduceIte, if_true, if_false, not_true_eq_false, not_false_eq_true, decide_true, decide_false, Bool.false_eq_true, wqA, xqd, tqP, tqU, pqz, pqB, xqv, L2.rq6, L2.tqx, L2.rq0, L2.sqb, L2.vqt, vq7, L2.vqp, L2.sqv, L2.xqt, L2.uqP, L2.rqH, L2.rqx, L2.sqx, L2.xqk, L2.qqL, L2.tqK, L2.wqV, L2.oqD, L2.wqk, L2.vqw, L2.tqE, L2.wqT, L2.sqK, L2.wqU, L2.vqc, L2.uqM, L2.tq8, L2.uq0, L2.vqg, L2.qqE, L2.qqQ, L2.oqD, L2.qqB, L2.uqL, L2.oq3, L2.vqX, L2.tqu, L2.uq4, L2.sql, L2.tqH, L2.tqr, L2.uqE, vqq, rqI, kq3, cqV, pqG, tq4, tqn, List.drop_succ_cons, List.drop_zero, L2.rqL, L2.vq4, L2.vq2, L2.wqp, Bool.not_eq_true', decide_eq_false_iff_not])
theorem pqk : FnScope ["text", "signs"] ["text", "signs"] (defScope eqB) := ⟨rfl, rfl, rfl, by decide +kernel, rfl, by decide +kernel, by decide +kernel⟩
theorem kq5 : FnScope ["sign", "number"] ["sign"] (defScope eqp) := ⟨rfl, rfl, rfl, by decide +kernel, rfl, by decide +kernel, by decide +kernel⟩
theorem jqi : FnScope ["figure"] ["figure"] (defScope bqe) := ⟨rfl, rfl, rfl, by decide +kernel, rfl, by decide +kernel, by decide +kernel⟩
theorem dqM : FnScope ["number", "place"] ["number"] (defScope aq7) := ⟨rfl, rfl, rfl, by decide +kernel, rfl, by decide +kernel, by decide +kernel⟩
theorem nqE : FnScope ["address"] ["address"] (defScope cq9) := ⟨rfl, rfl, rfl, by decide +kernel, rfl, by decide +kernel, by decide +kernel⟩
theorem gqv : FnScope ["self", "at"] ["self", "at"] (defScope aqM) := ⟨rfl, rfl, rfl, by decide +kernel, rfl, by decide +kernel, by decide +kernel⟩
theorem hqW : FnScope ["self", "text"] ["self", "text"] (defScope aqU) := ⟨rfl, rfl, rfl, by decide +kernel, rfl, by decide +kernel, by decide +kernel⟩
theorem jqf : FnScope ["self"] ["self"] (defScope aq6) := ⟨rfl, rfl, rfl, by decide +kernel, rfl, by decide +kernel, by decide +kernel⟩
theorem gq9 : FnScope ["self", "sign"] ["self"] (defScope bqy) := ⟨rfl, rfl, rfl, by decide +kernel, rfl, by decide +kernel, by decide +kernel⟩
theorem jqd : FnScope ["self", "text"] ["self", "text"] (defScope aq9) := ⟨rfl, rfl, rfl, by decide +kernel, rfl, by decide +kernel, by decide +kernel⟩
theorem mq1 : FnScope ["door", "cursor"] ["door", "cursor"] (defScope cqy) := ⟨rfl, rfl, rfl, by decide +kernel, rfl, by decide +kernel, by decide +kernel⟩
theorem iqC : FnScope ["rooted", "texts", "ends", "ahead", "behind"] ["rooted", "texts", "ends"] (defScope eqG) := ⟨rfl, rfl, rfl, by decide +kernel, rfl, by decide +kernel, by decide +kernel⟩
theorem kqv : FnScope ["_law_script", "_law_k"] ["_law_script", "_law_k"] (defScope bqn) := ⟨rfl, rfl, rfl, by decide +kernel, rfl, by decide +kernel, by decide +kernel⟩
theorem lqz : FnScope ["_law_found"] ["_law_found"] (defScope bq2) := ⟨rfl, rfl, rfl, by decide +kernel, rfl, by decide +kernel, by decide +kernel⟩
theorem iql : FnScope ["_law_found"] [] (defScope bq9) := ⟨rfl, rfl, rfl, by decide +kernel, rfl, by decide +kernel, by decide +kernel⟩
theorem lqD : FnScope ["_law_sign"] ["_law_sign"] (defScope bq4) := ⟨rfl, rfl, rfl, by decide +kernel, rfl, by decide +kernel, by decide +kernel⟩
theorem mqh : FnScope ["_law_cell"] ["_law_cell"] (defScope cqJ) := ⟨rfl, rfl, rfl, by decide +kernel, rfl, by decide +kernel, by decide +kernel⟩
theorem gqP : FnScope ["_law_deck_here", "_law_most", "_law_found", "_law_mixed"] ["_law_deck_here", "_law_most"] (defScope cqG) := ⟨rfl, rfl, rfl, by decide +kernel, rfl, by decide +kernel, by decide +kernel⟩
theorem iqT : FnScope ["_law_e", "_law_some_here"] ["_law_e"] (defScope cqC) := ⟨rfl, rfl, rfl, by decide +kernel, rfl, by decide +kernel, by decide +kernel⟩
theorem oq9 : FnScope ["thing"] ["thing"] (defScope eqA) := ⟨rfl, rfl, rfl, by decide +kernel, rfl, by decide +kernel, by decide +kernel⟩
theorem iqD : FnScope ["figures", "high", "low"] ["figures"] (defScope eqo) := ⟨rfl, rfl, rfl, by decide +kernel, rfl, by decide +kernel, by decide +kernel⟩
theorem pqe : FnScope ["text"] ["text"] (defScope eql) := ⟨rfl, rfl, rfl, by decide +kernel, rfl, by decide +kernel, by decide +kernel⟩
theorem kqK : FnScope ["self", "signs"] ["self", "signs"] (defScope bqF) := ⟨rfl, rfl, rfl, by decide +kernel, rfl, by decide +kernel, by decide +kernel⟩
theorem hqw : FnScope ["_law_sign", "_law_at", "_law_number"] ["_law_sign"] (defScope dqb) := ⟨rfl, rfl, rfl, by decide +kernel, rfl, by decide +kernel, by decide +kernel⟩
theorem dqz : FnScope ["_law_deck_here", "_law_size", "_law_some_here", "_law_found", "_law_k"] ["_law_deck_here", "_law_size"] (defScope cqD) := ⟨rfl, rfl, rfl, by decide +kernel, rfl, by decide +kernel, by decide +kernel⟩
theorem bqK : FnScope ["_law_deck_here", "_law_letters", "_law_size", "_law_found", "_law_k"] ["_law_deck_here"] (defScope bqA) := ⟨rfl, rfl, rfl, by decide +kernel, rfl, by decide +kernel, by decide +kernel⟩
theorem mql : FnScope ["thing"] ["thing"] (defScope cqH) := ⟨rfl, rfl, rfl, by decide +kernel, rfl, by decide +kernel, by decide +kernel⟩
theorem fqr : FnScope ["cursor", "door"] ["cursor"] (defScope bqR) := ⟨rfl, rfl, rfl, by decide +kernel, rfl, by decide +kernel, by decide +kernel⟩
theorem fqG : FnScope ["cursor", "figures", "sign"] ["cursor"] (defScope bqT) := ⟨rfl, rfl, rfl, by decide +kernel, rfl, by decide +kernel, by decide +kernel⟩
theorem hqi : FnScope ["house", "door", "behind"] ["house", "door"] (defScope bqE) := ⟨rfl, rfl, rfl, by decide +kernel, rfl, by decide +kernel, by decide +kernel⟩
theorem mqZ : FnScope ["way"] ["way"] (defScope cqE) := ⟨rfl, rfl, rfl, by decide +kernel, rfl, by decide +kernel, by decide +kernel⟩
theorem kqL : FnScope ["name", "value"] ["name", "value"] (defScope bqD) := ⟨rfl, rfl, rfl, by decide +kernel, rfl, by decide +kernel, by decide +kernel⟩
theorem lqU : FnScope ["mark"] ["mark"] (defScope bq5) := ⟨rfl, rfl, rfl, by decide +kernel, rfl, by decide +kernel, by decide +kernel⟩
theorem cqg : FnScope ["_law_deck_here", "_law_many", "_law_steps_here", "_law_k", "_law_size"] ["_law_deck_here"] (defScope cqa) := ⟨rfl, rfl, rfl, by decide +kernel, rfl, by decide +kernel, by decide +kernel⟩
theorem aqZ : FnScope ["_law_deck_here", "_law_many", "_law_pairs", "_law_k", "_law_name", "_law_value"] ["_law_deck_here"] (defScope bqc) := ⟨rfl, rfl, rfl, by decide +kernel, rfl, by decide +kernel, by decide +kernel⟩
theorem aq4 : FnScope ["_law_text", "_law_free", "_law_cell", "_law_found", "_law_k", "_law_number", "_law_sign"] ["_law_text", "_law_free", "_law_cell"] (defScope bqW) := ⟨rfl, rfl, rfl, by decide +kernel, rfl, by decide +kernel, by decide +kernel⟩
theorem gql : FnScope ["cursor", "scheme"] ["cursor"] (defScope bqo) := ⟨rfl, rfl, rfl, by decide +kernel, rfl, by decide +kernel, by decide +kernel⟩
theorem fqK : FnScope ["cursor", "free", "most", "signs", "allowed"] ["cursor", "free", "most"] (defScope bqu) := ⟨rfl, rfl, rfl, by decide +kernel, rfl, by decide +kernel, by decide +kernel⟩
theorem iqF : FnScope ["question"] ["question"] (defScope aq0) := ⟨rfl, rfl, rfl, by decide +kernel, rfl, by decide +kernel, by decide +kernel⟩
theorem aqC : FnScope ["_law_script", "_law_start", "_law_deck_here", "_law_scheme_here", "_law_house", "_law_door", "_law_steps_here", "_law_rooted", "_law_ends", "_law_question_here", "_law_mark"] ["_law_script", "_law_start"] (defScope bql) := ⟨rfl, rfl, rfl, by decide +kernel, rfl, by decide +kernel, by decide +kernel⟩
theorem aqF : FnScope ["_law_question_here", "_law_cell", "_law_words", "_law_k", "_law_name", "_law_value", "_law_word"] ["_law_question_here", "_law_cell"] (defScope aqG) := ⟨rfl, rfl, rfl, by decide +kernel, rfl, by decide +kernel, by decide +kernel⟩
theorem bqS : FnScope ["cursor", "must_be_rooted", "rooted", "steps", "ends", "step"] ["cursor", "must_be_rooted"] (defScope cqI) := ⟨rfl, rfl, rfl, by decide +kernel, rfl, by decide +kernel, by decide +kernel⟩
theorem kqW : FnScope ["cursor"] ["cursor"] (defScope bqC) := ⟨rfl, rfl, rfl, by decide +kernel, rfl, by decide +kernel, by decide +kernel⟩
theorem lqI : FnScope ["cursor"] ["cursor"] (defScope bqU) := ⟨rfl, rfl, rfl, by decide +kernel, rfl, by decide +kernel, by decide +kernel⟩
theorem dqO : FnScope ["cursor", "free", "most", "text"] ["cursor", "free", "most"] (defScope aqJ) := ⟨rfl, rfl, rfl, by decide +kernel, rfl, by decide +kernel, by decide +kernel⟩
theorem qqr : FnScope ["address", "scheme"] ["address"] (defScope kqa) := ⟨rfl, rfl, rfl, by decide +kernel, rfl, by decide +kernel, by decide +kernel⟩
theorem aqt : FnScope ["_law_address_here", "_law_cell", "_law_scheme_here", "_law_house", "_law_door", "_law_way", "_law_question_here", "_law_mark", "_law_found", "_law_left", "_law_steps_here"] ["_law_address_here", "_law_cell"] (defScope bqm) := ⟨rfl, rfl, rfl, by decide +kernel, rfl, by decide +kernel, by decide +kernel⟩
theorem kqG : FnScope ["cursor"] ["cursor"] (defScope bqB) := ⟨rfl, rfl, rfl, by decide +kernel, rfl, by decide +kernel, by decide +kernel⟩
theorem cqe : FnScope ["cursor", "name", "pairs"] ["cursor"] (defScope aqY) := ⟨rfl, rfl, rfl, by decide +kernel, rfl, by decide +kernel, by decide +kernel⟩
theorem gqw : FnScope ["text", "cursor", "scheme", "house", "door", "way", "question", "mark"] ["text"] (defScope jqW) := ⟨rfl, rfl, rfl, by decide +kernel, rfl, by decide +kernel, by decide +kernel⟩
theorem cqY : FnScope ["_law_text", "_law_heard", "_law_e"] ["_law_text"] (defScope bq6) := ⟨rfl, rfl, rfl, by decide +kernel, rfl, by decide +kernel, by decide +kernel⟩
theorem kq6 : FnScope ["_law_script", "_law_address_here", "_law_text", "_law_cell", "_law_size", "_law_heard"] ["_law_script"] (defScope nqz) := ⟨rfl, rfl, rfl, by decide +kernel, rfl, by decide +kernel, by decide +kernel⟩
theorem iqH (g : G K mg) : FnOk P w K mg base CX0 1 g.iqo g.gqU ["text", "signs"] oq7 := by
 refine g.gqa.ok pqk (fun vs H Q E h => ?_) (fun cdv A outer s H vs Q E hr h => ?_)
 ·obtain ⟨x, y, rfl, _⟩ := h; rfl
 ·obtain ⟨x, y, rfl, hx, k⟩ := h
  refine ⟨_, (aqd (aqx (aqO (qq8 (K := K) rfl rfl) rfl g.vqx PyProof.Rows.boot_all (aqa (lqO (fx := ["signs"]) (fr := [1]) rfl rfl (by decide +kernel) rfl (by decide +kernel) rfl (by decide +kernel) rfl (.cons rfl rfl rfl rfl .nil) rfl (sqI (pv 0)) (fun _ _ _ => mqA) (fun _ _ _ => (bqa jqF (pv 0) (pv 1) (by with_unfolding_all rfl)))) aqb)))), ?_⟩
  walk_at "rd"
  intro p hp
  refine oqc (z := x) (aqq hx) hp (fun c => .bl (decide (c ∈ y.cps.toList))) (fun c hc H' R hR => ?_) (fun H' sm hp' => ?_)
  ·walk_at "rd"
   exact hR H' (Same.refl _)
  ·refine qqv.mpr ⟨x.cps.toList.map fun c => decide (c ∈ y.cps.toList), SqL.of (by rw [hp', List.map_map]; rfl), ?_⟩
   rw [List.all_map]
   exact k H' sm
theorem pqm (g : G K mg) : FnOk P w K mg base CX0 1 g.iqm g.gq1 ["sign"] lqc := by
 refine g.jqB.ok kq5 (fun vs H Q E h => ?_) (fun cdv A outer s H vs Q E hr h => ?_)
 ·obtain ⟨c, rfl, _⟩ := h; rfl
 ·obtain ⟨c, rfl, hc, k⟩ := h
  refine ⟨_, (aqc (aqj (i := 1) kq5.nd rfl (Or.inl rfl) (aqO pqZ rfl g.vqV rq4 (aqa (pv 0) aqb)))
   (aqd (aqx (aqw (aqz (K := K) rfl) (aqw (aqz (K := K) rfl) aqs (aq5 (aqA (K := K) rfl) (aqB (v := cq2) rfl g.bqQ ⟨_, rfl⟩) (aqw hqm (pv 1) aqf) (fun _ _ => rfl))) (aq5 (aqA (K := K) rfl) (aqB (v := cq2) rfl g.bqQ ⟨_, rfl⟩) (aqw eqQ (pv 1) aqf) (fun _ _ => rfl)))))), ?_⟩
  walk_at "rd"
  exact ⟨⟨by decide, by decide⟩, hexd (c / 16), hqI, sqd (by omega) (by omega), by decide, by decide, hexd (c % 16), hqI, sqd (by omega) (by omega), by decide, k⟩
theorem fq3 (g : G K mg) : FnOk P w K mg base CX0 1 g.cqZ g.cqt ["figure"] fq1 := by
 refine g.cq5.ok jqi (fun vs H Q E h => ?_) (fun cdv A outer s H vs Q E hr h => ?_)
 ·obtain ⟨c, rfl, _⟩ := h; rfl
 ·obtain ⟨a, rfl, ha, k⟩ := h
  refine ⟨_, (aqc (bqk (aqy jqF (pv 0) (aqB (v := cq2) rfl g.bqQ ⟨_, rfl⟩) (by with_unfolding_all rfl))
    (aqd (aqx (dqB (K := K) rfl PySem.F.plainAttrs_str PySem.F.slot_str_index PySem.F.type_str_index lqC (aqB (v := cq2) rfl g.bqQ ⟨_, rfl⟩) (aqa (pv 0) aqb)))) aqD)
   (aqc (bqk (aqy jqF (pv 0) (aqB (v := fq7) rfl g.eqs ⟨_, rfl⟩) (by with_unfolding_all rfl))
    (aqd (aqx (dqB (K := K) rfl PySem.F.plainAttrs_str PySem.F.slot_str_index PySem.F.type_str_index lqC (aqB (v := fq7) rfl g.eqs ⟨_, rfl⟩) (aqa (pv 0) aqb)))) aqD)
   (aqd (aqx aqX)))), ?_⟩
  walk_at "rd"
  refine ite2 (fun h => ?_) (fun h => ?_)
  ·obtain ⟨e1, e2⟩ := rq3 a ha h
   obtain ⟨n, hn⟩ := Option.isSome_iff_exists.mp e2
   rw [hn] at e1
   rw [gqI hn] at k
   exact ⟨n, [], e1, k⟩
  ·refine ite2 (fun h2 => ?_) (fun h2 => ?_)
   ·obtain ⟨e1, e2⟩ := rqK a ha h h2
    obtain ⟨n, hn⟩ := Option.isSome_iff_exists.mp e2
    rw [hn] at e1
    rw [gqI hn] at k
    exact ⟨n, [], e1, k⟩
   ·rw [jqX (xql a ha h h2)] at k
    exact k
theorem jql (g : G K mg) : FnOk P w K mg base CX0 1 g.cq4 g.cqx ["number"] jqe := by
 refine g.eqi.ok dqM (fun vs H Q E h => ?_) (fun cdv A outer s H vs Q E hr h => ?_)
 ·obtain ⟨c, rfl, _⟩ := h; rfl
 ·obtain ⟨n, rfl, k⟩ := h
  refine ⟨_, (aqc (bqk (PW.pt (lq0 (aqy qqN (pv 0) (aqB (v := hqe) rfl g.fqf ⟨_, rfl⟩) (nomark _)) (lq0 (aqy kqb (pv 0) (aqB (v := lq5) rfl g.iqg ⟨_, rfl⟩) (nomark _)) (jqK (aqy fq5 (pv 0) (aqB (v := fqq) rfl g.dqd ⟨_, rfl⟩) (nomark _))))))
    (aqd (aqx aqX)) aqD)
   (aqc (aqj (i := 1) dqM.nd rfl (Or.inl rfl) (aqw sqO (pv 0) (aqB (v := hqe) rfl g.fqf ⟨_, rfl⟩)))
   (aqc (bqk (aqy kqb (pv 0) (aqB (v := fqq) rfl g.dqd ⟨_, rfl⟩) (nomark _))
    (aqd (aqj (i := 1) dqM.nd rfl (Or.inl rfl) (aqw sqO (pv 1) aqf))) aqD)
   (aqd (aqx (aq5 (aqA (K := K) rfl) (aqB (v := qqJ) rfl g.nqt ⟨_, rfl⟩) (pv 1) (fun _ _ => rfl))))))), ?_⟩
  walk_at "rd"
  refine ite2 (fun h => ?_) (fun h => ?_)
  ·rw [pqJ (fun q => by have := cqk q; omega)] at k
   exact k
  ·refine ite2 (fun h1 => ?_) (fun h1 => ?_)
   ·rw [pqJ (fun q => by have := cqk q; omega)] at k
    exact k
   ·refine ite2 (fun h2 => ?_) (fun h2 => ?_)
    ·rw [pqJ (fun q => by have := cqk q; omega)] at k
     exact k
    ·have hs : isSg n = true := tqR (by omega) (by omega) (by omega)
     rw [uqB hs] at k
     have hat := rqi n (by omega) hs
     refine ite2 (fun h3 => ?_) (fun h3 => ?_)
     ·rw [if_pos (show 37 < n by omega)] at hat
      refine ⟨n, mqs, ?_, k⟩
      rw [show (n : Int) - 32 - 1 = ((n - 32 - 1 : Nat) : Int) by omega]
      exact aqI hat
     ·rw [if_neg (show ¬ 37 < n by omega)] at hat
      refine ⟨n, mqs, ?_, k⟩
      rw [show (n : Int) - 32 = ((n - 32 - 0 : Nat) : Int) by omega]
      exact aqI hat
theorem nqs (g : G K mg) : FnOk P w K mg base CX0 1 g.gqV g.fqB ["address"] (nqI K) := by
 refine g.iqu.ok nqE (fun vs H Q E h => ?_) (fun cdv A outer s H vs Q E hr h => ?_)
 ·obtain ⟨p, l, r, rfl, _⟩ := h; rfl
 ·obtain ⟨p, l, r, rfl, hp, k⟩ := h
  refine ⟨_, (aqd (aqx (bqa nqx (aq5 (aqA (K := K) rfl) (pv 0) (aqB (v := nqU) rfl g.lqt ⟨_, rfl⟩) (fun _ _ => rfl)) aqs (nomark _)))), ?_⟩
  walk_at "rd"
  refine ⟨_, _, .inr hp, xqA, ?_⟩
  walk_at "rd"
  rw [show decide ((⟨l.toArray⟩ : Str) = ⟨([] : List Nat).toArray⟩) = decide (l = []) from decide_eq_decide.mpr gqL]
  exact k
theorem aqP (g : G K mg) : FnOk P w K mg base CX0 1 g.bqq g.bqi ["self", "at"] (dqw K g.aqn) := by
 refine g.dqQ.ok gqv (fun vs H Q E h => ?_) (fun cdv A outer s H vs Q E hr h => ?_)
 ·obtain ⟨a, v, rfl, _⟩ := h; rfl
 ·obtain ⟨a, v, rfl, ha, k⟩ := h
  refine ⟨_, (aqd (uqk (pv 0) (pv 1) rfl)), ?_⟩
  walk_at "rd"
  exact ⟨a, _, rfl, ha, g.gqN, fun d hd => k d hd⟩
theorem hqE (g : G K mg) : FnOk P w K mg base CX0 1 g.cqc g.bqO ["self", "text"] (iqn K g.aqu) := by
 refine g.fqh.ok hqW (fun vs H Q E h => ?_) (fun cdv A outer s H vs Q E hr h => ?_)
 ·obtain ⟨p, dx, t, rfl, _⟩ := h; rfl
 ·obtain ⟨p, dx, t, rfl, hp, k⟩ := h
  refine ⟨_, (aqc (oqq (pv 0) (pv 1) rfl)
   (aqd (oqq (pv 0) aqf rfl))), ?_⟩
  walk_at "rd"
  refine ⟨p, _, dx, _, rfl, hp, g.aqh, g.aq3, by show 0 < 1000; decide, ?_⟩
  refine ⟨p, _, dx, _, rfl, aqg, g.aqh, g.aqo, by show 1 < 1000; decide, ?_⟩
  have h : Str.ofString "text" ≠ Str.ofString "place" := by decide +kernel
  rw [qqV]
  refine k _ fqF ⟨dx, ?_⟩
  rw [aqg]
  simp only [putF, if_neg h]
  rfl
theorem fqU (g : G K mg) : FnOk P w K mg base CX0 1 g.cqS g.cqw ["self"] (jqj K g.aqu) := by
 refine g.gqA.ok jqf (fun vs H Q E h => ?_) (fun cdv A outer s H vs Q E hr h => ?_)
 ·obtain ⟨p, t, i, rfl, _⟩ := h; rfl
 ·obtain ⟨p, t, i, rfl, ⟨dx, hp⟩, hl, k⟩ := h
  refine ⟨_, (aqd (aqx (bqa fq5 (cqp (pv 0) rfl) (aqO (bqJ (K := K) rfl) rfl g.iqI PySem.boot_len (aqa (cqp (pv 0) rfl) aqb)) (nomark _)))), ?_⟩
  have hcur : Cur H g.aqu p t i := ⟨dx, hp⟩
  walk_at "rd"
  refine aqW hcur g.aqh g.aqo (fqu hcur g.aqh g.aq3 ?_)
  walk_at "rd"
  refine ⟨aqq hl, ?_⟩
  rw [show decide ((i : Int) = (t.length : Int)) = decide (i = t.length) from decide_eq_decide.mpr (by omega)]
  exact k
theorem cqo (g : G K mg) : FnOk P w K mg base CX0 1 g.dq6 g.dqs ["self"] (kqC K g.aqu) := by
 refine g.hqU.ok gq9 (fun vs H Q E h => ?_) (fun cdv A outer s H vs Q E hr h => ?_)
 ·obtain ⟨p, t, i, c, rfl, _⟩ := h; rfl
 ·obtain ⟨p, t, i, c, rfl, ⟨dx, hp⟩, hc, hl, k⟩ := h
  refine ⟨_, (aqc (aqj (i := 1) gq9.nd rfl (Or.inl rfl) (aq5 (aqA (K := K) rfl) (cqp (pv 0) rfl) (cqp (pv 0) rfl) (fun _ _ => rfl)))
   (aqc (oqq (pv 0) (aqw (aqz (K := K) rfl) (cqp (pv 0) rfl) aqf) rfl)
   (aqd (aqx (pv 1))))), ?_⟩
  have hcur : Cur H g.aqu p t i := ⟨dx, hp⟩
  walk_at "rd"
  refine fqu hcur g.aqh g.aq3 (aqW hcur g.aqh g.aqo ?_)
  walk_at "rd"
  refine ⟨c, aqq hl, aqI hc, ?_⟩
  refine aqW hcur g.aqh g.aqo ?_
  walk_at "rd"
  exact mq0 hcur g.aqh g.aqo (i + 1) (by omega) fun H' sb h => k H' sb h
theorem rqN {K : PySem.W.Frag} {C p : Addr} {H : Hp} {Q : VK} {E : XK} {t w r : List Nat} {i : Nat} (h : Cur H C p t i) (hi : i ≤ t.length) (hl : t.length ≤ 100000) (hd : t.drop i = w ++ r) (k : ∀ H', SameBut p H H' → Cur H' C p t (i + w.length) → i + w.length ≤ t.length → t.drop (i + w.length) = r → Q (.bl true) H') : dqJ K C [.ref p, .str ⟨w.toArray⟩] H Q E :=
 ⟨p, t, w, i, rfl, h, hi, hl, fun _ H' s c => k H' s c (by have := congrArg List.length hd; rw [List.length_drop, List.length_append] at this; omega) (by rw [← List.drop_drop, hd, List.drop_left]), fun z => absurd (by rw [hd, List.take_left]) z⟩
theorem uq7 {K : PySem.W.Frag} {C p : Addr} {H : Hp} {Q : VK} {E : XK} {t w : List Nat} {i : Nat} (h : Cur H C p t i) (hi : i ≤ t.length) (hl : t.length ≤ 100000) (hn : ¬ (t.drop i).take w.length = w) (k : Q (.bl false) H) : dqJ K C [.ref p, .str ⟨w.toArray⟩] H Q E :=
 ⟨p, t, w, i, rfl, h, hi, hl, fun z => absurd z hn, fun _ => k⟩
theorem aqL (g : G K mg) : FnOk P w K mg base CX0 1 g.cq3 g.cqv ["self", "text"] (dqJ K g.aqu) := by
 refine g.gqE.ok jqd (fun vs H Q E h => ?_) (fun cdv A outer s H vs Q E hr h => ?_)
 ·obtain ⟨p, t, w, i, rfl, _⟩ := h; rfl
 ·obtain ⟨p, t, w, i, rfl, ⟨dx, hp⟩, hi, hl, k1, k2⟩ := h
  refine ⟨_, (aqc (bqk (eq6 (bqr (dqB (K := K) rfl PySem.F.plainAttrs_str PySem.F.slot_str_startswith PySem.F.type_str_startswith pqt (cqp (pv 0) rfl) (aqa (pv 1) (aqa (cqp (pv 0) rfl) aqb)))))
    (aqd (aqx lqZ)) aqD)
   (aqc (oqq (pv 0) (aqw (aqz (K := K) rfl) (cqp (pv 0) rfl) (aqO (bqJ (K := K) rfl) rfl g.iqI PySem.boot_len (aqa (pv 1) aqb))) rfl)
   (aqd (aqx lqZ)))), ?_⟩
  have hcur : Cur H g.aqu p t i := ⟨dx, hp⟩
  walk_at "rd"
  refine fqu hcur g.aqh g.aq3 ⟨rfl, aqW hcur g.aqh g.aqo ?_⟩
  walk_at "rd"
  have e := sqE t w i hi
  rw [cqV, cqV] at e
  rw [e]
  by_cases h : (t.drop i).take w.length = w
  ·rw [decide_eq_true h, if_neg (by decide)]
   refine aqW hcur g.aqh g.aqo ?_
   walk_at "rd"
   exact ⟨aqq (by have := congrArg List.length h; rw [List.length_take, List.length_drop] at this; omega), mq0 hcur g.aqh g.aqo (i + w.length) (by omega) fun H' sb h' => k1 h H' sb h'⟩
  ·rw [decide_eq_false h, if_pos rfl]
   exact k2 h
theorem iqY (g : G K mg) : FnOk P w K mg base CX0 1 g.fqA g.eqH ["door", "cursor"] (mqP K g.aqu) := by
 refine g.fqC.ok mq1 (fun vs H Q E h => ?_) (fun cdv A outer s H vs Q E hr h => ?_)
 ·obtain ⟨p, t, i, c, n, rfl, _⟩ := h; rfl
 ·obtain ⟨p, t, i, c, n, rfl, hcur, hl, hc, h48, h57, hn, k⟩ := h
  refine ⟨_, (aqd (aqx (aqw (aqz (K := K) rfl) (aqw cqA (pv 0) aqf) (bqd mqS rfl g.kql hqb (aqa (aq5 (aqA (K := K) rfl) (cqp (pv 1) rfl) (cqp (pv 1) rfl) (fun _ _ => rfl)) aqb))))), ?_⟩
  walk_at "rd"
  refine ⟨.inl ⟨by omega, by omega⟩, fqu hcur g.aqh g.aq3 (aqW hcur g.aqh g.aqo ?_)⟩
  walk_at "rd"
  refine ⟨c, aqq hl, aqI hc, _, by show 1 ≤ 640; decide, pqV c (by omega) h48, ?_⟩
  rw [show (n : Int) * 10 + ((c - 48 : Nat) : Int) = ((n * 10 + (c - 48) : Nat) : Int) by omega]
  exact k
theorem pqa (g : G K mg) : FnOk P w K mg base CX0 1 g.hqT g.gq3 ["rooted", "texts", "ends"] (oqZ K) := by
 refine g.jqV.ok iqC (fun vs H Q E h => ?_) (fun cdv A outer s H vs Q E hr h => ?_)
 ·obtain ⟨r, e, p, ts, rfl, _⟩ := h; rfl
 ·obtain ⟨r, e, p, ts, rfl, hp, hl, k⟩ := h
  refine ⟨_, (aqQ (aqj (i := 3) iqC.nd rfl (Or.inl rfl) (cq6 (bqr (pv 0)) aqs aqs))
   (aqQ (aqj (i := 4) iqC.nd rfl (Or.inl rfl) (cq6 (PW.pt (hqc (bqr (pv 2)) (fq8 (aqy kqb (aqO (bqJ (K := K) rfl) rfl g.iqI PySem.boot_len (aqa (pv 1) aqb)) aqf (nomark _))))) aqs aqs))
   (aqd (aqx (aqw (aqz (K := K) rfl) (aqw (aqz (K := K) rfl) (pv 3) (dqB (K := K) rfl PySem.F.plainAttrs_str PySem.F.slot_str_join PySem.F.type_str_join (gqW (K := K) rfl) aqs (aqa (pv 1) aqb))) (pv 4)))))), ?_⟩
  have c1 : Str.ofString "/" = ⟨[47].toArray⟩ := by decide +kernel
  rw [c1]
  walk_at "rd"
  refine ⟨fun σ H' => H' = H ∧ σ = [some (.bl r), some (.ref p), some (.bl e), some (.str ⟨(if r then [47] else [] : List Nat).toArray⟩), none], ?_, ?_⟩
  ·cases r with
   | true => exact ite2 (fun _ => ⟨rfl, rfl⟩) (fun z => absurd rfl z)
   | false => exact ite2 (fun z => by cases z) (fun _ => ⟨rfl, rfl⟩)
  rintro σ H' ⟨rfl, rfl⟩
  walk_at "rd"
  refine ⟨fun σ H'' => H'' = H' ∧ σ = [some (.bl r), some (.ref p), some (.bl e), some (.str ⟨(if r then [47] else [] : List Nat).toArray⟩), some (.str ⟨(if e && !ts.isEmpty then [47] else [] : List Nat).toArray⟩)], ?_, ?_⟩
  ·cases e with
   | false => exact ite2 (fun z => by cases z) (fun _ => ⟨rfl, rfl⟩)
   | true =>
    refine ite2 (fun _ => ⟨_, .inl hp, ?_⟩) (fun z => absurd rfl z)
    rw [List.length_map]
    cases ts with
    | nil => exact ite2 (fun z => absurd z (by decide)) (fun _ => ⟨rfl, rfl⟩)
    | cons t ts => exact ite2 (fun _ => ⟨rfl, rfl⟩) (fun z => absurd (by simp) z)
  rintro σ H'' ⟨rfl, rfl⟩
  walk_at "rd"
  have hj := jqt (sep := 47) ts
  have h1 : (if r = true then [47] else ([] : List Nat)).length ≤ 1 := by split <;> simp
  have h2 : (if (e && !ts.isEmpty) = true then [47] else ([] : List Nat)).length ≤ 1 := by split <;> simp
  refine ⟨ts.map fun l => ⟨l.toArray⟩, by rw [List.map_map]; exact hp, ?_, ?_⟩
  ·rw [pqL, List.length_map]
   have : (ts.map List.length).sum + ts.length ≤ (joinT 47 ts).length + 1 := hj
   omega
  rw [show (⟨#[47]⟩ : Str) = ⟨[47].toArray⟩ from rfl, jqo]
  walk_at "rd"
  refine ⟨aqq (by omega), aqq (by rw [List.length_append]; omega), ?_⟩
  rw [List.append_assoc]
  exact k
theorem gqC (g : G K mg) : FnOk P w K mg base CX0 1 g.dqm g.cqM ["_law_script", "_law_k"] (kqe K) := by
 refine g.dqn.ok kqv (fun vs H Q E h => ?_) (fun cdv A outer s H vs Q E hr h => ?_)
 ·obtain ⟨a, ns, k, rfl, _⟩ := h; rfl
 ·obtain ⟨a, ns, i, rfl, hS, k⟩ := h
  refine ⟨_, (aqc (bqk (aqy qqN (pv 1) (aqO (bqJ (K := K) rfl) rfl g.iqI PySem.boot_len (aqa (pv 0) aqb)) (nomark _))
    (aqd (aqx (aq5 (aqA (K := K) rfl) (pv 0) (pv 1) (fun _ _ => rfl)))) aqD)
   (aqd (aqx aqf))), ?_⟩
  walk_at "rd"
  refine ⟨ns.map V.int, .inl hS, ite2 (fun h => ?_) (fun h => ?_)⟩
  ·rw [List.length_map] at h
   exact ⟨ns.map V.int, _, .inl hS, uqs (by omega), k⟩
  ·rw [List.length_map] at h
   rw [List.getD_eq_getElem?_getD, List.getElem?_eq_none (by omega)] at k
   exact k
theorem lq1 (g : G K mg) : FnOk P w K mg base CX0 1 g.eqN g.dq0 ["_law_found"] (lqG K) := by
 refine g.gqz.ok lqz (fun vs H Q E h => ?_) (fun cdv A outer s H vs Q E hr h => ?_)
 ·obtain ⟨i, rfl, _⟩ := h; rfl
 ·obtain ⟨i, rfl, k⟩ := h
  refine ⟨_, (aqd (aqx (hqN (aqO jqJ rfl g.aqS aqH (aqa (pv 0) (aqa (jqx (v := .ty "int") rfl g.kql hqb rfl) aqb))) (hqQ (qqu (aqO jqJ rfl g.aqS aqH (aqa (pv 0) (aqa (jqx (v := .ty "bool") rfl g.sq6 tqy rfl) aqb)))))))), ?_⟩
  walk_at "rd"
  exact k
theorem fqO (g : G K mg) : FnOk P w K mg base CX0 1 g.eq2 g.dq8 [] hqY := by
 refine g.dqC.ok iql (fun vs H Q E h => ?_) (fun cdv A outer s H vs Q E hr h => ?_)
 ·obtain ⟨rfl, _⟩ := h; rfl
 ·obtain ⟨rfl, k⟩ := h
  refine ⟨_, (aqc (aqj (i := 0) iql.nd rfl (Or.inl rfl) aqs)
   (aqd (aqx (aqw (aqz (K := K) rfl) (pv 0) aqs)))), ?_⟩
  walk_at "rd"
  rw [wqQ]
  exact ⟨tqY, k⟩
theorem lq8 (g : G K mg) : FnOk P w K mg base CX0 1 g.eq0 g.dqY ["_law_sign"] hqK := by
 refine g.gqM.ok lqD (fun vs H Q E h => ?_) (fun cdv A outer s H vs Q E hr h => ?_)
 ·obtain ⟨c, rfl, _⟩ := h; rfl
 ·obtain ⟨c, rfl, hc, k⟩ := h
  refine ⟨_, (aqd (aqx (rqS (qqz (K := K) rfl PySem.F.plainAttrs_str PySem.F.slot_str_isalnum PySem.F.type_str_isalnum rqp (pv 0)) (hqQ (bqa jqF (pv 0) aqs (by with_unfolding_all rfl)))))), ?_⟩
  walk_at "rd"
  have e := pq3 c hc
  refine ite2 (fun h => ?_) (fun h => ?_)
  ·rw [← e, h] at k
   exact k
  ·rw [← e, (Bool.not_eq_true _).mp h, Bool.false_or] at k
   exact k
theorem mq3 (g : G K mg) : FnOk P w K mg base CX0 1 g.fqN g.eq7 ["_law_cell"] mqK := by
 refine g.hqk.ok mqh (fun vs H Q E h => ?_) (fun cdv A outer s H vs Q E hr h => ?_)
 ·obtain ⟨c, rfl, _⟩ := h; rfl
 ·obtain ⟨c, rfl, k⟩ := h
  refine ⟨_, (aqd (aqx (hqg (aqa (aqw eqQ (pv 0) aqf) (aqa (aqw hqm (pv 0) aqf) (aqa aqf aqb)))))), ?_⟩
  walk_at "rd"
  exact ⟨by decide, ⟨by decide, by decide⟩, by decide, fun p hp => k p _ hp (bqp hp) ⟨_, _, 0, aqg, by decide, by decide⟩⟩
theorem aqk (g : G K mg) : FnOk P w K mg base CX0 1 g.fqt g.eqI ["_law_deck_here", "_law_most"] mqa := by
 refine g.aqm.ok gqP (fun vs H Q E h => ?_) (fun cdv A outer s H vs Q E hr h => ?_)
 ·obtain ⟨p, m, n, rfl, _⟩ := h; rfl
 ·obtain ⟨p, m, n, rfl, ⟨a, b, c, hp, hc0, hc1⟩, hn, hm0, hm1, k⟩ := h
  refine ⟨_, (aqc (bqk (aqy fq5 (aq5 (aqA (K := K) rfl) (pv 0) aqf (fun _ _ => rfl)) aqf (nomark _))
    (aqc (aqj (i := 2) gqP.nd rfl (Or.inl rfl) (aqw eqQ (aq5 (aqA (K := K) rfl) (pv 0) aqf (fun _ _ => rfl)) (pv 1)))
   (aqc (oqr (aqw hqm (aq5 (aqA (K := K) rfl) (pv 0) aqf (fun _ _ => rfl)) (pv 1)) (sq2 (pv 0) aqf nq1))
   (aqd (aqx (pv 2))))) aqD)
   (aqc (oqr (aqw (aqz (K := K) rfl) (aq5 (aqA (K := K) rfl) (pv 0) aqf (fun _ _ => rfl)) aqf) (sq2 (pv 0) aqf nq1))
   (aqc (aqj (i := 3) gqP.nd rfl (Or.inl rfl) (aqw eqQ (aqw cqA (aqw (aqz (K := K) rfl) (aq5 (aqA (K := K) rfl) (pv 0) aqf (fun _ _ => rfl)) (aqw cqA (aqw cqA aqf (aq5 (aqA (K := K) rfl) (pv 0) aqf (fun _ _ => rfl))) (aq5 (aqA (K := K) rfl) (pv 0) aqf (fun _ _ => rfl)))) aqf) aqf))
   (aqd (aqx (aqw eqQ (aqw hqm (aqw eqQ (aqw cqA (pv 3) (aqw (aqz (K := K) rfl) (pv 3) aqf)) aqf) aqf) (pv 1))))))), ?_⟩
  walk_at "rd"
  refine ⟨_, .int a, .inl (SqL.of hp), aqI (j := 0) rfl, ?_⟩
  walk_at "rd"
  refine ite2 (fun ha => ?_) (fun ha => ?_)
  ·refine ⟨_, .int b, .inl (SqL.of hp), aqI (j := 1) rfl, ?_⟩
   walk_at "rd"
   refine ⟨hm0, _, .int b, .inl (SqL.of hp), aqI (j := 1) rfl, ?_⟩
   walk_at "rd"
   refine ⟨⟨hm0, by omega⟩, _, 1, hp, rfl, ?_⟩
   exact k _ _ (Int.emod_nonneg _ (by omega)) (Int.emod_lt_of_pos _ hm0) ⟨a, _, c, aqg, hc0, by omega⟩ fqF
  ·refine ⟨_, .int c, .inl (SqL.of hp), aqI (j := 2) rfl, ?_⟩
   walk_at "rd"
   refine ⟨_, 2, hp, rfl, _, .int b, .inl (SqL.of aqg), aqI (j := 1) rfl, _, .int (c + 1), .inl (SqL.of aqg), aqI (j := 2) rfl, ?_⟩
   walk_at "rd"
   refine ⟨.inl ⟨by decide, by decide⟩, _, .int (c + 1), .inl (SqL.of aqg), aqI (j := 2) rfl, ?_⟩
   walk_at "rd"
   refine ⟨.inr ⟨by omega, by omega⟩, .inr ⟨by decide, by decide⟩, by decide, ?_⟩
   have h1 := Int.emod_nonneg ((b + 7919 * (c + 1) * (c + 1)) * 48271) (show (2147483647 : Int) ≠ 0 by decide)
   have h2 := Int.emod_lt_of_pos ((b + 7919 * (c + 1) * (c + 1)) * 48271) (show (0 : Int) < 2147483647 by decide)
   refine ⟨.inl ⟨by omega, by omega⟩, by decide, ⟨by decide, by decide⟩, hm0, ?_⟩
   exact k _ _ (Int.emod_nonneg _ (by omega)) (Int.emod_lt_of_pos _ hm0) ⟨a, b, c + 1, aqg, by omega, by omega⟩ fqF
theorem lqx (g : G K mg) : FnU P w K mg base 1 g.fqT g.eqS ["_law_e"] (nqi K g.aqn) := by
 refine g.hqj.oku iqT (fun vs H Q E h => ?_) (fun cdv A outer s H vs Q E hr h => ?_)
 ·obtain ⟨a, d, rfl, _⟩ := h; rfl
 ·obtain ⟨a, d, rfl, ha, k⟩ := h
  refine ⟨_, (aqc (aqj (i := 1) iqT.nd rfl (Or.inl rfl) (jqH (aqa (aqO (equ (K := K) rfl) rfl g.aqS aqH (aqa (pv 0) (aqa (aqB (v := .ref g.jqq) rfl g.oqh rfl) aqb))) (aqa (aqO (equ (K := K) rfl) rfl g.aqS aqH (aqa (pv 0) (aqa (aqB (v := .ref g.fqE) rfl g.kqf rfl) aqb))) (aqa (aqO (equ (K := K) rfl) rfl g.aqS aqH (aqa (pv 0) (aqa (aqB (v := .ref g.hqP) rfl g.mqj rfl) aqb))) (aqa (aqO (equ (K := K) rfl) rfl g.aqS aqH (aqa (pv 0) (aqa (aqB (v := .ref g.jqu) rfl g.nqY rfl) aqb))) aqb))))))
   (aqd (aqx (hqN (aqO (equ (K := K) rfl) rfl g.aqS aqH (aqa (pv 0) (aqa (aqB (v := .ref g.gqY) rfl g.kq2 rfl) aqb))) (hqN (aqO (equ (K := K) rfl) rfl g.aqS aqH (aqa (pv 0) (aqa (jqx (v := .ty "ValueError") rfl g.iqV lqJ rfl) aqb))) (hqN (bqa (lqW (K := K) rfl) lqZ (pv 1) (by with_unfolding_all rfl)) (hqQ (qqu (aqO (equ (K := K) rfl) rfl g.aqS aqH (aqa (pv 0) (aqa (aqB (v := .ref g.lqH) rfl g.qqF rfl) aqb))))))))))), ?_⟩
  walk_at "rd"
  refine ⟨_, _, _, ha, g.bq8, .cls g.eqW, _, _, _, ha, g.bq8, .cls g.dqF, _, _, _, ha, g.bq8, .cls g.eqw, _, _, _, ha, g.bq8, .cls g.eqM, by decide, fun p H1 hn s1 hp => ?_⟩
  have ha1 := s1 _ _ ha
  refine ⟨_, _, _, ha1, g.bq8, .cls g.dqT, ?_⟩
  walk_at "rd"
  refine ⟨_, _, _, ha1, g.bq8, .ty g.cq8, ?_⟩
  walk_at "rd"
  refine ⟨p, _, rfl, .inl (.of hp), rfl, rfl, ?_⟩
  rw [show (if true = true then !inV (V.bl true) [V.bl false, V.bl false, V.bl false, V.bl false] else inV (V.bl true) [V.bl false, V.bl false, V.bl false, V.bl false]) = true by decide]
  walk_at "rd"
  refine ⟨_, _, _, ha1, g.bq8, .cls g.fqk, ?_⟩
  walk_at "rd"
  exact k H1 s1
theorem oq8 (g : G K mg) : FnOk P w K mg base CX0 2 g.iqq g.gq0 ["thing"] pqd := by
 refine g.kqd.ok oq9 (fun vs H Q E h => ?_) (fun cdv A outer s H vs Q E hr h => ?_)
 ·obtain ⟨d, v, rfl, _⟩ := h; rfl
 ·obtain ⟨d, v, rfl, hv, hs, k⟩ := h
  refine ⟨_, (aqd (aqx (hqN (aqO jqJ rfl g.aqS aqH (aqa (pv 0) (aqa (jqx (v := .ty "str") rfl g.pqS nqV rfl) aqb))) (hqQ (aqe (iqH g) (hr.mono (by decide)) rfl g.hqM g.gqa.kp g.hqG .nil pass0 (aqa (pv 0) (aqa (aqB (v := qqJ) rfl g.nqt ⟨_, rfl⟩) aqb))))))), ?_⟩
  cases hv with
  | lst hp r => walk_at "rd"; simp only [rqw hp]; walk_at "rd"; exact k H (Same.refl _)
  | tup hp r => walk_at "rd"; simp only [rqA hp]; walk_at "rd"; exact k H (Same.refl _)
  | str x =>
   walk_at "rd"
   refine ⟨x, _, rfl, nqk hs, fun H' sm => ?_⟩
   simp only [wqb]
   exact k H' sm
  | _ => walk_at "rd"; exact k H (Same.refl _)
theorem pqf (g : G K mg) : FnOk P w K mg base CX0 2 g.hqR g.gqZ ["figures"] kq8 := by
 refine g.kqr.ok iqD (fun vs H Q E h => ?_) (fun cdv A outer s H vs Q E hr h => ?_)
 ·obtain ⟨c, rfl, _⟩ := h; rfl
 ·obtain ⟨l, rfl, hl, ha, k⟩ := h
  refine ⟨_, (aqc (bqk (aqy nqx (aqO (bqJ (K := K) rfl) rfl g.iqI PySem.boot_len (aqa (pv 0) aqb)) aqf (nomark _))
    (aqd (aqx aqX)) aqD)
   (aqc (aqj (i := 1) iqD.nd rfl (Or.inl rfl) (aqe (fq3 g) (hr.mono (by decide)) rfl g.eqt g.cq5.kp g.eqr .nil pass0 (aqa (aq5 (aqA (K := K) rfl) (pv 0) aqf (fun _ _ => rfl)) aqb)))
   (aqc (aqj (i := 2) iqD.nd rfl (Or.inl rfl) (aqe (fq3 g) (hr.mono (by decide)) rfl g.eqt g.cq5.kp g.eqr .nil pass0 (aqa (aq5 (aqA (K := K) rfl) (pv 0) aqf (fun _ _ => rfl)) aqb)))
   (aqc (bqk (PW.pt (lq0 (aqy fqb (pv 1) aqX (nomark _)) (jqK (aqy fqb (pv 2) aqX (nomark _)))))
    (aqd (aqx aqX)) aqD)
   (aqd (aqx (aqe (jql g) (hr.mono (by decide)) rfl g.gqO g.eqi.kp g.gqQ .nil pass0 (aqa (aqw (aqz (K := K) rfl) (aqw cqA (pv 1) aqf) (pv 2)) aqb)))))))), ?_⟩
  walk_at "rd"
  have hz : l.length ≤ sizeLine := aqq (by omega)
  refine ⟨hz, ite2 (fun h => ?_) (fun h => ?_)⟩
  ·rw [pqo (by omega)] at k
   exact k
  ·obtain ⟨a, b, rfl⟩ := vqK (l := l) (by omega)
   refine ⟨a, hz, rfl, ha a (by simp), b, hz, rfl, ha b (by simp), ?_⟩
   have k : Q (signOf a b) H := k
   unfold signOf at k
   cases e1 : fig a with
   | none =>
    rw [e1] at k
    rw [jqX e1]
    exact k
   | some x =>
    cases e2 : fig b with
    | none =>
     rw [e1, e2] at k
     rw [gqI e1, jqX e2]
     exact k
    | some y =>
     rw [e1, e2] at k
     rw [gqI e1, gqI e2]
     walk_at "rd"
     exact ⟨.inr ⟨by decide, by decide⟩, x * 16 + y, by rw [Int.natCast_add, Int.natCast_mul]; rfl, k⟩
theorem eqe (g : G K mg) : FnOk P w K mg base CX0 2 g.hq9 g.gqS ["text"] fqn := by
 refine g.dqG.ok pqe (fun vs H Q E h => ?_) (fun cdv A outer s H vs Q E hr h => ?_)
 ·obtain ⟨c, rfl, _⟩ := h; rfl
 ·obtain ⟨l, rfl, hl, hs, k⟩ := h
  refine ⟨_, (aqd (aqx (dqB (K := K) rfl PySem.F.plainAttrs_str PySem.F.slot_str_join PySem.F.type_str_join (gqW (K := K) rfl) aqs (aqa (lqO (fx := []) (fr := []) rfl rfl (by decide +kernel) rfl (by decide +kernel) rfl (by decide +kernel) rfl .nil rfl (sqI (pv 0)) (fun _ _ _ => mqA) (fun _ _ _ => (cq6 (aqy jqF (pv 0) (aqB (v := nqN) rfl g.nqM ⟨_, rfl⟩) (by with_unfolding_all rfl)) (pv 0) (aqe (pqm g) (hr.mono (by decide)) rfl g.mq6 g.jqB.kp g.nqe .nil pass0 (aqa (pv 0) aqb))))) aqb)))), ?_⟩
  walk_at "rd"
  intro p hp
  refine oqc (z := ⟨l.toArray⟩) (by rw [cqV]; exact aqq (by omega)) hp (fun c => .str ⟨(wr1 c).toArray⟩) (fun c hc H' R hR => ?_) (fun H' sm hp' => ?_)
  ·have l1 := cqk (hs c hc)
   have e := oqv c (by omega)
   have hR' := hR H' (Same.refl _)
   walk_at "rd"
   unfold wr1 at hR'
   refine ite2 (fun h => ?_) (fun h => ?_)
   ·rw [decide_eq_true h] at e
    rw [← e, if_pos rfl] at hR'
    exact hR'
   ·rw [decide_eq_false h] at e
    rw [← e, if_neg (by decide)] at hR'
    exact ⟨by omega, hR'⟩
  ·walk_at "rd"
   refine ⟨l.map fun c => ⟨(wr1 c).toArray⟩, SqL.of (by rw [hp', List.map_map]; rfl), ?_, ?_⟩
   ·have h3 : ∀ m : List Nat, ((m.map fun c => (⟨(wr1 c).toArray⟩ : Str)).map (·.length)).sum ≤ 3 * m.length := fun m => by
     induction m with
     | nil => simp
     | cons c r ih =>
      have := pqT c
      simp only [List.map_cons, List.sum_cons, List.length_cons, cqV] at ih ⊢
      omega
    have := h3 l
    simp only [List.length_map, List.length_nil, Nat.mul_zero, Nat.add_zero, cqV] at this ⊢
    omega
   ·rw [oqI]
    have e : ((l.map fun c => (⟨(wr1 c).toArray⟩ : Str)).flatMap fun y => y.cps.toList) = wr l := by
     unfold wr
     rw [List.flatMap_map]
    rw [e]
    exact k H' sm
theorem dqp (g : G K mg) : FnOk P w K mg base CX0 2 g.dqX g.dqq ["self", "signs"] (kqF K g.aqu) := by
 refine g.iqr.ok kqK (fun vs H Q E h => ?_) (fun cdv A outer s H vs Q E hr h => ?_)
 ·obtain ⟨p, t, sg, i, rfl, _⟩ := h; rfl
 ·obtain ⟨p, t, sg, i, rfl, ⟨dx, hp⟩, hi, hl, k⟩ := h
  refine ⟨_, (aqd (aqx (hqN (qqu (fqy (pv 0) g.aqh g.dqK (fqU g) (hr.mono (by decide)) g.eqF .nil pass0)) (hqQ (bqa jqF (aq5 (aqA (K := K) rfl) (cqp (pv 0) rfl) (cqp (pv 0) rfl) (fun _ _ => rfl)) (pv 1) (by with_unfolding_all rfl)))))), ?_⟩
  have hcur : Cur H g.aqu p t i := ⟨dx, hp⟩
  walk_at "rd"
  refine aqT hcur ⟨p, t, i, rfl, hcur, hl, _, rfl, ?_⟩
  by_cases he : i = t.length
  ·rw [decide_eq_true he, if_neg (by decide)]
   rw [fql (by rw [he]; exact List.getElem?_eq_none (Nat.le_refl _))] at k
   exact k
  rw [decide_eq_false he, if_pos rfl]
  refine fqu hcur g.aqh g.aq3 (aqW hcur g.aqh g.aqo ?_)
  have hc : t[i]? = some t[i] := List.getElem?_eq_getElem (by omega)
  walk_at "rd"
  refine ⟨t[i], aqq hl, aqI hc, ?_⟩
  rw [fqm hc] at k
  exact k
theorem jqI (g : G K mg) : FnOk P w K mg base CX0 2 g.gqT g.fqD ["_law_sign"] kqc := by
 refine g.gqR.ok hqw (fun vs H Q E h => ?_) (fun cdv A outer s H vs Q E hr h => ?_)
 ·obtain ⟨c, rfl, _⟩ := h; rfl
 ·obtain ⟨c, rfl, hc, k⟩ := h
  refine ⟨_, (aqc (aqj (i := 1) hqw.nd rfl (Or.inl rfl) (dqB (K := K) rfl PySem.F.plainAttrs_str PySem.F.slot_str_index PySem.F.type_str_index lqC (lqT (fqO g) (hr.mono (by decide)) rfl g.eqR g.dqC.kp g.eq5 .nil pass0) (aqa (pv 0) aqb)))
   (aqc (aqj (i := 2) hqw.nd rfl (Or.inl rfl) (aqw (aqz (K := K) rfl) (aqw (aqz (K := K) rfl) aqf (pv 1)) (bqd eqj rfl g.kql hqb (aqa (bqa kqb (pv 1) aqf (nomark _)) aqb))))
   (aqd (aqx (aqw (aqz (K := K) rfl) (aq5 (aqA (K := K) rfl) aqs (aqw hqm (pv 2) aqf) (fun _ _ => rfl)) (aq5 (aqA (K := K) rfl) aqs (aqw eqQ (pv 2) aqf) (fun _ _ => rfl))))))), ?_⟩
  walk_at "rd"
  have l := cqk hc
  have e := uq1 hc
  refine ⟨ixT c, [], wqS c (by omega) hc, ⟨by decide, by decide⟩, hexd (c / 16), hqI, sqd (by rw [e]; omega) (by omega), by decide, hexd (c % 16), hqI, sqd (by rw [e]; omega) (by omega), by decide, k⟩
theorem dqt (g : G K mg) : FnOk P w K mg base CX0 2 g.fqw g.eq9 ["_law_deck_here", "_law_size"] nqc := by
 refine g.cqF.ok dqz (fun vs H Q E h => ?_) (fun cdv A outer s H vs Q E hr h => ?_)
 ·obtain ⟨p, sz, n, rfl, _⟩ := h; rfl
 ·obtain ⟨p, sz, n, rfl, hd, hn, hz, k⟩ := h
  refine ⟨_, (aqc (aqj (i := 2) dqz.nd rfl (Or.inl rfl) (aq5 (aqA (K := K) rfl) (hqg (aqa (lqT (fqO g) (hr.mono (by decide)) rfl g.eqR g.dqC.kp g.eq5 .nil pass0) (aqa (lqT (fqO g) (hr.mono (by decide)) rfl g.eqR g.dqC.kp g.eq5 .nil pass0) (aqa aqs (aqa aqs (aqa aqs aqb)))))) (aqe (aqk g) (hr.mono (by decide)) rfl g.aqp g.aqm.kp g.aqr .nil pass0 (aqa (pv 0) (aqa aqf aqb))) (fun _ _ => rfl)))
   (aqc (aqj (i := 3) dqz.nd rfl (Or.inl rfl) aqs)
   (aqc (kqx PassesOwn.never rfl (eqk rfl g.gqe (aqa (pv 1) aqb)) (bqN (i := 4) dqz.nd rfl (Or.inl rfl))
   (aqd (aqj (i := 3) dqz.nd rfl (Or.inl rfl) (aqw (aqz (K := K) rfl) (pv 3) (aq5 (aqA (K := K) rfl) (pv 2) (aqe (aqk g) (hr.mono (by decide)) rfl g.aqp g.aqm.kp g.aqr .nil pass0 (aqa (pv 0) (aqa (aqO (bqJ (K := K) rfl) rfl g.iqI PySem.boot_len (aqa (pv 2) aqb)) aqb))) (fun _ _ => rfl))))))
   (aqd (aqx (pv 3)))))), ?_⟩
  walk_at "rd"
  refine ⟨by decide, fun q hq => ?_⟩
  refine ⟨p, 5, n, rfl, hd.same (bqp hq), by omega, by decide, by decide, fun r H2 hr0 hr1 hd2 sb2 => ?_⟩
  have hq2 := sb2 q _ (hd.ne hq) aqg
  obtain ⟨tab, hat, ht0, ht1, hts⟩ := tabs5 r hr0 hr1
  refine iqR.mpr ⟨_, _, .inl (SqL.of hq2), hat, by omega, by omega, ?_⟩
  rw [Int.toNat_natCast]
  have sb0 : SameBut p H H2 := (Same.but (bqp hq)).trans sb2
  clear hq2 sb2 hat
  refine eqf (fun i σ H' => ∃ (l : List Nat) (v4 : Option V), σ = [some (.ref p), some (.int sz), some (.str ⟨tab.toArray⟩), some (.str ⟨l.toArray⟩), v4] ∧ l.length = i ∧ (∀ c ∈ l, isSg c = true) ∧ Deck H' p (n + 1 + i) ∧ SameBut p H H') ⟨[], none, rfl, rfl, by simp, hd2, sb0⟩ ?_ ?_
  ·rintro i σ H' hi ⟨l, v4, rfl, hl, hs, hdk, sb⟩
   walk_at "rd"
   refine ⟨aqq (by omega), p, _, n + 1 + i, rfl, hdk, by omega, by omega, by omega, fun r H3 h0 h1 hd3 sb3 => ?_⟩
   obtain ⟨c, hc, hca⟩ := tqX tab h0 h1
   walk_at "rd"
   refine ⟨c, aqq (by omega), hca, aqq (by omega), l ++ [c], _, ⟨rfl, rfl⟩, by rw [List.length_append, List.length_singleton, hl], fun e he => ?_, hd3, sb.trans sb3⟩
   rcases List.mem_append.mp he with z | z
   ·exact hs e z
   ·rw [List.mem_singleton.mp z]; exact hts c hc
  ·rintro σ H' ⟨l, v4, rfl, hl, hs, hdk, sb⟩
   walk_at "rd"
   exact k l H' hl hs (hdk.le (by omega)) sb
theorem kqH (g : G K mg) : FnOk P w K mg base CX0 2 g.dq9 g.dqj ["_law_deck_here"] kqY := by
 refine g.fqs.ok bqK (fun vs H Q E h => ?_) (fun cdv A outer s H vs Q E hr h => ?_)
 ·obtain ⟨p, n, rfl, _⟩ := h; rfl
 ·obtain ⟨p, n, rfl, hd, hn, k⟩ := h
  refine ⟨_, (aqc (aqj (i := 1) bqK.nd rfl (Or.inl rfl) aqs)
   (aqc (aqj (i := 2) bqK.nd rfl (Or.inl rfl) (aqe (aqk g) (hr.mono (by decide)) rfl g.aqp g.aqm.kp g.aqr .nil pass0 (aqa (pv 0) (aqa aqf aqb))))
   (aqc (aqj (i := 3) bqK.nd rfl (Or.inl rfl) aqs)
   (aqc (kqx PassesOwn.never rfl (eqk rfl g.gqe (aqa (aqw cqA (pv 2) (bqd eqj rfl g.kql hqb (aqa (bqa qqN (pv 2) aqf (nomark _)) aqb))) aqb)) (bqN (i := 4) bqK.nd rfl (Or.inl rfl))
   (aqd (aqj (i := 3) bqK.nd rfl (Or.inl rfl) (aqw (aqz (K := K) rfl) (pv 3) (aq5 (aqA (K := K) rfl) (aqw (aqz (K := K) rfl) (pv 1) aqs) (aqe (aqk g) (hr.mono (by decide)) rfl g.aqp g.aqm.kp g.aqr .nil pass0 (aqa (pv 0) (aqa (aqw (aqz (K := K) rfl) aqf (aqw cqA aqf (bqd eqj rfl g.kql hqb (aqa (bqa kqb (pv 4) aqf (nomark _)) aqb)))) aqb))) (fun _ _ => rfl))))))
   (aqd (aqx (pv 3))))))), ?_⟩
  walk_at "rd"
  refine ⟨p, 18, n, rfl, hd, by omega, by decide, by decide, fun r H2 hr0 hr1 hd2 sb2 => ?_⟩
  walk_at "rd"
  obtain ⟨m, hm, hm8⟩ : ∃ m : Nat, (r * if r < 9 then 1 else 0) = (m : Int) ∧ m ≤ 8 := by
   by_cases h : r < 9
   ·exact ⟨r.toNat, by rw [if_pos h]; omega, by omega⟩
   ·exact ⟨0, by rw [if_neg h]; omega, by omega⟩
  refine ⟨.inl ⟨by omega, by omega⟩, ?_⟩
  rw [hm, Int.toNat_natCast]
  refine ⟨by omega, by omega, ?_⟩
  refine eqf (fun i σ H' => ∃ (l : List Nat) (v4 : Option V), σ = [some (.ref p), some (.str (Str.ofString "abcdefghijklmnopqrstuvwxyzABCDEFGHIJKLMNOPQRSTUVWXYZ")), some (.int r), some (.str ⟨l.toArray⟩), v4] ∧ l.length = i ∧ (∀ c ∈ l, isAln c = true) ∧ (∀ c ∈ l.take 1, isLet c = true) ∧ Deck H' p (n + 1 + i) ∧ SameBut p H H') ⟨[], none, rfl, rfl, by simp, by simp, hd2, sb2⟩ ?_ ?_
  ·rintro i σ H' hi ⟨l, v4, rfl, hl, hs, h1, hdk, sb⟩
   walk_at "rd"
   rw [wqD]
   have hb : (0 : Int) < 52 + 10 * (if (0 : Int) < 0 + (i : Int) then 1 else 0) ∧ 52 + 10 * (if (0 : Int) < 0 + (i : Int) then 1 else 0) < (1000000 : Int) ∧ 52 + 10 * (if (0 : Int) < 0 + (i : Int) then 1 else 0) ≤ (62 : Int) ∧ (i = 0 → 52 + 10 * (if (0 : Int) < 0 + (i : Int) then 1 else 0) = (52 : Int)) := by
    by_cases h : (0 : Int) < 0 + (i : Int)
    ·rw [if_pos h]; exact ⟨by decide, by decide, by decide, by omega⟩
    ·rw [if_neg h]; exact ⟨by decide, by decide, by decide, by omega⟩
   refine ⟨by decide +kernel, .inl ⟨by decide, by decide⟩, p, _, n + 1 + i, rfl, hdk, by omega, hb.1, hb.2.1, fun x H3 h0 hx hd3 sb3 => ?_⟩
   have hx62 : x < (AL.length : Int) := by rw [sqW]; omega
   obtain ⟨c, hc, hca⟩ := tqX AL h0 hx62
   walk_at "rd"
   refine ⟨c, aqq (by rw [sqW]; decide), hca, aqq (by omega), l ++ [c], _, ⟨rfl, rfl⟩, by rw [List.length_append, List.length_singleton, hl], fun e he => ?_, fun e he => ?_, hd3, sb.trans sb3⟩
   ·rcases List.mem_append.mp he with z | z
    ·exact hs e z
    ·rw [List.mem_singleton.mp z]; exact wqC c hc
   ·rw [nqG] at he
    split at he
    ·rename_i h0l
     rw [List.mem_singleton.mp he]
     have hx52 : x < 52 := by have := hb.2.2.2 (by omega); omega
     obtain ⟨c', h1', h2'⟩ := vqF x.toNat (by omega)
     have hca' := aqI h1'
     rw [Int.toNat_of_nonneg h0, hca] at hca'
     cases hca'
     exact h2'
    ·exact h1 e he
  ·rintro σ H' ⟨l, v4, rfl, hl, hs, h1, hdk, sb⟩
   walk_at "rd"
   exact k l H' (by omega) hs h1 (hdk.le (by omega)) sb
theorem nqm (g : G K mg) : FnOk P w K mg base CX0 3 g.fqH g.eqT ["thing"] nqf := by
 refine g.hqn.ok mql (fun vs H Q E h => ?_) (fun cdv A outer s H vs Q E hr h => ?_)
 ·obtain ⟨d, v, rfl, _⟩ := h; rfl
 ·obtain ⟨d, v, rfl, hv, hs, k⟩ := h
  refine ⟨_, (aqc (bqk (PW.pt (lq0 (eq6 (bqr (aqe (oq8 g) (hr.mono (by decide)) rfl g.mq8 g.kqd.kp g.mqc .nil pass0 (aqa (pv 0) aqb)))) (jqK (aqy kqb (aqO (bqJ (K := K) rfl) rfl g.iqI PySem.boot_len (aqa (pv 0) aqb)) (aqB (v := jqh) rfl g.fqX ⟨_, rfl⟩) (nomark _)))))
    (aqd (aqx lqZ)) aqD)
   (aqd (aqx (hqN (aqe (iqH g) (hr.mono (by decide)) rfl g.hqM g.gqa.kp g.hqG .nil pass0 (aqa (iqc (lqn (K := K) rfl) (pv 0) nqS (hqr aqf)) (aqa (aqB (v := qqS) rfl g.mqv ⟨_, rfl⟩) aqb))) (hqQ (aqe (iqH g) (hr.mono (by decide)) rfl g.hqM g.gqa.kp g.hqG .nil pass0 (aqa (pv 0) (aqa (aqB (v := gqF) rfl g.dqE ⟨_, rfl⟩) aqb)))))))), ?_⟩
  walk_at "rd"
  refine ⟨d, v, rfl, hv, hs, fun H1 s1 => ?_⟩
  walk_at "rd"
  have k1 := k H1 s1
  cases hv with
  | str x =>
   have hx := nqk hs
   refine ite2 (fun h => ?_) (fun h => ?_)
   ·rw [show schD (.str x) = false by simp only [schD]; rw [show x.cps.toList.all isSg = false from h]; rfl] at k1
    exact k1
   have h : x.cps.toList.all isSg = true := (Bool.not_eq_false _).mp h
   walk_at "rd"
   refine ⟨aqq hx, ite2 (fun h2 => ?_) (fun h2 => ?_)⟩
   ·rw [show schD (.str x) = false by simp only [schD, h, Bool.true_and]; rw [decide_eq_false (by omega)]; rfl] at k1
    exact k1
   have e : x = ⟨x.cps.toList.toArray⟩ := by simp
   refine ⟨aqq hx, ?_⟩
   have e1 : Txt.slice x none (some 1) = ⟨(x.cps.toList.take 1).toArray⟩ := by
    conv => lhs; rw [e]
    exact oqB x.cps.toList 1
   rw [e1]
   refine ⟨⟨(x.cps.toList.take 1).toArray⟩, _, rfl, by rw [cqV, List.length_take]; omega, fun H2 s2 => ?_⟩
   have hsg := List.all_eq_true.mp h
   have f1 : ((⟨(x.cps.toList.take 1).toArray⟩ : Str).cps.toList.all fun c => decide (c ∈ (Str.ofString "abcdefghijklmnopqrstuvwxyzABCDEFGHIJKLMNOPQRSTUVWXYZ").cps.toList)) = (x.cps.toList.take 1).all isLet := by
    rw [pqG, Bool.eq_iff_iff, List.all_eq_true, List.all_eq_true]
    refine forall_congr' fun c => forall_congr' fun hc => ?_
    rw [vqH c (by have := cqk (hsg c (List.mem_of_mem_take hc)); omega)]
   have f2 : (x.cps.toList.all fun c => decide (c ∈ (Str.ofString "abcdefghijklmnopqrstuvwxyzABCDEFGHIJKLMNOPQRSTUVWXYZ0123456789").cps.toList)) = x.cps.toList.all isAln := by
    rw [Bool.eq_iff_iff, List.all_eq_true, List.all_eq_true]
    refine forall_congr' fun c => forall_congr' fun hc => ?_
    rw [vqG c (by have := cqk (hsg c hc); omega)]
   rw [f1]
   walk_at "rd"
   refine ite2 (fun h3 => ?_) (fun h3 => ?_)
   ·refine ⟨x, _, rfl, hx, fun H3 s3 => ?_⟩
    have k3 := k H3 (s1.trans (s2.trans s3))
    rw [f2]
    simp only [schD, h, h3, Bool.true_and, decide_eq_true (show x.length ≤ 8 by omega)] at k3
    exact k3
   ·have k3 := k H2 (s1.trans s2)
    simp only [schD, h, (Bool.not_eq_true _).mp h3, Bool.false_and, Bool.and_false, Bool.true_and] at k3
    exact k3
  | _ => exact k1
theorem kqZ (g : G K mg) : FnOk P w K mg base (CXN P w base) 3 g.eqP g.dq2 ["cursor"] (kqS K g.aqu g.aqn) := by
 refine g.gqy.okn fqr (fun vs H Q E h => ?_) (fun cdv A outer s H vs Q E hr h => ?_)
 ·obtain ⟨p, t, i, rfl, _⟩ := h; rfl
 ·obtain ⟨p, t, i, rfl, hcur, hi, hl, h128, k1, k2⟩ := h
  refine ⟨_, (aqc (bqk (eq6 (bqr (cqP (pv 0) g.aqh g.aqE (aqL g) (hr.mono (by decide)) g.aqK .nil pass0 (aqa aqs aqb))))
    (aqd (aqx aqX)) aqD)
   (aqc (bqk (eq6 (bqr (cqP (pv 0) g.aqh g.cql (dqp g) (hr.mono (by decide)) g.cqO .nil pass0 (aqa (aqB (v := kqu) rfl g.jqD ⟨_, rfl⟩) aqb))))
    (aqd (fqi eqh rfl g.bqZ g.cqz (aqP g) (hr.mono (by decide)) g.aqN rfl pass0 rfl (aqa (cqp (pv 0) rfl) aqb))) aqD)
   (aqc (aqj (i := 1) fqr.nd rfl (Or.inl rfl) (bqd mqS rfl g.kql hqb (aqa (fqy (pv 0) g.aqh g.bqM (cqo g) (hr.mono (by decide)) g.cqi .nil pass0) aqb)))
   (aqc (jqs PassesOwn.leaving (PW.pt (hqc (aqy kqb (pv 1) aqf (nomark _)) (hqc (bqr (cqP (pv 0) g.aqh g.cql (dqp g) (hr.mono (by decide)) g.cqO .nil pass0 (aqa (aqB (v := kqu) rfl g.jqD ⟨_, rfl⟩) aqb))) (fq8 (aqy xqy (aqe (iqY g) (hr.mono (by decide)) rfl g.hqu g.fqC.kp g.hqy .nil pass0 (aqa (pv 1) (aqa (pv 0) aqb))) (aqB (v := nqy) rfl g.jqR ⟨_, rfl⟩) (nomark _))))))
   (aqc (aqj (i := 1) fqr.nd rfl (Or.inl rfl) (aqe (iqY g) (hr.mono (by decide)) rfl g.hqu g.fqC.kp g.hqy .nil pass0 (aqa (pv 1) (aqa (pv 0) aqb))))
   (aqd (gqu (fqy (pv 0) g.aqh g.bqM (cqo g) (hr.mono (by decide)) g.cqi .nil pass0)))))
   (aqd (aqx (pv 1))))))), ?_⟩
  have eF : kqu = .str ⟨fgS.toArray⟩ := by
   show V.str (Str.ofString _) = _
   unfold fgS; simp
  have e1 : Str.ofString ":" = ⟨[58].toArray⟩ := by decide +kernel
  rw [eF, e1]
  walk_at "rd"
  refine aqT hcur ⟨p, t, [58], i, rfl, hcur, hi, hl, fun hp H1 s1 c1 => ⟨_, rfl, ?_⟩, fun hp => ⟨_, rfl, ?_⟩⟩
  ·rw [if_neg (by decide)]
   have h1 := take1.mp hp
   have hi1 : i + 1 ≤ t.length := by
    have := congrArg List.length hp
    rw [List.length_take, List.length_drop] at this
    simp only [List.length_singleton] at this
    omega
   have em : dooM (t.drop i) = (match t.drop (i + 1) with | [] => (.error 1 : Rs (Option Int)) | c :: r' => if 48 ≤ c ∧ c ≤ 57 then .ok (some ((dooG r' (c - 48)).1 : Int), 2 + (dooG r' (c - 48)).2) else .error 1) := by
    unfold dooM
    rw [if_pos h1, List.drop_drop]
    all_goals (cases t.drop (i + 1) <;> rfl)
   refine aqT c1 ⟨p, t, fgS, i + 1, rfl, c1, hi1, hl, _, rfl, ?_⟩
   cases hd : t.drop (i + 1) with
   | nil =>
    have hn : t[i + 1]? = none := by rw [← List.head?_drop, hd]; rfl
    rw [fql hn, if_pos rfl]
    exact aqW c1 g.aqh g.aqo (eqa fun d H' sm hx => k2 1 (by rw [em, hd]) d H' (s1.trans sm.but) hx)
   | cons c r =>
    obtain ⟨hx, hxl⟩ := jq0 hd
    rw [fqm hx]
    by_cases hf : 48 ≤ c ∧ c ≤ 57
    ·rw [decide_eq_true (oqJ.mpr hf), if_neg (by decide)]
     rw [hd] at em
     have em : dooM (t.drop i) = .ok (some ((dooG r (c - 48)).1 : Int), 2 + (dooG r (c - 48)).2) := by rw [em]; exact if_pos hf
     refine aqT c1 ⟨p, t, i + 1, c, rfl, c1, hx, hl, fun H2 s2 c2 => ⟨_, _, rfl, by show 1 ≤ 640; decide, pqV c (by omega) hf.1, ?_⟩⟩
     refine lqu (fun m σ H' => ∃ (n k : Nat), m = t.length - (i + 2 + k) ∧ i + 2 + k ≤ t.length ∧ σ = [some (.ref p), some (.int (n : Nat))] ∧ n ≤ 65535 ∧ SameBut p H H' ∧ Cur H' g.aqu p t (i + 2 + k) ∧ (dooG r (c - 48)).1 = (dooG (t.drop (i + 2 + k)) n).1 ∧ (dooG r (c - 48)).2 = k + (dooG (t.drop (i + 2 + k)) n).2) (t.length - (i + 2)) ⟨c - 48, 0, rfl, by omega, rfl, by omega, s1.trans s2, c2, ?_, ?_⟩ ?_
     ·rw [show t.drop (i + 2 + 0) = r by rw [Nat.add_zero, show i + 2 = i + 1 + 1 by omega, ← List.drop_drop, hd]; rfl]
     ·rw [show t.drop (i + 2 + 0) = r by rw [Nat.add_zero, show i + 2 = i + 1 + 1 by omega, ← List.drop_drop, hd]; rfl, Nat.zero_add]
     rintro m σ H3 ⟨n, k, rfl, hk, rfl, hn, s3, c3, g1, g2⟩
     have fin : dooG (t.drop (i + 2 + k)) n = (n, 0) → Q (.int (n : Nat)) H3 := fun e => by
      rw [e] at g1 g2
      have := k1 (some ((dooG r (c - 48)).1 : Int)) _ em H3 s3 (by rw [g2, show i + (2 + (k + 0)) = i + 2 + k by omega]; exact c3)
      rw [g1] at this
      exact this
     walk_at "rd"
     by_cases h0 : n = 0
     ·rw [if_neg (by omega)]
      refine fin ?_
      cases t.drop (i + 2 + k) with
      | nil => rfl
      | cons d r => unfold dooG; rw [if_neg (by omega)]
     rw [if_pos (by omega)]
     refine aqT c3 ⟨p, t, fgS, i + 2 + k, rfl, c3, hk, hl, _, rfl, ?_⟩
     cases hd3 : t.drop (i + 2 + k) with
     | nil =>
      have hn3 : t[i + 2 + k]? = none := by rw [← List.head?_drop, hd3]; rfl
      rw [fql hn3, if_neg (by decide)]
      exact fin (by rw [hd3]; rfl)
     | cons d r3 =>
      obtain ⟨hx3, hxl3⟩ := jq0 hd3
      rw [fqm hx3]
      by_cases hf3 : 48 ≤ d ∧ d ≤ 57
      ·rw [decide_eq_true (oqJ.mpr hf3), if_pos rfl]
       refine ⟨p, t, _, d, n, rfl, c3, hl, hx3, hf3.1, hf3.2, by omega, _, _, rfl, rfl, _, rfl, ?_⟩
       by_cases hle : n * 10 + (d - 48) ≤ 65535
       ·rw [decide_eq_true (by omega), if_pos rfl]
        refine ⟨_, fun _ _ h => h, p, t, _, d, n, rfl, c3, hl, hx3, hf3.1, hf3.2, by omega, aqT c3 ⟨p, t, _, d, rfl, c3, hx3, hl, fun H4 s4 c4 => ⟨t.length - (i + 2 + (k + 1)), by omega, n * 10 + (d - 48), k + 1, rfl, by omega, rfl, hle, s3.trans s4, c4, ?_, ?_⟩⟩⟩
        ·have hd4 : t.drop (i + 2 + (k + 1)) = r3 := by rw [← Nat.add_assoc, ← List.drop_drop, hd3]; rfl
         rw [g1, hd3, hd4]
         conv => lhs; unfold dooG
         rw [if_pos ⟨by omega, hf3.1, hf3.2, hle⟩]
        ·have hd4 : t.drop (i + 2 + (k + 1)) = r3 := by rw [← Nat.add_assoc, ← List.drop_drop, hd3]; rfl
         rw [g2, hd3, hd4]
         conv => lhs; unfold dooG
         rw [if_pos ⟨by omega, hf3.1, hf3.2, hle⟩]
         show k + (_ + 1) = _
         omega
       ·rw [decide_eq_false (by omega), if_neg (by decide)]
        exact fin (by rw [hd3]; unfold dooG; rw [if_neg (fun z => hle z.2.2.2)])
      ·rw [decide_eq_false (fun z => hf3 (oqJ.mp z)), if_neg (by decide)]
       exact fin (by rw [hd3]; unfold dooG; rw [if_neg (fun z => hf3 ⟨z.2.1, z.2.2.1⟩)])
    ·rw [decide_eq_false (fun z => hf (oqJ.mp z)), if_pos rfl]
     exact aqW c1 g.aqh g.aqo (eqa fun d H' sm hx => k2 1 (by rw [em, hd]; exact if_neg hf) d H' (s1.trans sm.but) hx)
  ·rw [if_pos rfl]
   exact k1 none 0 (by unfold dooM; rw [if_neg (fun z => hp (take1.mpr z))]) H (SameBut.refl _ _) hcur
theorem kqP (g : G K mg) : FnOk P w K mg base (CXN P w base) 3 g.eq3 g.dq7 ["cursor"] (kqN K g.aqu g.aqn) := by
 refine g.gqi.okn fqG (fun vs H Q E h => ?_) (fun cdv A outer s H vs Q E hr h => ?_)
 ·obtain ⟨p, t, i, rfl, _⟩ := h; rfl
 ·obtain ⟨p, t, i, rfl, hcur, hi, hl, h128, k1, k2⟩ := h
  refine ⟨_, (aqc (bqk (eq6 (bqr (cqP (pv 0) g.aqh g.cql (dqp g) (hr.mono (by decide)) g.cqO .nil pass0 (aqa (aqB (v := gqc) rfl g.gqH ⟨_, rfl⟩) aqb))))
    (aqd (fqi eqh rfl g.bqZ g.cqz (aqP g) (hr.mono (by decide)) g.aqN rfl pass0 rfl (aqa (cqp (pv 0) rfl) aqb))) aqD)
   (aqc (aqj (i := 1) fqG.nd rfl (Or.inl rfl) (aqw (aqz (K := K) rfl) (fqy (pv 0) g.aqh g.bqM (cqo g) (hr.mono (by decide)) g.cqi .nil pass0) (iqc (lqn (K := K) rfl) (cqp (pv 0) rfl) (hqr (cqp (pv 0) rfl)) (hqr (aqw (aqz (K := K) rfl) (cqp (pv 0) rfl) aqf)))))
   (aqc (aqj (i := 2) fqG.nd rfl (Or.inl rfl) (aqe (pqf g) (hr.mono (by decide)) rfl g.mqM g.kqr.kp g.mqY .nil pass0 (aqa (pv 1) aqb)))
   (aqc (bqk (aqy fqb (pv 2) aqX (nomark _))
    (aqd (fqi eqh rfl g.bqZ g.cqz (aqP g) (hr.mono (by decide)) g.aqN rfl pass0 rfl (aqa (cqp (pv 0) rfl) aqb))) aqD)
   (aqc (gqu (fqy (pv 0) g.aqh g.bqM (cqo g) (hr.mono (by decide)) g.cqi .nil pass0))
   (aqd (aqx (pv 2)))))))), ?_⟩
  have eF : gqc = .str ⟨fsF.toArray⟩ := by
   show V.str (Str.ofString "234567") = _
   rw [show Str.ofString "234567" = ⟨fsF.toArray⟩ by decide +kernel]
  walk_at "rd"
  rw [eF]
  refine aqT hcur ⟨p, t, _, i, rfl, hcur, hi, hl, _, rfl, ?_⟩
  cases hd : t.drop i with
  | nil =>
   have hn : t[i]? = none := by rw [← List.head?_drop, hd]; rfl
   rw [fql hn, if_pos rfl]
   exact aqW hcur g.aqh g.aqo (eqa fun d H' sm hx => k2 0 (by rw [hd]; rfl) d H' sm.but hx)
  | cons a r =>
   obtain ⟨hia, hil⟩ := jq0 hd
   rw [fqm hia]
   have ha := h128 a (List.mem_of_getElem? hia)
   by_cases hf : a ∈ fsF
   ·rw [decide_eq_true hf, if_neg (by decide)]
    refine aqT hcur ⟨p, t, i, a, rfl, hcur, hia, hl, fun H1 s1 c1 => ?_⟩
    refine fqu c1 g.aqh g.aq3 (aqW c1 g.aqh g.aqo ⟨_, rfl, aqW c1 g.aqh g.aqo ?_⟩)
    walk_at "rd"
    rw [show ((i + 1 : Nat) : Int) + 1 = ((i + 2 : Nat) : Int) by omega, pqC, show i + 2 - (i + 1) = 1 by omega, ← List.drop_drop, hd]
    cases r with
    | nil =>
     rw [show List.take 1 (List.drop 1 [a]) = [] from rfl]
     walk_at "rd"
     refine ⟨aqq hl, by decide, by decide, fun d hd' => ?_, ?_⟩
     ·simp only [List.mem_cons, List.not_mem_nil, or_false] at hd'
      rw [hd']; exact ha
     rw [show signOfL [a] = V.non from rfl, if_pos rfl]
     exact aqW c1 g.aqh g.aqo (eqa fun d H' sm hx => k2 1 (by rw [hd]; show (if a ∈ fsF then _ else _) = _; rw [if_pos hf]) d H' (s1.trans sm.but) hx)
    | cons b r =>
     rw [show List.take 1 (List.drop 1 (a :: b :: r)) = [b] from rfl]
     have hd2 : t.drop (i + 1) = b :: r := by rw [← List.drop_drop, hd]; rfl
     obtain ⟨hib, _⟩ := jq0 hd2
     have hb := h128 b (List.mem_of_getElem? hib)
     walk_at "rd"
     refine ⟨aqq hl, by decide, by decide, fun d hd' => ?_, ?_⟩
     ·simp only [List.mem_cons, List.not_mem_nil, or_false] at hd'
      rcases hd' with rfl | rfl
      ·exact ha
      ·exact hb
     rw [show signOfL [a, b] = signOf a b from rfl, qqq]
     cases hs : sgO a b with
     | none =>
      rw [if_pos (show oV none = V.non from rfl)]
      exact aqW c1 g.aqh g.aqo (eqa fun d H' sm hx => k2 1 (by rw [hd]; show (if a ∈ fsF then _ else _) = _; rw [if_pos hf, hs]) d H' (s1.trans sm.but) hx)
     | some c =>
      rw [if_neg (by intro z; cases z)]
      refine aqT c1 ⟨p, t, i + 1, b, rfl, c1, hib, hl, fun H2 s2 c2 => k1 c 2 ?_ H2 (s1.trans s2) c2⟩
      rw [hd]
      show (if a ∈ fsF then _ else _) = _
      rw [if_pos hf, hs]
   ·rw [decide_eq_false hf, if_pos rfl]
    refine aqW hcur g.aqh g.aqo (eqa fun d H' sm hx => k2 0 ?_ d H' sm.but hx)
    rw [hd]
    cases r with
    | nil => show (if a ∈ fsF then _ else _) = _; rw [if_neg hf]
    | cons b r => show (if a ∈ fsF then _ else _) = _; rw [if_neg hf]
theorem kqJ (g : G K mg) : FnOk P w K mg base CX0 3 g.eqd g.dqh ["house", "door"] kqO := by
 refine g.fqR.ok hqi (fun vs H Q E h => ?_) (fun cdv A outer s H vs Q E hr h => ?_)
 ·obtain ⟨o, d, rfl, _⟩ := h; rfl
 ·obtain ⟨o, d, rfl, ho, hd, k⟩ := h
  refine ⟨_, (aqc (bqk (aqy fqb (pv 0) aqX (nomark _))
    (aqd (aqx aqs)) aqD)
   (aqQ (aqj (i := 2) hqi.nd rfl (Or.inl rfl) (cq6 (aqy fqb (pv 1) aqX (nomark _)) aqs (aqw (aqz (K := K) rfl) aqs (bqd iq1 rfl g.pqS nqV (aqa (pv 1) aqb)))))
   (aqd (aqx (aqw (aqz (K := K) rfl) (aqw (aqz (K := K) rfl) aqs (aqe (eqe g) (hr.mono (by decide)) rfl g.eqC g.dqG.kp g.eqE .nil pass0 (aqa (pv 0) aqb))) (pv 2)))))), ?_⟩
  have c1 : Str.ofString ":" = ⟨[58].toArray⟩ := by decide +kernel
  have c2 : Str.ofString "//" = ⟨[47, 47].toArray⟩ := by decide +kernel
  rw [c1, c2]
  walk_at "rd"
  cases o with
  | none =>
   cases d with
   | some i => exact absurd rfl (hd i rfl).2
   | none =>
    refine ite2 (fun _ => ?_) (fun z => absurd rfl z)
    exact k H (Same.refl _)
  | some l =>
   refine ite2 (fun z => absurd z (by simp [otV])) (fun _ => ?_)
   have hl := ho l rfl
   have w := iqj l
   refine ⟨fun σ H' => H' = H ∧ σ = [some (otV (some l)), some (itV d), some (.str ⟨(dooT d).toArray⟩)] ∧ (dooT d).length ≤ 6, ?_, ?_⟩
   ·cases d with
    | none => exact ite2 (fun _ => ⟨rfl, rfl, by decide⟩) (fun z => absurd rfl z)
    | some i =>
     have hi := (hd i rfl).1
     have hdl := oqf hi.1 hi.2
     refine ite2 (fun z => absurd z (by simp [itV])) (fun _ => ?_)
     refine ⟨i, rfl, lg hi.1 hi.2, aqq (by rw [oqE, cqV]; omega), rfl, ?_, ?_⟩
     ·rw [oqE, show (⟨#[58]⟩ : Str) = ⟨[58].toArray⟩ from rfl, kq3]
      simp [dooT]
     ·simp only [dooT, List.length_cons]; omega
   ·rintro σ H' ⟨rfl, rfl, hdl⟩
    walk_at "rd"
    show fqn [.str ⟨l.toArray⟩] H' _ _
    walk_at "rd"
    refine ⟨by omega, hl.2, fun H'' s'' => ?_⟩
    refine ⟨aqq (by omega), aqq (by omega), ?_⟩
    have := k H'' s''
    simpa [houT] using this
theorem mqL (g : G K mg) : FnOk P w K mg base CX0 3 g.fqQ g.eq1 ["way"] (mq2 K) := by
 refine g.hql.ok mqZ (fun vs H Q E h => ?_) (fun cdv A outer s H vs Q E hr h => ?_)
 ·obtain ⟨r, e, ss, p, q, rfl, _⟩ := h; rfl
 ·obtain ⟨r, e, ss, p, q, rfl, hp, hq, hs, hn, hl, k⟩ := h
  refine ⟨_, (aqd (aqx (aqe (pqa g) (hr.mono (by decide)) rfl g.mqI g.jqV.kp g.mqb .nil pass0 (aqa (aq5 (aqA (K := K) rfl) (pv 0) (aqB (v := rqm) rfl g.oqx ⟨_, rfl⟩) (fun _ _ => rfl)) (aqa (lqO (fx := []) (fr := []) rfl rfl (by decide +kernel) rfl (by decide +kernel) rfl (by decide +kernel) rfl .nil rfl (pqw (K := K) rfl (aq5 (aqA (K := K) rfl) (pv 0) (aqB (v := tqm) rfl g.qqD ⟨_, rfl⟩) (fun _ _ => rfl))) (fun _ _ _ => mqA) (fun _ _ _ => (aqe (eqe g) (hr.mono (by decide)) rfl g.eqC g.dqG.kp g.eqE .nil pass0 (aqa (pv 0) aqb)))) (aqa (aq5 (aqA (K := K) rfl) (pv 0) (aqB (v := xqa) rfl g.sqL ⟨_, rfl⟩) (fun _ _ => rfl)) aqb)))))), ?_⟩
  walk_at "rd"
  refine ⟨_, _, .inr hp, rfl, ?_⟩
  refine ⟨_, _, .inr hp, rfl, q, rfl, ⟨_, hq⟩, fun p1 hn1 => ?_⟩
  refine qqO (zs := (ss.map wr).map fun l => V.str ⟨l.toArray⟩) hq (by rw [List.length_map]; exact aqq (by omega)) hn1 (by simp) (fun i x z hx hz H' T sm hT => ?_) (fun H' sm hp' => ?_)
  ·rw [List.getElem?_map] at hx hz
   rw [List.getElem?_map] at hz
   obtain ⟨s, hs', rfl⟩ := Option.map_eq_some_iff.mp hx
   rw [hs'] at hz
   simp only [Option.map_some, Option.some.injEq] at hz
   subst hz
   have hss := hs s (List.mem_of_getElem? hs')
   walk_at "rd"
   exact ⟨hss.1, hss.2, hT⟩
  ·refine ⟨_, _, .inr (sm.tup hp), rfl, ?_⟩
   have hw : (joinT 47 (ss.map wr)).length ≤ 90000 := by
    have := hl
    unfold wayT at this
    simp only [List.length_append] at this
    omega
   refine ⟨r, e, p1, ss.map wr, rfl, .of hp', hw, ?_⟩
   rw [← vqe]
   exact k H' sm
theorem kqI (g : G K mg) : FnOk P w K mg base CX0 3 g.dq5 g.dqk ["name", "value"] kqT := by
 refine g.fqx.ok kqL (fun vs H Q E h => ?_) (fun cdv A outer s H vs Q E hr h => ?_)
 ·obtain ⟨n, o, rfl, _⟩ := h; rfl
 ·obtain ⟨n, o, rfl, hk, hn, ho, k⟩ := h
  refine ⟨_, (aqd (aqx (cq6 (aqy fqb (pv 1) aqX (nomark _)) (aqe (eqe g) (hr.mono (by decide)) rfl g.eqC g.dqG.kp g.eqE .nil pass0 (aqa (pv 0) aqb)) (aqw (aqz (K := K) rfl) (aqw (aqz (K := K) rfl) (aqe (eqe g) (hr.mono (by decide)) rfl g.eqC g.dqG.kp g.eqE .nil pass0 (aqa (pv 0) aqb)) aqs) (aqe (eqe g) (hr.mono (by decide)) rfl g.eqC g.dqG.kp g.eqE .nil pass0 (aqa (pv 1) aqb)))))), ?_⟩
  have c1 : Str.ofString "=" = ⟨[61].toArray⟩ := by decide +kernel
  rw [c1]
  have w1 := iqj n
  walk_at "rd"
  cases o with
  | none =>
   refine ite2 (fun _ => ?_) (fun z => absurd rfl z)
   refine ⟨hn, hk.1.2, fun H' s' => ?_⟩
   rw [show pairT (n, none) = wr n by simp [pairT, oT]] at k
   exact k H' s'
  | some l =>
   refine ite2 (fun z => absurd z (by simp [otV])) (fun _ => ?_)
   have hll := ho l rfl
   have w2 := iqj l
   rw [show pairT (n, some l) = wr n ++ [61] ++ wr l by simp [pairT, oT]] at k
   refine ⟨hn, hk.1.2, fun H' s' => ?_⟩
   refine ⟨aqq (by simp; omega), ?_⟩
   show fqn [.str ⟨l.toArray⟩] H' _ _
   walk_at "rd"
   refine ⟨hll, hk.2 l rfl, fun H'' s'' => ⟨aqq (by simp; omega), k H'' (s'.trans s'')⟩⟩
theorem lqM (g : G K mg) : FnOk P w K mg base CX0 3 g.eq8 g.eqb ["mark"] lqo := by
 refine g.gqb.ok lqU (fun vs H Q E h => ?_) (fun cdv A outer s H vs Q E hr h => ?_)
 ·obtain ⟨o, rfl, _⟩ := h; rfl
 ·obtain ⟨o, rfl, ho, k⟩ := h
  refine ⟨_, (aqd (aqx (cq6 (aqy fqb (pv 0) aqX (nomark _)) aqs (aqw (aqz (K := K) rfl) aqs (aqe (eqe g) (hr.mono (by decide)) rfl g.eqC g.dqG.kp g.eqE .nil pass0 (aqa (pv 0) aqb)))))), ?_⟩
  have c1 : Str.ofString "#" = ⟨[35].toArray⟩ := by decide +kernel
  rw [c1]
  walk_at "rd"
  cases o with
  | none => exact ite2 (fun _ => k H (Same.refl _)) (fun z => absurd rfl z)
  | some l =>
   refine ite2 (fun z => absurd z (by simp [otV])) (fun _ => ?_)
   have hl := ho l rfl
   have w := iqj l
   show fqn [.str ⟨l.toArray⟩] H _ _
   rw [show (⟨#[35]⟩ : Str) = ⟨[35].toArray⟩ from rfl]
   walk_at "rd"
   refine ⟨hl.1, hl.2, fun H' s' => ⟨aqq (by omega), ?_⟩⟩
   exact k H' s'
theorem lqQ (g : G K mg) : FnOk P w K mg base CX0 3 g.eqO g.dqV ["_law_deck_here"] lqX := by
 refine g.gqt.ok cqg (fun vs H Q E h => ?_) (fun cdv A outer s H vs Q E hr h => ?_)
 ·obtain ⟨p, n, rfl, _⟩ := h; rfl
 ·obtain ⟨p, n, rfl, hd, hn, k⟩ := h
  refine ⟨_, (aqc (aqj (i := 1) cqg.nd rfl (Or.inl rfl) (aq5 (aqA (K := K) rfl) (hqg (aqa (aqe (aqk g) (hr.mono (by decide)) rfl g.aqp g.aqm.kp g.aqr .nil pass0 (aqa (pv 0) (aqa aqf aqb))) (aqa aqf aqb))) (bqd eqj rfl g.kql hqb (aqa (bqa fq5 (aqe (aqk g) (hr.mono (by decide)) rfl g.aqp g.aqm.kp g.aqr .nil pass0 (aqa (pv 0) (aqa aqf aqb))) aqf (nomark _)) aqb)) (fun _ _ => rfl)))
   (aqc (aqj (i := 2) cqg.nd rfl (Or.inl rfl) (hqg aqb))
   (aqc (kqx PassesOwn.never rfl (eqk rfl g.gqe (aqa (pv 1) aqb)) (bqN (i := 3) cqg.nd rfl (Or.inl rfl))
   (aqc (aqj (i := 4) cqg.nd rfl (Or.inl rfl) (aqw (aqz (K := K) rfl) aqf (aqe (aqk g) (hr.mono (by decide)) rfl g.aqp g.aqm.kp g.aqr .nil pass0 (aqa (pv 0) (aqa aqf aqb)))))
   (aqQ (bqk (PW.pt (hqc (aqy qqN (pv 1) aqf (nomark _)) (hqc (aqy fq5 (pv 3) aqf (nomark _)) (fq8 (aqy fq5 (aqe (aqk g) (hr.mono (by decide)) rfl g.aqp g.aqm.kp g.aqr .nil pass0 (aqa (pv 0) (aqa aqf aqb))) aqf (nomark _))))))
    (aqd (aqj (i := 4) cqg.nd rfl (Or.inl rfl) (aqw (aqz (K := K) rfl) aqf (aqe (aqk g) (hr.mono (by decide)) rfl g.aqp g.aqm.kp g.aqr .nil pass0 (aqa (pv 0) (aqa aqf aqb)))))) aqD)
   (aqd (gqu (dqB (K := K) rfl PySem.F.plainAttrs_list PySem.F.slot_list_append PySem.F.type_list_append dqD (pv 2) (aqa (aqe (dqt g) (hr.mono (by decide)) rfl g.dqe g.cqF.kp g.dqc .nil pass0 (aqa (pv 0) (aqa (pv 4) aqb))) aqb)))))))
   (aqd (aqx (bqd (kqz (K := K) rfl) rfl g.kqm jqr (aqa (pv 2) aqb))))))), ?_⟩
  walk_at "rd"
  refine ⟨p, 6, n, rfl, hd, by omega, by decide, by decide, fun r H2 hr0 hr1 hd2 sb2 => ?_⟩
  walk_at "rd"
  refine ⟨by decide, fun q hq => ?_⟩
  refine ⟨p, 8, n + 1, rfl, hd2.same (bqp hq), by omega, by decide, by decide, fun r2 H3 h20 h21 hd3 sb3 => ?_⟩
  have hq3 := sb3 q _ (hd2.ne hq) aqg
  have sb4 : SameBut p H H3 := sb2.trans ((Same.but (bqp hq)).trans sb3)
  walk_at "rd"
  obtain ⟨m, hm, hm40⟩ : ∃ m : Nat, atI [V.int r, V.int 40] (if r2 = 5 then 1 else 0) = some (.int m) ∧ m ≤ 40 := by
   by_cases h : r2 = 5
   ·exact ⟨40, by rw [if_pos h]; exact aqI (j := 1) rfl, by omega⟩
   ·refine ⟨r.toNat, ?_, by omega⟩
    rw [if_neg h, Int.toNat_of_nonneg hr0]
    exact aqI (j := 0) rfl
  refine ⟨_, _, .inl (SqL.of hq3), hm, by decide, fun q2 hq2 => ⟨m, rfl, by omega, by omega, ?_⟩⟩
  have hqp := hd3.ne hq2
  have hq20 : H q2 = none := sb4.free hq2 hqp
  rw [Int.toNat_natCast]
  clear hq3 hm hd2 sb2 sb3
  refine eqf (fun i σ H' => ∃ (ss : List (List Nat)) (v3 v4 : Option V), σ = [some (.ref p), some (.int m), some (.ref q2), v3, v4] ∧ ss.length = i ∧ (∀ l ∈ ss, 0 < l.length ∧ Tx 60 l) ∧ sumL ss ≤ capS m i ∧ H' q2 = some (.lst (ss.map fun z => V.str ⟨z.toArray⟩)) ∧ Deck H' p (n + 2 + 64 * i) ∧ SameBut p H H') ⟨[], none, none, rfl, rfl, by simp, Nat.zero_le _, aqg, hd3.upd hqp, sb4.upd hq20⟩ ?_ ?_
  ·rintro i σ H' hi ⟨ss, v3, v4, rfl, hl, hs, hsum, hq', hdk, sb⟩
   walk_at "rd"
   refine ⟨p, 6, _, rfl, hdk, by omega, by decide, by decide, fun r3 H4 h30 h31 hd4 sb5 => ?_⟩
   have hq4 := sb5 q2 _ hqp hq'
   walk_at "rd"
   refine ⟨fun σ H5 => ∃ z : Nat, σ = [some (.ref p), some (.int m), some (.ref q2), some (.int (0 + (i : Int))), some (.int (z : Int))] ∧ 1 ≤ z ∧ z ≤ 60 ∧ zOk m i z ∧ H5 q2 = some (.lst (ss.map fun z => V.str ⟨z.toArray⟩)) ∧ Deck H5 p (n + 2 + 64 * i + 3) ∧ SameBut p H H5, ?_, ?_⟩
   ·have stay : ∀ H5, Deck H5 p (n + 2 + 64 * i + 1 + 1) → SameBut p H4 H5 → ∃ z : Nat, [some (V.ref p), some (V.int m), some (.ref q2), some (.int (0 + (i : Int))), some (.int (1 + r3))] = [some (V.ref p), some (.int m), some (.ref q2), some (.int (0 + (i : Int))), some (.int (z : Int))] ∧ 1 ≤ z ∧ z ≤ 60 ∧ zOk m i z ∧ H5 q2 = some (.lst (ss.map fun z => V.str ⟨z.toArray⟩)) ∧ Deck H5 p (n + 2 + 64 * i + 3) ∧ SameBut p H H5 := fun H5 hd5 sb6 =>
     ⟨(1 + r3).toNat, by rw [Int.toNat_of_nonneg (by omega)], by omega, by omega, .inl (by omega), sb6 q2 _ hqp hq4, hd5.le (by omega), (sb.trans sb5).trans sb6⟩
    refine ite2 (fun h1 => ite2 (fun h2 => ?_) (fun h2 => stay H4 (hd4.le (by omega)) (SameBut.refl _ _))) (fun h1 => stay H4 (hd4.le (by omega)) (SameBut.refl _ _))
    refine ⟨p, 8, _, rfl, hd4, by omega, by decide, by decide, fun r4 H5 h40 h41 hd5 sb6 => ?_⟩
    walk_at "rd"
    refine ite2 (fun h3 => ?_) (fun h3 => by obtain ⟨z, h, r⟩ := stay H5 hd5 sb6; exact ⟨z, by simpa using h, r⟩)
    refine ⟨p, 60, _, rfl, hd5, by omega, by decide, by decide, fun r5 H6 h50 h51 hd6 sb7 => ?_⟩
    walk_at "rd"
    exact ⟨(1 + r5).toNat, by rw [Int.toNat_of_nonneg (by omega)], by omega, by omega, .inr ⟨by omega, by omega⟩, sb7 q2 _ hqp (sb6 q2 _ hqp hq4), hd6, ((sb.trans sb5).trans sb6).trans sb7⟩
   ·rintro σ H5 ⟨z, rfl, hz1, hz2, hzo, hq5, hd5, sb6⟩
    walk_at "rd"
    refine ⟨⟨_, SqL.of hq5⟩, p, z, _, rfl, hd5, by omega, by omega, fun l H6 hl6 hs6 hd6 sb7 => ?_⟩
    have hq6 := sb7 q2 _ hqp hq5
    walk_at "rd"
    refine ⟨_, hq6, by rw [List.length_map]; exact Nat.lt_of_le_of_lt (show ss.length ≤ 40 by omega) (by decide), ss ++ [l], _, _, ⟨rfl, rfl⟩, by rw [List.length_append, List.length_singleton, hl], fun e he => ?_, sqi hsum hzo hl hl6 hz2, by rw [aqg, List.map_append]; rfl, (hd6.upd hqp).le (by omega), (sb6.trans sb7).upd hq20⟩
    rcases List.mem_append.mp he with y | y
    ·exact hs e y
    ·rw [List.mem_singleton.mp y]; exact ⟨by omega, by omega, hs6⟩
  ·rintro σ H' ⟨ss, v3, v4, rfl, hl, hs, hsum, hq', hdk, sb⟩
   walk_at "rd"
   refine ⟨_, .inl ⟨SqL.of hq', fun l hl' => ?_⟩⟩
   have hlp := hdk.ne hl'
   exact k ss _ _ (by omega) hs (Nat.le_trans hsum (vqP hm40)) ((hdk.upd hlp).le (by omega)) (sb.upd (sb.free hl' hlp)) (.tup aqg (IsTAll.strs ss))
theorem jqk (g : G K mg) : FnOk P w K mg base CX0 3 g.cqT g.cqs ["_law_deck_here"] jqb := by
 refine g.eqz.ok aqZ (fun vs H Q E h => ?_) (fun cdv A outer s H vs Q E hr h => ?_)
 ·obtain ⟨p, n, rfl, _⟩ := h; rfl
 ·obtain ⟨p, n, rfl, hd, hn, k⟩ := h
  refine ⟨_, (aqc (bqk (aqy fq5 (aqe (aqk g) (hr.mono (by decide)) rfl g.aqp g.aqm.kp g.aqr .nil pass0 (aqa (pv 0) (aqa aqf aqb))) aqf (nomark _))
    (aqd (aqx aqX)) aqD)
   (aqc (aqj (i := 1) aqZ.nd rfl (Or.inl rfl) (aq5 (aqA (K := K) rfl) (hqg (aqa (aqe (aqk g) (hr.mono (by decide)) rfl g.aqp g.aqm.kp g.aqr .nil pass0 (aqa (pv 0) (aqa aqf aqb))) (aqa aqf aqb))) (bqd eqj rfl g.kql hqb (aqa (bqa fq5 (aqe (aqk g) (hr.mono (by decide)) rfl g.aqp g.aqm.kp g.aqr .nil pass0 (aqa (pv 0) (aqa aqf aqb))) aqf (nomark _)) aqb)) (fun _ _ => rfl)))
   (aqc (aqj (i := 2) aqZ.nd rfl (Or.inl rfl) (hqg aqb))
   (aqc (kqx PassesOwn.never rfl (eqk rfl g.gqe (aqa (pv 1) aqb)) (bqN (i := 3) aqZ.nd rfl (Or.inl rfl))
   (aqc (aqj (i := 4) aqZ.nd rfl (Or.inl rfl) (aqe (dqt g) (hr.mono (by decide)) rfl g.dqe g.cqF.kp g.dqc .nil pass0 (aqa (pv 0) (aqa (aqw (aqz (K := K) rfl) aqf (aqe (aqk g) (hr.mono (by decide)) rfl g.aqp g.aqm.kp g.aqr .nil pass0 (aqa (pv 0) (aqa aqf aqb)))) aqb))))
   (aqc (aqj (i := 5) aqZ.nd rfl (Or.inl rfl) aqX)
   (aqQ (bqk (aqy kqb (aqe (aqk g) (hr.mono (by decide)) rfl g.aqp g.aqm.kp g.aqr .nil pass0 (aqa (pv 0) (aqa aqf aqb))) aqf (nomark _))
    (aqd (aqj (i := 5) aqZ.nd rfl (Or.inl rfl) (aqe (dqt g) (hr.mono (by decide)) rfl g.dqe g.cqF.kp g.dqc .nil pass0 (aqa (pv 0) (aqa (aqe (aqk g) (hr.mono (by decide)) rfl g.aqp g.aqm.kp g.aqr .nil pass0 (aqa (pv 0) (aqa aqf aqb))) aqb))))) aqD)
   (aqd (gqu (dqB (K := K) rfl PySem.F.plainAttrs_list PySem.F.slot_list_append PySem.F.type_list_append dqD (pv 2) (aqa (oqR (aqa (pv 4) (aqa (pv 5) aqb))) aqb))))))))
   (aqd (aqx (bqd (kqz (K := K) rfl) rfl g.kqm jqr (aqa (pv 2) aqb)))))))), ?_⟩
  walk_at "rd"
  refine ⟨p, 3, n, rfl, hd, by omega, by decide, by decide, fun r H2 hr0 hr1 hd2 sb2 => ?_⟩
  walk_at "rd"
  refine ite2 (fun h => k none _ _ (fun _ z => by cases z) (hd2.le (by omega)) sb2 .non) (fun h => ?_)
  refine ⟨p, 5, _, rfl, hd2, by omega, by decide, by decide, fun r1 H1 hr10 hr11 hd1 sb1 => ?_⟩
  refine ⟨by decide, fun q hq => ?_⟩
  refine ⟨p, 8, _, rfl, hd1.same (bqp hq), by omega, by decide, by decide, fun r2 H3 h20 h21 hd3 sb3 => ?_⟩
  have hq3 := sb3 q _ (hd1.ne hq) aqg
  have sb4 : SameBut p H H3 := (sb2.trans sb1).trans ((Same.but (bqp hq)).trans sb3)
  walk_at "rd"
  obtain ⟨m, hm, hm40⟩ : ∃ m : Nat, atI [V.int r1, V.int 20] (if r2 = 5 then 1 else 0) = some (.int m) ∧ m ≤ 20 := by
   by_cases h : r2 = 5
   ·exact ⟨20, by rw [if_pos h]; exact aqI (j := 1) rfl, by omega⟩
   ·refine ⟨r1.toNat, ?_, by omega⟩
    rw [if_neg h, Int.toNat_of_nonneg hr10]
    exact aqI (j := 0) rfl
  refine ⟨_, _, .inl (SqL.of hq3), hm, by decide, fun q2 hq2 => ⟨m, rfl, by omega, by omega, ?_⟩⟩
  have hqp := hd3.ne hq2
  have hq20 : H q2 = none := sb4.free hq2 hqp
  rw [Int.toNat_natCast]
  clear hq3 hm hd2 sb2 sb3 hd1 sb1
  refine eqf (fun i σ H' => ∃ (ps : List (List Nat × Option (List Nat))) (ys : List V) (v3 v4 v5 : Option V), σ = [some (.ref p), some (.int m), some (.ref q2), v3, v4, v5] ∧ ps.length = i ∧ (∀ p ∈ ps, (0 < p.1.length ∧ Tx 6 p.1) ∧ ∀ v, p.2 = some v → Tx 6 v) ∧ H' q2 = some (.lst ys) ∧ IsTAll H' (ps.map fun p => .tuple [st p.1, oD p.2]) ys ∧ Deck H' p (n + 3 + 64 * i) ∧ SameBut p H H')
   ⟨[], [], none, none, none, rfl, rfl, by simp, aqg, .nil, (hd3.upd hqp).le (by omega), sb4.upd hq20⟩ ?_ ?_
  ·rintro i σ H' hi ⟨ps, ys, v3, v4, v5, rfl, hl, hs, hq', hys, hdk, sb⟩
   walk_at "rd"
   refine ⟨p, 6, _, rfl, hdk, by omega, by decide, by decide, fun r3 H4 h30 h31 hd4 sb5 => ?_⟩
   have hq4 := sb5 q2 _ hqp hq'
   have hy4 := hys.mono (hdk.toT sb5)
   walk_at "rd"
   refine ⟨p, (1 + r3).toNat, _, by rw [Int.toNat_of_nonneg (by omega)], hd4, by omega, by omega, fun l H5 hl5 hs5 hd5 sb6 => ?_⟩
   have hq5 := sb6 q2 _ hqp hq4
   have hy5 := hy4.mono (hd4.toT sb6)
   walk_at "rd"
   refine ⟨fun σ H6 => ∃ o : Option (List Nat), σ = [some (.ref p), some (.int m), some (.ref q2), some (.int (0 + (i : Int))), some (.str ⟨l.toArray⟩), some (otV o)] ∧ (∀ v, o = some v → Tx 6 v) ∧ H6 q2 = some (.lst ys) ∧ IsTAll H6 (ps.map fun p => .tuple [st p.1, oD p.2]) ys ∧ Deck H6 p (n + 3 + 64 * i + 30) ∧ SameBut p H H6, ?_, ?_⟩
   ·refine ⟨p, 3, _, rfl, hd5, by omega, by decide, by decide, fun r6 H6 h60 h61 hd6 sb7 => ?_⟩
    have hq6 := sb7 q2 _ hqp hq5
    have hy6 := hy5.mono (hd5.toT sb7)
    walk_at "rd"
    refine ite2 (fun h6 => ?_) (fun h6 => ⟨none, rfl, (fun _ z => by cases z), hq6, hy6, hd6.le (by omega), ((sb.trans sb5).trans sb6).trans sb7⟩)
    refine ⟨p, 7, _, rfl, hd6, by omega, by decide, by decide, fun r7 H7 h70 h71 hd7 sb8 => ?_⟩
    have hq7 := sb8 q2 _ hqp hq6
    have hy7 := hy6.mono (hd6.toT sb8)
    refine ⟨p, r7.toNat, _, by rw [Int.toNat_of_nonneg (by omega)], hd7, by omega, by omega, fun l2 H8 hl8 hs8 hd8 sb9 => ?_⟩
    exact ⟨some l2, rfl, (fun v z => by cases z; exact ⟨by omega, hs8⟩), sb9 q2 _ hqp hq7, hy7.mono (hd7.toT sb9), hd8.le (by omega), ((((sb.trans sb5).trans sb6).trans sb7).trans sb8).trans sb9⟩
   ·rintro σ H6 ⟨o, rfl, ho, hq6, hy6, hd6, sb7⟩
    walk_at "rd"
    refine ⟨⟨_, SqL.of hq6⟩, by decide, fun t ht => ?_⟩
    have htq : q2 ≠ t := aql hq6 ht
    have htp := hd6.ne ht
    have hy7 := hys.length
    rw [List.length_map] at hy7
    refine ⟨ys, by rw [aqv htq]; exact hq6, Nat.lt_of_le_of_lt (show ys.length ≤ 40 by omega) (by decide), ps ++ [(l, o)], ys ++ [.ref t], _, _, _, ⟨rfl, rfl, rfl⟩, by rw [List.length_append, List.length_singleton, hl], fun e he => ?_, aqg, ?_, ((hd6.upd htp).upd hqp).le (by omega), (sb7.upd (sb7.free ht htp)).upd hq20⟩
    ·rcases List.mem_append.mp he with y | y
     ·exact hs e y
     ·rw [List.mem_singleton.mp y]
      exact ⟨⟨by show 0 < l.length; omega, by show l.length ≤ 6; omega, hs5⟩, ho⟩
    ·rw [List.map_append]
     have s1 : SameT H6 (upd (upd H6 t (.tup [V.str ⟨l.toArray⟩, otV o])) q2 (.lst (ys ++ [.ref t]))) := (iqi ht).trans (mq5 (xs := ys) (by rw [aqv htq]; exact hq6))
     refine (hy6.mono s1).snoc (.tup (xs := [V.str ⟨l.toArray⟩, otV o]) (by rw [aqv htq.symm, aqg]) (.cons (.str _) (.cons ?_ .nil)))
     cases o with
     | none => exact .non
     | some x => exact .str _
  ·rintro σ H' ⟨ps, ys, v3, v4, v5, rfl, hl, hs, hq', hys, hdk, sb⟩
   walk_at "rd"
   refine ⟨_, .inl ⟨SqL.of hq', fun l hl' => ?_⟩⟩
   have hlp := hdk.ne hl'
   exact k (some ps) _ _ (fun ps' z => by cases z; exact ⟨by omega, hs⟩) ((hdk.upd hlp).le (by omega)) (sb.upd (sb.free hl' hlp)) (.tup aqg (hys.mono (iqi hl')))
theorem cqQ (g : G K mg) : FnOk P w K mg base CX0 3 g.eqL g.dqW ["_law_text", "_law_free", "_law_cell"] lqR := by
 refine g.bqV.ok aq4 (fun vs H Q E h => ?_) (fun cdv A outer s H vs Q E hr h => ?_)
 ·obtain ⟨s, fr, i, rfl, _⟩ := h; rfl
 ·obtain ⟨s, fr, i, rfl, hl, hs, hfl, hf, k⟩ := h
  refine ⟨_, (aqc (aqj (i := 3) aq4.nd rfl (Or.inl rfl) aqs)
   (aqc (kqx PassesOwn.never rfl (eqk rfl g.gqe (aqa (aqO (bqJ (K := K) rfl) rfl g.iqI PySem.boot_len (aqa (pv 0) aqb)) aqb)) (bqN (i := 4) aq4.nd rfl (Or.inl rfl))
   (aqc (aqj (i := 5) aq4.nd rfl (Or.inl rfl) (aqw eqQ (aqw cqA (aqw (aqz (K := K) rfl) (aqw (aqz (K := K) rfl) (pv 2) (aqw cqA (aqw cqA aqf (pv 4)) (pv 4))) (pv 4)) aqf) aqf))
   (aqc (aqj (i := 5) aq4.nd rfl (Or.inl rfl) (aqw hqm (aqw eqQ (aqw cqA (pv 5) (aqw (aqz (K := K) rfl) (pv 5) aqf)) aqf) aqf))
   (aqQ (aqj (i := 6) aq4.nd rfl (Or.inl rfl) (aq5 (aqA (K := K) rfl) (pv 0) (pv 4) (fun _ _ => rfl)))
   (aqd (bqk (PW.pt (hqc (PW.pt (lq0 (bqr (aqe (lq8 g) (hr.mono (by decide)) rfl g.iqN g.gqM.kp g.iq4 .nil pass0 (aqa (pv 6) aqb))) (jqK (aqy jqF (pv 6) (pv 1) (by with_unfolding_all rfl))))) (fq8 (aqy kqb (aqw eqQ (pv 5) aqf) aqf (nomark _)))))
    (aqd (aqj (i := 3) aq4.nd rfl (Or.inl rfl) (aqw (aqz (K := K) rfl) (pv 3) (pv 6)))) (aqd (bqk (aqy fq5 (aqw eqQ (aqw hqm (pv 5) aqf) aqf) aqf (nomark _))
    (aqd (aqj (i := 3) aq4.nd rfl (Or.inl rfl) (aqw (aqz (K := K) rfl) (aqw (aqz (K := K) rfl) (pv 3) aqs) (aqe (jqI g) (hr.mono (by decide)) rfl g.iqv g.gqR.kp g.iqG .nil pass0 (aqa (pv 6) aqb))))) (aqd (aqj (i := 3) aq4.nd rfl (Or.inl rfl) (aqw (aqz (K := K) rfl) (aqw (aqz (K := K) rfl) (pv 3) aqs) (qqz (K := K) rfl PySem.F.plainAttrs_str PySem.F.slot_str_upper PySem.F.type_str_upper rq5 (aqe (jqI g) (hr.mono (by decide)) rfl g.iqv g.gqR.kp g.iqG .nil pass0 (aqa (pv 6) aqb))))))))))))))
   (aqd (aqx (pv 3))))), ?_⟩
  walk_at "rd"
  refine ⟨aqq (by omega), by omega, by omega, ?_⟩
  rw [Int.toNat_natCast]
  refine eqf (fun j σ H' => H' = H ∧ ∃ (w : List Nat) (v4 v5 v6 : Option V), σ = [some (.str ⟨s.toArray⟩), some (.str ⟨fr.toArray⟩), some (.int i), some (.str ⟨w.toArray⟩), v4, v5, v6] ∧ WrT fr (s.take j) w ∧ w.length ≤ 3 * j) ⟨rfl, [], none, none, none, rfl, .nil, Nat.zero_le _⟩ ?_ ?_
  ·rintro j σ H' hj ⟨rfl, w, v4, v5, v6, rfl, hw, hwl⟩
   have hcj : s[j]? = some s[j] := List.getElem?_eq_getElem hj
   have hc := hs _ (List.mem_of_getElem? hcj)
   generalize s[j] = c at hcj hc
   have hc' := cqk hc
   have et : s.take (j + 1) = s.take j ++ [c] := by rw [List.take_add_one, hcj]; rfl
   walk_at "rd"
   have h1 := Int.emod_nonneg ((i + 31 * (0 + (j : Int)) * (0 + (j : Int)) + (0 + (j : Int))) * 69621) (show (2147483629 : Int) ≠ 0 by decide)
   have h2 := Int.emod_lt_of_pos ((i + 31 * (0 + (j : Int)) * (0 + (j : Int)) + (0 + (j : Int))) * 69621) (show (0 : Int) < 2147483629 by decide)
   refine ⟨.inl ⟨by decide, by decide⟩, .inr ⟨by omega, by omega⟩, .inr ⟨by decide, by decide⟩, by decide, .inl ⟨by omega, by omega⟩, by decide, ⟨by decide, by decide⟩, ?_⟩
   refine ⟨fun σ H2 => H2 = H' ∧ ∃ n : Int, σ = [some (.str ⟨s.toArray⟩), some (.str ⟨fr.toArray⟩), some (.int i), some (.str ⟨w.toArray⟩), some (.int (0 + (j : Int))), some (.int n), some (.str ⟨#[c]⟩)], ⟨c, aqq (by omega), by rw [Int.zero_add]; exact aqI hcj, rfl, _, rfl⟩, ?_⟩
   rintro σ H2 ⟨rfl, n, rfl⟩
   have hself : (isPl c = true ∨ c ∈ fr) → ∃ (w' : List Nat) (v4 v5 v6 : Option V), (({ cps := (w ++ [c]).toArray } : Str) = { cps := w'.toArray } ∧ some (V.int (0 + (j : Int))) = v4 ∧ some (V.int n) = v5 ∧ some (V.str { cps := #[c] }) = v6) ∧ WrT fr (List.take (j + 1) s) w' ∧ w'.length ≤ 3 * (j + 1) := fun hp => by
    refine ⟨w ++ [c], _, _, _, ⟨rfl, rfl, rfl, rfl⟩, ?_, by rw [List.length_append, List.length_singleton]; omega⟩
    rw [et]
    refine pq1 hw (.self hp ?_ .nil)
    rintro rfl
    rcases hp with z | z
    ·rw [wqd] at z; cases z
    ·exact hf z
   have hpair : ∀ a b : Nat, sgO a b = some c → ∃ (w' : List Nat) (v4 v5 v6 : Option V), (({ cps := (w ++ [126] ++ [a, b]).toArray } : Str) = { cps := w'.toArray } ∧ some (V.int (0 + (j : Int))) = v4 ∧ some (V.int n) = v5 ∧ some (V.str { cps := #[c] }) = v6) ∧ WrT fr (List.take (j + 1) s) w' ∧ w'.length ≤ 3 * (j + 1) := fun a b hab => by
    refine ⟨w ++ [126] ++ [a, b], _, _, _, ⟨rfl, rfl, rfl, rfl⟩, ?_, by simp; omega⟩
    rw [et, List.append_assoc]
    exact pq1 hw (.pair hab .nil)
   have hx128 : ∀ d : Nat, d ∈ [hexd (c / 16), hexd (c % 16)] → d < 128 := fun d hd => by
    simp only [List.mem_cons, List.not_mem_nil, or_false] at hd
    rcases hd with rfl | rfl
    ·exact nq6 _ (by omega)
    ·exact nq6 _ (by omega)
   have wl : w.length + 1 ≤ sizeLine := aqq (by omega)
   have wl2 : (w ++ [126]).length + 2 ≤ sizeLine := aqq (by rw [List.length_append, List.length_singleton]; omega)
   walk_at "rd"
   refine ⟨by omega, ite2 (fun h => ⟨by decide, ite2 (fun _ => ⟨wl, hself (.inl h)⟩) (fun _ => ⟨⟨by decide, by decide⟩, by decide, ite2 (fun _ => ⟨wl, hc, wl2, hpair _ _ (lq6 hc)⟩) (fun _ => ⟨wl, hc, hx128, by decide, wl2, hpair _ _ (qql hc)⟩)⟩)⟩) (fun h => ?_)⟩
   refine ite2 (fun h => ⟨by decide, ite2 (fun _ => ⟨wl, hself (.inr h)⟩) (fun _ => ⟨⟨by decide, by decide⟩, by decide, ite2 (fun _ => ⟨wl, hc, wl2, hpair _ _ (lq6 hc)⟩) (fun _ => ⟨wl, hc, hx128, by decide, wl2, hpair _ _ (qql hc)⟩)⟩)⟩) (fun h => ?_)
   exact ⟨⟨by decide, by decide⟩, by decide, ite2 (fun _ => ⟨wl, hc, wl2, hpair _ _ (lq6 hc)⟩) (fun _ => ⟨wl, hc, hx128, by decide, wl2, hpair _ _ (qql hc)⟩)⟩
  ·rintro σ H' ⟨rfl, w, v4, v5, v6, rfl, hw, hwl⟩
   walk_at "rd"
   rw [List.take_length] at hw
   exact k w hw hwl
theorem kqw (g : G K mg) : FnOk P w K mg base CX0 4 g.dqi g.cqU ["cursor"] (kqq K g.aqu) := by
 refine g.fqc.ok gql (fun vs H Q E h => ?_) (fun cdv A outer s H vs Q E hr h => ?_)
 ·obtain ⟨p, t, rfl, _⟩ := h; rfl
 ·obtain ⟨p, t, rfl, hcur, hl, k⟩ := h
  refine ⟨_, (aqc (aqj (i := 1) gql.nd rfl (Or.inl rfl) (aq5 (aqA (K := K) rfl) (dqB (K := K) rfl PySem.F.plainAttrs_str PySem.F.slot_str_partition PySem.F.type_str_partition nqn (cqp (pv 0) rfl) (aqa aqs aqb)) aqf (fun _ _ => rfl)))
   (aqc (bqk (PW.pt (lq0 (aqy fq5 (pv 1) aqs (nomark _)) (lq0 (eq6 (bqr (aqe (nqm g) (hr.mono (by decide)) rfl g.kqg g.hqn.kp g.jqw .nil pass0 (aqa (pv 1) aqb)))) (jqK (eq6 (bqr (cqP (pv 0) g.aqh g.aqE (aqL g) (hr.mono (by decide)) g.aqK .nil pass0 (aqa (aqw (aqz (K := K) rfl) (pv 1) aqs) aqb))))))))
    (aqd (aqx aqs)) aqD)
   (aqd (aqx (pv 1))))), ?_⟩
  have e1 : Str.ofString ":" = ⟨[58].toArray⟩ := by decide +kernel
  rw [e1]
  walk_at "rd"
  refine fqu hcur g.aqh g.aq3 ⟨rfl, sqK.mpr ⟨by decide, aqq (show t.length ≤ 100000 by omega), fun q hq => ?_⟩⟩
  rw [show (⟨#[58]⟩ : Str) = ⟨[58].toArray⟩ from rfl, oq6]
  have sm1 := cq0 (o := .tup [.str ⟨(ahead t).toArray⟩, .str (Txt.partition ⟨t.toArray⟩ ⟨[58].toArray⟩).2.1, .str (Txt.partition ⟨t.toArray⟩ ⟨[58].toArray⟩).2.2]) hq
  have hq1 : (upd H q (.tup [.str ⟨(ahead t).toArray⟩, .str (Txt.partition ⟨t.toArray⟩ ⟨[58].toArray⟩).2.1, .str (Txt.partition ⟨t.toArray⟩ ⟨[58].toArray⟩).2.2])) q = some (.tup [.str ⟨(ahead t).toArray⟩, .str (Txt.partition ⟨t.toArray⟩ ⟨[58].toArray⟩).2.1, .str (Txt.partition ⟨t.toArray⟩ ⟨[58].toArray⟩).2.2]) := aqg
  generalize upd H q (.tup [.str ⟨(ahead t).toArray⟩, .str (Txt.partition ⟨t.toArray⟩ ⟨[58].toArray⟩).2.1, .str (Txt.partition ⟨t.toArray⟩ ⟨[58].toArray⟩).2.2]) = H1 at sm1 hq1 ⊢
  have c1 := hcur.same sm1
  have hal := pq4 t
  walk_at "rd"
  refine ⟨_, _, .inr (.of hq1), rfl, ?_⟩
  rw [L2.iqy]
  refine ⟨_, rfl, ?_⟩
  by_cases h1 : ahead t = []
  ·rw [decide_eq_true (by rw [h1]), if_pos rfl]
   obtain ⟨z1, z2⟩ := fqP (t := t) (fun z => z.1 h1)
   have := k H1 sm1.but (by rw [z2]; exact c1)
   rw [z1] at this
   exact this
  rw [decide_eq_false (fun z => h1 (hqd.mp z)), if_neg (by decide)]
  refine ⟨.str ⟨(ahead t).toArray⟩, _, rfl, .str _, by simp [smallD, Str.length]; omega, fun H2 s2 => ⟨_, rfl, ?_⟩⟩
  have c2 := c1.same s2
  have sm2 := sm1.trans s2
  cases h2 : schD (.str ⟨(ahead t).toArray⟩) with
  | false =>
   rw [if_pos rfl]
   obtain ⟨z1, z2⟩ := fqP (t := t) (fun z => by rw [h2] at z; cases z.2.1)
   have := k H2 sm2.but (by rw [z2]; exact c2)
   rw [z1] at this
   exact this
  | true =>
   rw [if_neg (by decide)]
   refine aqT c2 ?_
   rw [show (⟨#[58]⟩ : Str) = ⟨[58].toArray⟩ from rfl]
   walk_at "rd"
   refine ⟨aqq (by simp; omega), ?_⟩
   by_cases h3 : t[(ahead t).length]? = some 58
   ·obtain ⟨z1, z2⟩ := hqD h1 h2 h3
    have ht := (lqa t).mpr h3
    refine rqN (w := ahead t ++ [58]) (r := t.drop (ahead t ++ [58]).length) c2 (Nat.zero_le _) (by omega) ?_ fun H3 s3 c3 _ _ => ⟨_, rfl, ?_⟩
    ·rw [List.drop_zero]
     conv => lhs; rw [← List.take_append_drop (ahead t ++ [58]).length t, ht]
    rw [if_neg (by decide)]
    have := k H3 (sm2.but.trans s3) (by rw [z2]; rw [Nat.zero_add] at c3; exact c3)
    rw [z1] at this
    exact this
   ·obtain ⟨z1, z2⟩ := fqP (t := t) (fun z => h3 z.2.2)
    refine uq7 (w := ahead t ++ [58]) c2 (Nat.zero_le _) (by omega) (by rw [List.drop_zero]; exact fun z => h3 ((lqa t).mp z)) ⟨_, rfl, ?_⟩
    rw [if_pos rfl]
    have := k H2 sm2.but (by rw [z2]; exact c2)
    rw [z1] at this
    exact this
theorem bqL (g : G K mg) : FnOk P w K mg base (CXN P w base) 4 g.eqY g.cqX ["cursor", "free", "most"] (kqM K g.aqu g.aqn) := by
 refine g.bqv.okn fqK (fun vs H Q E h => ?_) (fun cdv A outer s H vs Q E hr h => ?_)
 ·obtain ⟨p, t, fr, i, mo, rfl, _⟩ := h; rfl
 ·obtain ⟨p, t, fr, i, mo, rfl, hcur, hi, hl, h128, hfl, k1, k2⟩ := h
  refine ⟨_, (aqc (aqj (i := 3) fqK.nd rfl (Or.inl rfl) (hqg aqb))
   (aqc (aqj (i := 4) fqK.nd rfl (Or.inl rfl) (aqw (aqz (K := K) rfl) (aqw (aqz (K := K) rfl) (aqB (v := nqN) rfl g.nqM ⟨_, rfl⟩) (pv 1)) aqs))
   (aqc (jqs PassesOwn.leaving (PW.pt (hqc (PW.pt (lq0 (aqy fqb (pv 2) aqX (nomark _)) (jqK (aqy qqN (aqO (bqJ (K := K) rfl) rfl g.iqI PySem.boot_len (aqa (pv 3) aqb)) (pv 2) (nomark _))))) (fq8 (bqr (cqP (pv 0) g.aqh g.cql (dqp g) (hr.mono (by decide)) g.cqO .nil pass0 (aqa (pv 4) aqb))))))
   (aqd (gqu (dqB (K := K) rfl PySem.F.plainAttrs_list PySem.F.slot_list_append PySem.F.type_list_append dqD (pv 3) (aqa (cq6 (bqr (cqP (pv 0) g.aqh g.aqE (aqL g) (hr.mono (by decide)) g.aqK .nil pass0 (aqa aqs aqb))) (aqe (kqP g) (hr.mono (by decide)) rfl g.iqX g.gqi.kp g.iqZ .nil aqR (aqa (pv 0) aqb)) (fqy (pv 0) g.aqh g.bqM (cqo g) (hr.mono (by decide)) g.cqi .nil pass0)) aqb)))))
   (aqd (aqx (dqB (K := K) rfl PySem.F.plainAttrs_str PySem.F.slot_str_join PySem.F.type_str_join (gqW (K := K) rfl) aqs (aqa (pv 3) aqb))))))), ?_⟩
  have eP : nqN = .str ⟨plS.toArray⟩ := by
   show V.str (Str.ofString _) = _
   unfold plS; simp
  rw [eP]
  walk_at "rd"
  refine ⟨by decide, fun q hq => ⟨aqq (by rw [pqY]; omega), aqq (by rw [List.length_append, pqY]; omega), ?_⟩⟩
  have hqp : q ≠ p := by obtain ⟨dx, hp⟩ := hcur; exact (aql hp hq).symm
  refine lqu (fun m σ H' => ∃ (dn : List Nat) (n : Nat) (mo' : Option Nat), m = t.length - (i + n) ∧ i + n ≤ t.length ∧ dn.length ≤ n ∧ mo' = mo.map (fun z => z - dn.length) ∧ Capd mo dn.length ∧ σ = [some (.ref p), some (.str ⟨fr.toArray⟩), some (moV mo), some (.ref q), some (.str ⟨(plS ++ fr ++ [126]).toArray⟩)] ∧ H' q = some (.lst (dn.map one)) ∧ SameBut p H H' ∧ Cur H' g.aqu p t (i + n) ∧ Via (txtM fr (t.drop i) mo) n (fun l => dn ++ l) (txtM fr (t.drop (i + n)) mo')) (t.length - i) ⟨[], 0, mo, rfl, hi, Nat.le_refl _, by cases mo <;> rfl, fun z _ => Nat.zero_le _, rfl, aqg, (cq0 hq).but, ?_, Via.refl⟩ ?_
  ·obtain ⟨dx, hp⟩ := hcur
   exact ⟨dx, by rw [aqv hqp.symm]; exact hp⟩
  rintro m σ H' ⟨dn, n, mo', rfl, hin, hdn, emo, hmo, rfl, hq', sb, cur, via⟩
  have hlen : (dn.map one).length < sizeLine := by
   rw [List.length_map]
   exact Nat.lt_of_le_of_lt (show dn.length ≤ 100000 by omega) (by decide)
  have fin : txtM fr (t.drop (i + n)) mo' = .ok ([], 0) → ∃ ys : List Str, SqL K H' q (ys.map V.str) ∧ (ys.map fun x => x.length).sum + ys.length * 0 ≤ 16777216 ∧ Q (V.str (Txt.join ⟨#[]⟩ ys)) H' := fun e => by
   have e2 := via.ok e
   rw [List.append_nil, Nat.add_zero] at e2
   refine ⟨dn.map fun c => ⟨[c].toArray⟩, SqL.of (by rw [hq', List.map_map]; rfl), ?_, ?_⟩
   ·rw [qqt]
    simp only [List.length_map, Nat.mul_zero, Nat.add_zero]
    omega
   ·rw [show (⟨#[]⟩ : Str) = ⟨([] : List Nat).toArray⟩ from rfl, oqI, oq4]
    exact k1 dn n e2 H' sb cur
  have decE : ∀ c : Nat, dec mo' = mo.map (fun z => z - (dn ++ [c]).length) := fun c => by
   rw [emo]
   cases mo with
   | none => rfl
   | some z => show some (z - dn.length - 1) = some _; rw [List.length_append, List.length_singleton, Nat.sub_sub]
  have decL : mo' ≠ some 0 → ∀ c : Nat, Capd mo (dn ++ [c]).length := fun h0 c z e => by
   have := hmo z e
   subst e
   rw [List.length_append, List.length_singleton]
   have : z - dn.length ≠ 0 := fun w => h0 (by rw [emo]; show some (z - dn.length) = _; rw [w])
   omega
  cases mo
  case' none =>
   walk_at "rd"
   rw [if_pos (show moV none = V.non from rfl)]
   have h0 : mo' ≠ some 0 := by rw [emo]; intro z; cases z
  case' some mm =>
   walk_at "rd"
   rw [if_neg (by intro z; cases z)]
   refine ⟨_, .inl (.of hq'), ?_⟩
   show rI0 (fun i j => V.bl (decide (i < j))) (V.int _) (V.int (mm : Int)) H' _
   walk_at "rd"
   refine ite2 (fun hlt0 => ?_) (fun hge => fin (by
    rw [List.length_map] at hge
    have e0 : mo' = some 0 := by rw [emo]; show some (mm - dn.length) = some 0; congr 1; omega
    rw [e0]; exact fqv))
   rw [List.length_map] at hlt0
   have h0 : mo' ≠ some 0 := by
    rw [emo]
    intro z
    have z : some (mm - dn.length) = some 0 := z
    have := Option.some.inj z
    omega
  all_goals
   refine aqT cur ⟨p, t, _, i + n, rfl, cur, hin, hl, _, rfl, ?_⟩
   cases hd : t.drop (i + n) with
   | nil =>
    have hn : t[i + n]? = none := by rw [← List.head?_drop, hd]; rfl
    rw [fql hn, if_neg (by decide)]
    exact fin (by rw [hd]; exact gqk)
   | cons c r =>
    obtain ⟨hx, hlt⟩ := jq0 hd
    have hc := h128 c (List.mem_of_getElem? hx)
    rw [fqm hx]
    by_cases hin2 : c ∈ plS ++ fr ++ [126]
    ·rw [decide_eq_true hin2, if_pos rfl]
     by_cases h126 : c = 126
     ·subst h126
      have hd3 : t.drop (i + n + 1) = r := by rw [← List.drop_drop, hd]; rfl
      refine ⟨_, fun _ _ h => h, ⟨_, .of hq'⟩, aqT cur ⟨p, t, [126], i + n, rfl, cur, hin, hl, fun _ H1 s1 c1 => ⟨_, rfl, ?_⟩, fun hp1 => absurd (by rw [hd]; rfl) hp1⟩⟩
      rw [if_pos rfl]
      refine ⟨p, t, i + n + 1, rfl, c1, by omega, hl, h128, fun c m e H2 s2 c2 => ?_, fun m e d H2 s2 hx => ?_⟩
      ·rw [hd3] at e
       obtain ⟨a, b, r2, rfl, hs, rfl, _⟩ := mqp e
       have hl2 : i + n + 3 ≤ t.length := by have := congrArg List.length hd; rw [List.length_drop] at this; simp only [List.length_cons] at this; omega
       refine ⟨_, (s1.trans s2) _ _ hqp hq', hlen, t.length - (i + (n + 3)), by omega, dn ++ [c], n + 3, dec mo', rfl, by omega, by rw [List.length_append, List.length_singleton]; omega, decE c, decL h0 c, rfl, ?_, ?_, ?_, ?_⟩
       ·rw [aqg, List.map_append]; rfl
       ·exact ((sb.trans s1).trans s2).upd hq
       ·obtain ⟨dx, hpp⟩ := c2
        exact ⟨dx, by rw [aqv hqp.symm]; exact hpp⟩
       ·have hd4 : t.drop (i + (n + 3)) = r2 := by rw [show i + (n + 3) = i + n + 3 by omega, ← List.drop_drop, hd]; rfl
        have := via.step (a := 3) (g := fun l => c :: l) (r' := txtM fr r2 (dec mo')) (by rw [hd, dqu h0, e]; exact sqR)
        rw [hd4]
        simpa using this
      ·rw [hd3] at e
       refine k2 (n + (m + 1)) (via.err ?_) d H2 ((sb.trans s1).trans s2) (by rw [hx, show i + n + 1 + m = i + (n + (m + 1)) by omega])
       rw [hd, dqu h0, e]
     ·have hpl : isPl c = true ∨ c ∈ fr := by
       rcases List.mem_append.mp hin2 with z | z
       ·exact (List.mem_append.mp z).imp (sqP hc).mp id
       ·exact absurd (List.mem_singleton.mp z) h126
      refine ⟨_, fun _ _ h => h, ⟨_, .of hq'⟩, aqT cur ⟨p, t, [126], i + n, rfl, cur, hin, hl, fun hp1 => ?_, fun _ => ⟨_, rfl, ?_⟩⟩⟩
      ·rw [hd] at hp1
       exact absurd (List.cons.inj hp1).1 h126
      rw [if_neg (by decide)]
      refine aqT cur ⟨p, t, i + n, c, rfl, cur, hx, hl, fun H1 s1 c1 => ⟨_, s1 _ _ hqp hq', hlen, t.length - (i + (n + 1)), by omega, dn ++ [c], n + 1, dec mo', rfl, by omega, by rw [List.length_append, List.length_singleton]; omega, decE c, decL h0 c, rfl, ?_, ?_, ?_, ?_⟩⟩
      ·rw [aqg, List.map_append]; rfl
      ·exact (sb.trans s1).upd hq
      ·obtain ⟨dx, hpp⟩ := c1
       exact ⟨dx, by rw [aqv hqp.symm]; exact hpp⟩
      ·have hd4 : t.drop (i + (n + 1)) = r := by rw [← Nat.add_assoc, ← List.drop_drop, hd]; rfl
       have := via.step (a := 1) (g := fun l => c :: l) (r' := txtM fr r (dec mo')) (by rw [hd, eqK h0 h126 hpl]; exact sqR)
       rw [hd4]
       simpa using this
    ·rw [decide_eq_false hin2, if_neg (by decide)]
     refine fin (iqk ?_)
     rw [hd]
     refine bqs ⟨?_, fun z => hin2 (List.mem_append.mpr (.inl (List.mem_append.mpr (.inr z)))), fun z => hin2 (List.mem_append.mpr (.inr (List.mem_singleton.mpr z)))⟩
     cases hi2 : isPl c with
     | false => rfl
     | true => exact absurd (List.mem_append.mpr (.inl (List.mem_append.mpr (.inl ((sqP hc).mpr hi2))))) hin2
theorem iqA (g : G K mg) : FnOk P w K mg base CX0 4 g.cqr g.cqf ["question"] (iqK K) := by
 refine g.dqH.ok iqF (fun vs H Q E h => ?_) (fun cdv A outer s H vs Q E hr h => ?_)
 ·obtain ⟨q, v, rfl, _⟩ := h; rfl
 ·obtain ⟨q, v, rfl, hI, hq, hl, k⟩ := h
  refine ⟨_, (aqc (bqk (aqy fqb (pv 0) aqX (nomark _))
    (aqd (aqx aqs)) aqD)
   (aqd (aqx (aqw (aqz (K := K) rfl) aqs (dqB (K := K) rfl PySem.F.plainAttrs_str PySem.F.slot_str_join PySem.F.type_str_join (gqW (K := K) rfl) aqs (aqa (qqf (K := K) (fx := []) (fr := []) rfl rfl rfl (by decide +kernel) rfl (by decide +kernel) rfl rfl (by decide +kernel) rfl .nil rfl (pqw (K := K) rfl (pv 0)) (fun _ _ _ => mqA) (fun _ _ _ => (aqe (kqI g) (hr.mono (by decide)) rfl g.iqd g.fqx.kp g.hq8 .nil pass0 (aqa (pv 0) (aqa (pv 1) aqb))))) aqb)))))), ?_⟩
  have c1 : Str.ofString "?" = ⟨[63].toArray⟩ := by decide +kernel
  have c2 : Str.ofString "&" = ⟨[38].toArray⟩ := by decide +kernel
  rw [c1, c2]
  walk_at "rd"
  cases q with
  | none =>
   cases hI
   exact ite2 (fun _ => k H (Same.refl _)) (fun z => absurd rfl z)
  | some ps =>
   obtain ⟨p, xs, rfl, hp, r⟩ := jqY hI
   refine ite2 (fun z => by cases z) (fun _ => ?_)
   obtain ⟨hpl, hpp⟩ := hq ps rfl
   have hxl := r.length
   rw [List.length_map] at hxl
   refine ⟨p, rfl, ⟨_, hp⟩, fun p1 hn1 => ?_⟩
   refine pqA (f := fun i => match ps[i]? with | some p => (.str ⟨p.1.toArray⟩, otV p.2) | none => (.non, .non)) (zs := (ps.map pairT).map fun l => V.str ⟨l.toArray⟩) hp (aqq (by omega)) hn1 (by simp; omega) (fun i x H' hx sm => ?_) (fun i z hi hz H' T sm hT => ?_) (fun H' sm hp' => ?_)
   ·have hi : i < ps.length := by have := (List.getElem?_eq_some_iff.mp hx).1; omega
    have he : ps[i]? = some ps[i] := by simp [hi]
    obtain ⟨b, x1, x2, rfl, hb, b1, b2⟩ := isK2 (lqd r (by rw [List.getElem?_map, he]; rfl) hx)
    cases oqi b1
    cases pqE b2
    refine ⟨b, rfl, ?_⟩
    rw [he]
    exact sm.tup hb
   ·have hi : i < ps.length := by omega
    have he : ps[i]? = some ps[i] := by simp [hi]
    rw [List.getElem?_map, List.getElem?_map, he] at hz
    simp only [Option.map_some, Option.some.injEq] at hz
    subst hz
    obtain ⟨k1, k2, k3⟩ := hpp ps[i] (List.getElem_mem hi)
    rw [he]
    walk_at "rd"
    exact ⟨ps[i].1, ps[i].2, rfl, k1, k2, k3, hT⟩
   ·walk_at "rd"
    have hj := jqt (sep := 38) (ps.map pairT)
    have hq2 : (queT (some ps)).length = (joinT 38 (ps.map pairT)).length + 1 := by simp [queT]
    refine ⟨(ps.map pairT).map fun l => ⟨l.toArray⟩, by rw [List.map_map (f := fun l : List Nat => (⟨l.toArray⟩ : Str)) (g := V.str)]; exact .of hp', ?_, ?_⟩
    ·rw [pqL, List.length_map]
     have : ((ps.map pairT).map List.length).sum + (ps.map pairT).length ≤ (joinT 38 (ps.map pairT)).length + 1 := hj
     omega
    rw [show (⟨#[38]⟩ : Str) = ⟨[38].toArray⟩ from rfl, jqo, show (⟨#[63]⟩ : Str) = ⟨[63].toArray⟩ from rfl]
    walk_at "rd"
    refine ⟨aqq (by omega), ?_⟩
    have := k H' sm
    simpa [queT] using this
theorem jqT (g : G K mg) : FnOk P w K mg base CX0 4 g.dqo g.cq1 ["_law_script", "_law_start"] (kqk K) := by
 refine g.fqd.ok aqC (fun vs H Q E h => ?_) (fun cdv A outer s H vs Q E hr h => ?_)
 ·obtain ⟨a, ns, i, rfl, _⟩ := h; rfl
 ·obtain ⟨a, ns, i, rfl, hS, k⟩ := h
  refine ⟨_, (aqc (aqj (i := 2) aqC.nd rfl (Or.inl rfl) (aqe (mq3 g) (hr.mono (by decide)) rfl g.jqG g.hqk.kp g.jqE .nil pass0 (aqa (aqe (gqC g) (hr.mono (by decide)) rfl g.fqa g.dqn.kp g.fqe .nil pass0 (aqa (pv 0) (aqa (pv 1) aqb))) aqb)))
   (aqc (aqj (i := 3) aqC.nd rfl (Or.inl rfl) (aqe (kqH g) (hr.mono (by decide)) rfl g.hqL g.fqs.kp g.iqt .nil pass0 (aqa (pv 2) aqb)))
   (aqc (aqj (i := 4) aqC.nd rfl (Or.inl rfl) aqX)
   (aqc (aqj (i := 5) aqC.nd rfl (Or.inl rfl) aqX)
   (aqQ (bqk (aqy kqb (aqe (aqk g) (hr.mono (by decide)) rfl g.aqp g.aqm.kp g.aqr .nil pass0 (aqa (pv 2) (aqa aqf aqb))) aqf (nomark _))
    (aqc (aqj (i := 4) aqC.nd rfl (Or.inl rfl) (aqe (dqt g) (hr.mono (by decide)) rfl g.dqe g.cqF.kp g.dqc .nil pass0 (aqa (pv 2) (aqa (aqw (aqz (K := K) rfl) aqf (aq5 (aqA (K := K) rfl) (hqg (aqa (aqe (aqk g) (hr.mono (by decide)) rfl g.aqp g.aqm.kp g.aqr .nil pass0 (aqa (pv 2) (aqa aqf aqb))) (aqa (aqe (aqk g) (hr.mono (by decide)) rfl g.aqp g.aqm.kp g.aqr .nil pass0 (aqa (pv 2) (aqa aqf aqb))) aqb))) (bqd eqj rfl g.kql hqb (aqa (bqa fq5 (aqe (aqk g) (hr.mono (by decide)) rfl g.aqp g.aqm.kp g.aqr .nil pass0 (aqa (pv 2) (aqa aqf aqb))) aqf (nomark _)) aqb)) (fun _ _ => rfl))) aqb))))
   (aqd (aqj (i := 5) aqC.nd rfl (Or.inl rfl) (aq5 (aqA (K := K) rfl) (hqg (aqa aqX (aqa (aqe (aqk g) (hr.mono (by decide)) rfl g.aqp g.aqm.kp g.aqr .nil pass0 (aqa (pv 2) (aqa aqf aqb))) (aqa (aqe (aqk g) (hr.mono (by decide)) rfl g.aqp g.aqm.kp g.aqr .nil pass0 (aqa (pv 2) (aqa aqf aqb))) (aqa aqf aqb))))) (aqe (aqk g) (hr.mono (by decide)) rfl g.aqp g.aqm.kp g.aqr .nil pass0 (aqa (pv 2) (aqa aqf aqb))) (fun _ _ => rfl))))) aqD)
   (aqc (aqj (i := 6) aqC.nd rfl (Or.inl rfl) (aqe (lqQ g) (hr.mono (by decide)) rfl g.iq0 g.gqt.kp g.iqU .nil pass0 (aqa (pv 2) aqb)))
   (aqQ (aqj (i := 7) aqC.nd rfl (Or.inl rfl) (rqS (bqa nqx (pv 3) aqs (nomark _)) (rqS (bqa fqz (pv 4) aqX (nomark _)) (hqQ (bqa fq5 (aqe (aqk g) (hr.mono (by decide)) rfl g.aqp g.aqm.kp g.aqr .nil pass0 (aqa (pv 2) (aqa aqf aqb))) aqf (nomark _))))))
   (aqc (aqj (i := 8) aqC.nd rfl (Or.inl rfl) (pv 7))
   (aqQ (bqk (aqy (pq0 hr.units) (pv 6) (oqR aqb) (nomark _))
    (aqd (aqj (i := 8) aqC.nd rfl (Or.inl rfl) (bqa fq5 (aqe (aqk g) (hr.mono (by decide)) rfl g.aqp g.aqm.kp g.aqr .nil pass0 (aqa (pv 2) (aqa aqf aqb))) aqf (nomark _)))) aqD)
   (aqc (aqj (i := 9) aqC.nd rfl (Or.inl rfl) (aqe (jqk g) (hr.mono (by decide)) rfl g.gqo g.eqz.kp g.gqJ .nil pass0 (aqa (pv 2) aqb)))
   (aqc (aqj (i := 10) aqC.nd rfl (Or.inl rfl) aqX)
   (aqQ (bqk (aqy kqb (aqe (aqk g) (hr.mono (by decide)) rfl g.aqp g.aqm.kp g.aqr .nil pass0 (aqa (pv 2) (aqa aqf aqb))) aqf (nomark _))
    (aqd (aqj (i := 10) aqC.nd rfl (Or.inl rfl) (aqe (dqt g) (hr.mono (by decide)) rfl g.dqe g.cqF.kp g.dqc .nil pass0 (aqa (pv 2) (aqa (aq5 (aqA (K := K) rfl) (hqg (aqa (aqe (aqk g) (hr.mono (by decide)) rfl g.aqp g.aqm.kp g.aqr .nil pass0 (aqa (pv 2) (aqa aqf aqb))) (aqa (aqe (aqk g) (hr.mono (by decide)) rfl g.aqp g.aqm.kp g.aqr .nil pass0 (aqa (pv 2) (aqa aqf aqb))) aqb))) (bqd eqj rfl g.kql hqb (aqa (bqa fq5 (aqe (aqk g) (hr.mono (by decide)) rfl g.aqp g.aqm.kp g.aqr .nil pass0 (aqa (pv 2) (aqa aqf aqb))) aqf (nomark _)) aqb)) (fun _ _ => rfl)) aqb))))) aqD)
   (aqd (aqx (oqR (aqa (pv 3) (aqa (pv 4) (aqa (pv 5) (aqa (oqR (aqa (pv 7) (aqa (pv 6) (aqa (pv 8) aqb)))) (aqa (pv 9) (aqa (pv 10) aqb))))))))))))))))))))), ?_⟩
  walk_at "rd"
  refine ⟨a, ns, i, rfl, hS, _, rfl, fun p H1 hp s1 hd1 => ?_⟩
  refine ⟨p, 0, rfl, hd1, by decide, fun sch H2 hl hal hlet hd2 sb2 => ?_⟩
  have b2 : SameBut p H H2 := (Same.but s1).trans sb2
  clear hd1 sb2 s1
  walk_at "rd"
  refine ⟨fun σ H3 => ∃ (ho : Option (List Nat)) (dr : Option Int), σ = [some (.ref a), some (.int i), some (.ref p), some (.str ⟨sch.toArray⟩), some (otV ho), some (itV dr), none, none, none, none, none] ∧ (∀ l, ho = some l → 0 < l.length ∧ Tx 60 l) ∧ (∀ j, dr = some j → (0 ≤ j ∧ j ≤ 65535) ∧ ho ≠ none) ∧ Deck H3 p 300 ∧ SameBut p H H3, ?_, ?_⟩
  ·refine ⟨p, 3, _, rfl, hd2, by omega, by decide, by decide, fun r3 H3 h30 h31 hd3 sb3 => ?_⟩
   walk_at "rd"
   refine ite2 (fun h3 => ?_) (fun h3 => ⟨none, none, ⟨rfl, rfl⟩, (fun _ z => by cases z), (fun _ z => by cases z), hd3.le (by omega), b2.trans sb3⟩)
   refine ⟨p, 6, _, rfl, hd3, by omega, by decide, by decide, fun r4 H4 h40 h41 hd4 sb4 => ?_⟩
   refine ⟨p, 60, _, rfl, hd4, by omega, by decide, by decide, fun r5 H5 h50 h51 hd5 sb5 => ?_⟩
   have b5 := ((b2.trans sb3).trans sb4).trans sb5
   refine ⟨by decide, fun q hq => ?_⟩
   refine ⟨p, 8, _, rfl, hd5.same (bqp hq), by omega, by decide, by decide, fun r6 H6 h60 h61 hd6 sb6 => ?_⟩
   have hq6 := sb6 q _ (hd5.ne hq) aqg
   have b6 : SameBut p H H6 := b5.trans ((Same.but (bqp hq)).trans sb6)
   walk_at "rd"
   obtain ⟨m, hm, hm60⟩ : ∃ m : Nat, atI [V.int r4, V.int r5] (if r6 = 5 then 1 else 0) = some (.int m) ∧ m < 60 := by
    by_cases h : r6 = 5
    ·exact ⟨r5.toNat, by rw [if_pos h, Int.toNat_of_nonneg h50]; exact aqI (j := 1) rfl, by omega⟩
    ·exact ⟨r4.toNat, by rw [if_neg h, Int.toNat_of_nonneg h40]; exact aqI (j := 0) rfl, by omega⟩
   refine ⟨_, _, .inl (SqL.of hq6), hm, ?_⟩
   walk_at "rd"
   refine ⟨p, 1 + m, _, rfl, hd6, by omega, by omega, fun hou H7 hl7 hs7 hd7 sb7 => ?_⟩
   refine ⟨p, 65536, _, rfl, hd7, by omega, by decide, by decide, fun r8 H8 h80 h81 hd8 sb8 => ?_⟩
   refine ⟨p, 10, _, rfl, hd8, by omega, by decide, by decide, fun r9 H9 h90 h91 hd9 sb9 => ?_⟩
   have b9 := ((b6.trans sb7).trans sb8).trans sb9
   refine ⟨by decide, fun q2 hq2 => ?_⟩
   refine ⟨p, 4, _, rfl, hd9.same (bqp hq2), by omega, by decide, by decide, fun r10 H10 h100 h101 hd10 sb10 => ?_⟩
   have hq10 := sb10 q2 _ (hd9.ne hq2) aqg
   obtain ⟨dr, hdr, hdb⟩ : ∃ dr : Option Int, atI [V.non, V.int r8, V.int r9, V.int 65535] r10 = some (itV dr) ∧ ∀ j, dr = some j → 0 ≤ j ∧ j ≤ 65535 := by
    have h : r10 = ((0 : Nat) : Int) ∨ r10 = ((1 : Nat) : Int) ∨ r10 = ((2 : Nat) : Int) ∨ r10 = ((3 : Nat) : Int) := by omega
    rcases h with rfl | rfl | rfl | rfl
    ·exact ⟨none, aqI rfl, fun _ z => by cases z⟩
    ·exact ⟨some r8, aqI rfl, fun _ z => by cases z; omega⟩
    ·exact ⟨some r9, aqI rfl, fun _ z => by cases z; omega⟩
    ·exact ⟨some 65535, aqI rfl, fun _ z => by cases z; omega⟩
   refine iqR.mpr ⟨_, _, .inl (SqL.of hq10), hdr, some hou, dr, ⟨rfl, rfl⟩, (fun l z => by cases z; exact ⟨by omega, by omega, hs7⟩), (fun j z => ⟨hdb j z, by intro w; cases w⟩), hd10.le (by omega), b9.trans ((Same.but (bqp hq2)).trans sb10)⟩
  rintro σ H3 ⟨ho, dr, rfl, hho, hdr, hd3, b3⟩
  clear hd2 b2
  walk_at "rd"
  refine ⟨p, 300, rfl, hd3, by decide, fun ss v H4 hss hst hsm hd4 sb4 it4 => ?_⟩
  have b4 := b3.trans sb4
  refine ⟨fun σ H5 => ∃ rt : Bool, σ = [some (.ref a), some (.int i), some (.ref p), some (.str ⟨sch.toArray⟩), some (otV ho), some (itV dr), some v, some (.bl rt), none, none, none] ∧ (sch ≠ [] ∨ ho ≠ none → rt = true) ∧ IsT H5 (.tuple (ss.map st)) v ∧ Deck H5 p 4301 ∧ SameBut p H H5, ?_, ?_⟩
  ·refine ite2 (fun h1 => ⟨true, rfl, fun _ => rfl, it4, hd4.le (by omega), b4⟩) (fun h1 => ?_)
   have hsch : sch = [] := hqd.mp (by simpa using h1)
   refine ite2 (fun h2 => ⟨true, rfl, fun _ => rfl, it4, hd4.le (by omega), b4⟩) (fun h2 => ?_)
   have hho0 : ho = none := by
    cases ho with
    | none => rfl
    | some l => exact absurd (by intro z; cases z) h2
   refine ⟨p, 2, _, rfl, hd4, by omega, by decide, by decide, fun r5 H5 h50 h51 hd5 sb5 => ?_⟩
   walk_at "rd"
   exact ⟨fun z => absurd z (by rw [hsch, hho0]; simp), it4.mono (hd4.toT sb5), hd5.le (by omega), b4.trans sb5⟩
  rintro σ H5 ⟨rt, rfl, hrt, it5, hd5, b5⟩
  clear hd3 b3 sb4 hd4 it4 b4
  walk_at "rd"
  refine ⟨fun σ H6 => ∃ en : Bool, σ = [some (.ref a), some (.int i), some (.ref p), some (.str ⟨sch.toArray⟩), some (otV ho), some (itV dr), some v, some (.bl rt), some (.bl en), none, none] ∧ (ss = [] → en = rt) ∧ IsT H6 (.tuple (ss.map st)) v ∧ Deck H6 p 4302 ∧ SameBut p H H6, ?_, ?_⟩
  ·refine ⟨by decide, fun q hq => ?_⟩
   have hqp := hd5.ne hq
   have it6 := it5.mono (iqi (o := .tup []) hq)
   have b6 : SameBut p H (upd H5 q (.tup [])) := b5.upd (b5.free hq hqp)
   refine ⟨_, .tuple [], it6.is, .tup aqg .nil, gqq fun l hl => (hst l hl).2.2, by decide +kernel, _, rfl, ?_⟩
   rw [nqJ]
   refine ite2 (fun h1 => ?_) (fun h1 => ⟨rt, rfl, fun _ => rfl, it6, (hd5.upd hqp).le (by omega), b6⟩)
   refine ⟨p, 2, _, rfl, hd5.upd hqp, by omega, by decide, by decide, fun r6 H6 h60 h61 hd6 sb6 => ?_⟩
   walk_at "rd"
   refine ⟨fun z => ?_, it6.mono ((hd5.upd hqp).toT sb6), hd6, b6.trans sb6⟩
   rw [z] at h1
   exact absurd h1 (by decide)
  rintro σ H6 ⟨en, rfl, hen, it6, hd6, b6⟩
  clear hd5 it5 b5
  walk_at "rd"
  refine ⟨p, 4302, rfl, hd6, by decide, fun qs vq H7 hqs hd7 sb7 it7 => ?_⟩
  have st7 := it6.mono (hd6.toT sb7)
  have b7 := b6.trans sb7
  walk_at "rd"
  refine ⟨fun σ H8 => ∃ mk : Option (List Nat), σ = [some (.ref a), some (.int i), some (.ref p), some (.str ⟨sch.toArray⟩), some (otV ho), some (itV dr), some v, some (.bl rt), some (.bl en), some vq, some (otV mk)] ∧ (∀ l, mk = some l → Tx 60 l) ∧ IsT H8 (.tuple (ss.map st)) v ∧ IsT H8 (qD qs) vq ∧ SameBut p H H8, ?_, ?_⟩
  ·refine ⟨p, 3, _, rfl, hd7, by omega, by decide, by decide, fun r3 H3 h30 h31 hd3 sb3 => ?_⟩
   walk_at "rd"
   refine ite2 (fun h3 => ?_) (fun h3 => ⟨none, rfl, (fun _ z => by cases z), st7.mono (hd7.toT sb3), it7.mono (hd7.toT sb3), b7.trans sb3⟩)
   refine ⟨p, 7, _, rfl, hd3, by omega, by decide, by decide, fun r4 H4 h40 h41 hd4 sb4 => ?_⟩
   refine ⟨p, 61, _, rfl, hd4, by omega, by decide, by decide, fun r5 H5 h50 h51 hd5 sb5 => ?_⟩
   have b5 := ((b7.trans sb3).trans sb4).trans sb5
   have t5 := ((hd7.toT sb3).trans (hd3.toT sb4)).trans (hd4.toT sb5)
   refine ⟨by decide, fun q hq => ?_⟩
   refine ⟨p, 8, _, rfl, hd5.same (bqp hq), by omega, by decide, by decide, fun r6 H8 h60 h61 hd8 sb8 => ?_⟩
   have hq6 := sb8 q _ (hd5.ne hq) aqg
   have b8 : SameBut p H H8 := b5.trans ((Same.but (bqp hq)).trans sb8)
   have t8 := t5.trans ((iqi hq).trans ((hd5.same (bqp hq)).toT sb8))
   walk_at "rd"
   obtain ⟨m, hm, hm60⟩ : ∃ m : Nat, atI [V.int r4, V.int r5] (if r6 = 5 then 1 else 0) = some (.int m) ∧ m ≤ 60 := by
    by_cases h : r6 = 5
    ·exact ⟨r5.toNat, by rw [if_pos h, Int.toNat_of_nonneg h50]; exact aqI (j := 1) rfl, by omega⟩
    ·exact ⟨r4.toNat, by rw [if_neg h, Int.toNat_of_nonneg h40]; exact aqI (j := 0) rfl, by omega⟩
   refine ⟨_, _, .inl (SqL.of hq6), hm, p, m, _, rfl, hd8, by omega, by omega, fun l H9 hl9 hs9 hd9 sb9 => ?_⟩
   have t9 := t8.trans (hd8.toT sb9)
   exact ⟨some l, rfl, (fun l' z => by cases z; exact ⟨by omega, hs9⟩), st7.mono t9, it7.mono t9, b8.trans sb9⟩
  rintro σ H8 ⟨mk, rfl, hmk, it8, iq8, b8⟩
  walk_at "rd"
  refine ⟨by decide, fun w hw => ⟨by decide, fun z hz => ?_⟩⟩
  have s8 : Same H H8 := b8.same hp
  have s9 : Same H8 (upd (upd H8 w (.tup [.bl rt, v, .bl en])) z (.tup [.str ⟨sch.toArray⟩, otV ho, itV dr, .ref w, vq, otV mk])) := (bqp hw).trans (bqp hz)
  have hwz : w ≠ z := aql aqg hz
  refine k ⟨sch, ho, dr, rt, ss, en, qs, mk⟩ _ _ ⟨⟨hl, hal, hlet⟩, hho, hdr, ⟨Nat.le_trans hss (by decide), hst⟩, hrt, hen, hqs, hmk⟩ hsm (s8.trans s9) ?_
  refine .tup aqg (.cons (.str _) (.cons (pqh ho) (.cons (wqs dr) (.cons (.tup (xs := [.bl rt, v, .bl en]) (by rw [aqv hwz, aqg]) (.cons (.bl _) (.cons (it8.mono s9.toT) (.cons (.bl _) .nil)))) (.cons (iq8.mono s9.toT) (.cons (pqh mk) .nil))))))
theorem fq4 (g : G K mg) : FnOk P w K mg base CX0 4 g.bqj g.bqg ["_law_question_here", "_law_cell"] (fq6 K) := by
 refine g.bqX.ok aqF (fun vs H Q E h => ?_) (fun cdv A outer s H vs Q E hr h => ?_)
 ·obtain ⟨ps, v, i, rfl, _⟩ := h; rfl
 ·obtain ⟨ps, v, i, rfl, hI, hl, hs, k⟩ := h
  refine ⟨_, (aqc (aqj (i := 2) aqF.nd rfl (Or.inl rfl) (jqH aqb))
   (aqc (kqx PassesOwn.never rfl (eqk rfl g.gqe (aqa (aqO (bqJ (K := K) rfl) rfl g.iqI PySem.boot_len (aqa (pv 0) aqb)) aqb)) (bqN (i := 3) aqF.nd rfl (Or.inl rfl))
   (aqc (oqr (aq5 (aqA (K := K) rfl) (pv 0) (pv 3) (fun _ _ => rfl)) (rqa (n := 2) (K := K) rfl rfl (dqf (bqN (i := 4) aqF.nd rfl (Or.inl rfl)) (dqf (bqN (i := 5) aqF.nd rfl (Or.inl rfl)) nqA))))
   (aqc (aqj (i := 6) aqF.nd rfl (Or.inl rfl) (aqe (cqQ g) (hr.mono (by decide)) rfl g.cqK g.bqV.kp g.cqL .nil pass0 (aqa (pv 4) (aqa aqs (aqa (aqw (bqw (K := K)) (pv 1) (aqw cqA aqf (pv 3))) aqb)))))
   (aqQ (bqk (aqy fqz (pv 5) aqX (nomark _))
    (aqd (aqj (i := 6) aqF.nd rfl (Or.inl rfl) (aqw (bqw (K := K)) (aqw (bqw (K := K)) (pv 6) aqs) (aqe (cqQ g) (hr.mono (by decide)) rfl g.cqK g.bqV.kp g.cqL .nil pass0 (aqa (pv 5) (aqa aqs (aqa (aqw (bqw (K := K)) (pv 1) (aqw cqA aqf (pv 3))) aqb))))))) aqD)
   (aqd (gqu (dqB (K := K) rfl PySem.F.plainAttrs_list PySem.F.slot_list_append PySem.F.type_list_append dqD (pv 2) (aqa (pv 6) aqb))))))))
   (aqd (aqx (aqw (bqw (K := K)) aqs (dqB (K := K) rfl PySem.F.plainAttrs_str PySem.F.slot_str_join PySem.F.type_str_join (gqW (K := K) rfl) aqs (aqa (pv 2) aqb))))))), ?_⟩
  have eF : Str.ofString "!$'()*,;@+/?:" = ⟨frQ.toArray⟩ := by unfold frQ; simp
  have e1 : Str.ofString "=" = ⟨[61].toArray⟩ := by decide +kernel
  have e2 : Str.ofString "?" = ⟨[63].toArray⟩ := by decide +kernel
  have e3 : Str.ofString "&" = ⟨[38].toArray⟩ := by decide +kernel
  rw [eF, e1, e2, e3]
  obtain ⟨a, xs, rfl, ha, r4⟩ := iqJ (show IsT H (.tuple (ps.map fun p => .tuple [st p.1, oD p.2])) v from hI)
  obtain ⟨hl4, hat⟩ := mqq r4
  walk_at "rd"
  refine ⟨by decide, fun p H1 hp s1 e4 => ⟨xs, .inr (.of (s1 _ _ ha)), by omega, by omega, ?_⟩⟩
  rw [Int.toNat_natCast, hl4]
  refine eqf (fun j σ H' => ∃ (ws : List (List Nat)) (v3 v4 v5 v6 : Option V), σ = [some (.ref a), some (.int i), some (.ref p), v3, v4, v5, v6] ∧ PrWs (ps.take j) ws ∧ (∀ w ∈ ws, w.length ≤ 60) ∧ Same H H' ∧ H' p = some (.lst (ws.map fun w => V.str ⟨w.toArray⟩))) ⟨[], none, none, none, none, rfl, .nil, by simp, s1, e4⟩ ?_ ?_
  ·rintro j σ H' hj ⟨ws, v3, v4, v5, v6, rfl, hw, hwl, s2, e5⟩
   obtain ⟨pr, hpr⟩ : ∃ pr, ps[j]? = some pr := ⟨_, List.getElem?_eq_getElem hj⟩
   have hx : xs[j]? = some xs[j] := List.getElem?_eq_getElem (by omega)
   obtain ⟨pr', hpr', hI'⟩ := hat j _ hx
   generalize xs[j] = x at hx hI'
   rw [hpr] at hpr'
   cases hpr'
   obtain ⟨nm, vl⟩ := pr
   obtain ⟨q, y, z, rfl, hq, i1, i2⟩ := isT2 hI'
   cases nqX i1
   cases qq1 i2
   obtain ⟨hok, hln, hlv⟩ := hs _ (List.mem_of_getElem? hpr)
   have et : ps.take (j + 1) = ps.take j ++ [(nm, vl)] := by rw [List.take_add_one, hpr]; rfl
   have hwn := hw.length
   rw [List.length_take] at hwn
   have hI2 := s2 _ _ ha
   have hq2 := s2 _ _ hq
   dsimp only at hq2 hln hlv
   have fin : ∀ (w : List Nat), PrW (nm, vl) w → w.length ≤ 60 → ∃ xs, H' p = some (.lst xs) ∧ xs.length < sizeLine ∧ ∃ (ws' : List (List Nat)) (v3 v4 v5 v6 : Option V), (some (V.int (0 + (j : Int))) = v3 ∧ some (V.str ⟨nm.toArray⟩) = v4 ∧ some (otV vl) = v5 ∧ some (V.str ⟨w.toArray⟩) = v6) ∧ PrWs (ps.take (j + 1)) ws' ∧ (∀ w ∈ ws', w.length ≤ 60) ∧ Same H (upd H' p (.lst (xs ++ [.str ⟨w.toArray⟩]))) ∧ upd H' p (.lst (xs ++ [.str ⟨w.toArray⟩])) p = some (.lst (ws'.map fun w => V.str ⟨w.toArray⟩)) := fun w hpw hwl' => by
    refine ⟨_, e5, by rw [List.length_map, hwn]; exact Nat.lt_of_le_of_lt (show min j ps.length ≤ 20 by omega) (by decide), ws ++ [w], _, _, _, _, ⟨rfl, rfl, rfl, rfl⟩, by rw [et]; exact hw.snoc hpw, fun e he => ?_, fun b o e => by rw [aqv (aql e hp)]; exact s2 _ _ e, by rw [aqg, List.map_append]; rfl⟩
    rcases List.mem_append.mp he with z | z
    ·exact hwl e z
    ·rw [List.mem_singleton.mp z]; exact hwl'
   walk_at "rd"
   refine ⟨xs, _, .inr (.of hI2), by rw [Int.zero_add]; exact aqI hx, q, _, rfl, .of hq2, rfl, _, _, rfl, _, _, rfl, rfl, .inl ⟨by decide, by decide⟩, nm, frQ, _, rfl, by omega, hok.1.2, jqC, mqV.1, fun w1 hw1 hl1 => ?_⟩
   refine ⟨fun σ H2 => H2 = H' ∧ ∃ w, PrW (nm, vl) w ∧ w.length ≤ 60 ∧ σ = [some (.ref a), some (.int i), some (.ref p), some (.int (0 + (j : Int))), some (.str ⟨nm.toArray⟩), some (otV vl), some (.str ⟨w.toArray⟩)], ?_, ?_⟩
   ·cases vl with
    | none =>
     rw [if_neg (by simp [otV])]
     exact ⟨rfl, w1, ⟨w1, [], by simp, hw1, rfl⟩, by omega, rfl⟩
    | some l =>
     have hll := hlv l rfl
     rw [if_pos (by simp [otV])]
     walk_at "rd"
     refine ⟨aqq (by omega), .inl ⟨by decide, by decide⟩, l, frQ, _, rfl, by omega, hok.2 l rfl, jqC, mqV.1, fun w2 hw2 hl2 => ?_⟩
     walk_at "rd"
     refine ⟨aqq (by simp; omega), w1 ++ [61] ++ w2, ⟨w1, 61 :: w2, by simp, hw1, w2, rfl, hw2⟩, by simp; omega, rfl⟩
   rintro σ H2 ⟨rfl, w, hpw, hwl', rfl⟩
   walk_at "rd"
   exact ⟨⟨_, .of e5⟩, fin w hpw hwl'⟩
  ·rintro σ H' ⟨ws, v3, v4, v5, v6, rfl, hw, hwl, s2, e5⟩
   walk_at "rd"
   rw [List.take_length] at hw
   have hj := jqt (sep := 38) ws
   have hb := gq2 (sep := 38) hwl
   have hwn := hw.length
   have hjl : (joinT 38 ws).length ≤ 1220 := Nat.le_trans hb (by rw [hwn]; exact Nat.mul_le_mul hl (Nat.le_refl _))
   refine ⟨ws.map fun w => ⟨w.toArray⟩, SqL.of (by rw [e5, List.map_map]; rfl), ?_, ?_⟩
   ·simp only [List.map_map, Function.comp_def, cqV, List.length_map] at hj ⊢
    omega
   ·rw [show (⟨#[38]⟩ : Str) = ⟨[38].toArray⟩ from rfl, jqo]
    refine ⟨aqq (by rw [cqV]; omega), ?_⟩
    have := k ws H' hw hwl s2
    rw [show (⟨#[63]⟩ : Str) ++ ⟨(joinT 38 ws).toArray⟩ = ⟨(63 :: joinT 38 ws).toArray⟩ by rw [show (⟨#[63]⟩ : Str) = ⟨[63].toArray⟩ from rfl, kq3]; rfl]
    exact this
theorem lqp (g : G K mg) : FnOk P w K mg base (CXN P w base) 5 g.fqJ g.eqX ["cursor", "must_be_rooted"] (hqJ K g.aqu g.aqn) := by
 refine g.hqt.okn bqS (fun vs H Q E h => ?_) (fun cdv A outer s H vs Q E hr h => ?_)
 ·obtain ⟨p, t, i, must, rfl, _⟩ := h; rfl
 ·obtain ⟨p, t, i, must, rfl, hcur, hi, hl, h128, k1, k2⟩ := h
  refine ⟨_, (aqQ (aqj (i := 2) bqS.nd rfl (Or.inl rfl) (cqP (pv 0) g.aqh g.aqE (aqL g) (hr.mono (by decide)) g.aqK .nil pass0 (aqa aqs aqb)))
   (aqQ (bqk (PW.pt (hqc (bqr (pv 1)) (fq8 (eq6 (bqr (pv 2))))))
    (aqd (aqx (dqI (aqa lqZ (aqa (dqI aqb) (aqa lqZ aqb)))))) aqD)
   (aqc (aqj (i := 3) bqS.nd rfl (Or.inl rfl) (jqH aqb))
   (aqc (aqj (i := 4) bqS.nd rfl (Or.inl rfl) (pv 2))
   (aqQ (aqj (i := 5) bqS.nd rfl (Or.inl rfl) (aqe (dvs := [.non]) (bqL g) (hr.mono (by decide)) rfl g.bq1 g.bqv.kp g.cqd (.cons rfl .nil) aqR (aqa (pv 0) (aqa (aqB (v := eqx) rfl g.eqn ⟨_, rfl⟩) aqb))))
   (aqc (jqs PassesOwn.leaving (aqy nqx (pv 5) aqs (nomark _))
   (aqc (gqu (dqB (K := K) rfl PySem.F.plainAttrs_list PySem.F.slot_list_append PySem.F.type_list_append dqD (pv 3) (aqa (pv 5) aqb)))
   (aqc (aqj (i := 4) bqS.nd rfl (Or.inl rfl) (cqP (pv 0) g.aqh g.aqE (aqL g) (hr.mono (by decide)) g.aqK .nil pass0 (aqa aqs aqb)))
   (aqd (aqj (i := 5) bqS.nd rfl (Or.inl rfl) (aqe (dvs := [.non]) (bqL g) (hr.mono (by decide)) rfl g.bq1 g.bqv.kp g.cqd (.cons rfl .nil) aqR (aqa (pv 0) (aqa (aqB (v := eqx) rfl g.eqn ⟨_, rfl⟩) aqb))))))))
   (aqd (aqx (dqI (aqa (pv 2) (aqa (bqd (jq7 (K := K) rfl) rfl g.kqm jqr (aqa (pv 3) aqb)) (aqa (pv 4) aqb)))))))))))), ?_⟩
  have eF : eqx = .str ⟨frS.toArray⟩ := by
   show V.str (Str.ofString _) = _
   unfold frS; simp
  have e1 : Str.ofString "/" = ⟨[47].toArray⟩ := by decide +kernel
  rw [eF, e1]
  walk_at "rd"
  refine ⟨fun σ H1 => SameBut p H H1 ∧ ∃ (j : Nat) (r : Bool), σ = [some (.ref p), some (.bl must), some (.bl r), none, none, none] ∧ Cur H1 g.aqu p t j ∧ j ≤ t.length ∧ ((r = true ∧ (t.drop i).head? = some 47 ∧ j = i + 1) ∨ (r = false ∧ ¬ (t.drop i).head? = some 47 ∧ j = i)), ?_, ?_⟩
  ·refine aqT hcur ⟨p, t, [47], i, rfl, hcur, hi, hl, fun hp H1 s1 c1 => ⟨s1, i + 1, true, rfl, c1, ?_, .inl ⟨rfl, take1.mp hp, rfl⟩⟩, fun hp => ⟨SameBut.refl _ _, i, false, rfl, hcur, hi, .inr ⟨rfl, fun z => hp (take1.mpr z), rfl⟩⟩⟩
   have := congrArg List.length hp
   rw [List.length_take, List.length_drop] at this
   simp only [List.length_singleton] at this
   omega
  rintro σ H1 ⟨s1, j, r, rfl, c1, hj, hr⟩
  walk_at "rd"
  refine ⟨fun σ H2 => H2 = H1 ∧ ¬ (must = true ∧ r = false) ∧ σ = [some (.ref p), some (.bl must), some (.bl r), none, none, none], ?_, ?_⟩
  ·have fin : must = true → r = false → (∀ u H', SameBut p H H' → Cur H' g.aqu p t j → IsT H' (wayOf (true, [], true)) u → Q u H') := fun hm h0 u H' sb cu hu => by
    rcases hr with ⟨z, _⟩ | ⟨_, hh, rfl⟩
    ·rw [h0] at z; cases z
    ·exact k1 (true, [], true) 0 (by unfold wayM; rw [if_neg hh, if_pos hm]) H' sb cu u hu
   cases must with
   | true =>
    rw [if_pos rfl]
    cases r with
    | true => exact ⟨rfl, by simp, rfl⟩
    | false =>
     rw [if_pos rfl]
     exact ⟨by decide, fun pt Ha n1 sa hpt => ⟨by decide, fun pw Hb nb sb' hpw => fin rfl rfl _ Hb ((s1.trans sa.but).trans sb'.but) ((c1.same sa).same sb') (wayT' (ss := []) hpw (sb' _ _ hpt))⟩⟩
   | false =>
    rw [if_neg (by decide)]
    exact ⟨rfl, by simp, rfl⟩
  rintro σ H2 ⟨rfl, hmr, rfl⟩
  walk_at "rd"
  obtain ⟨tot, htot⟩ : ∃ tot, tot = stpF ((t.drop i).length + 1) (t.drop j) r := ⟨_, rfl⟩
  have ew : wayM must (t.drop i) = sh (j - i) (mp (fun x => (r, x)) tot) := by
   unfold wayM
   rcases hr with ⟨rfl, hh, rfl⟩ | ⟨rfl, hh, rfl⟩
   ·rw [if_pos hh, htot, show i + 1 - i = 1 by omega, List.drop_drop]
   ·rw [if_neg hh, if_neg (fun z => hmr ⟨z, rfl⟩), htot, Nat.sub_self, sh_0]
  have hij : i ≤ j := by rcases hr with ⟨_, _, rfl⟩ | ⟨_, _, rfl⟩ <;> omega
  have hk1 : ∀ x n, tot = .ok (x, n) → ∀ u H', SameBut p H H' → Cur H' g.aqu p t (j + n) → IsT H' (wayOf (r, x)) u → Q u H' := fun x n e u H' sb cu hu =>
   k1 (r, x) (j - i + n) (by rw [ew, e]; rfl) H' sb (by rw [show i + (j - i + n) = j + n by omega]; exact cu) u hu
  have hk2 : ∀ n, tot = .error n → ∀ d H', SameBut p H H' → H' d = some (.xd [("at", .int ((j + n : Nat) : Int))]) → E (.ref g.aqn) (some d) H' := fun n e d H' sb hx =>
   k2 (j - i + n) (by rw [ew, e]; rfl) d H' sb (by rw [hx, show i + (j - i + n) = j + n by omega])
  refine ⟨by decide, fun q H3 hq s3 hq3 => ?_⟩
  have hqp : q ≠ p := by obtain ⟨dx, hp⟩ := c1; exact (aql hp hq).symm
  have c3 := c1.same s3
  have sb3 : SameBut p H H3 := s1.trans s3.but
  have hqH : H q = none := s1.free hq hqp
  obtain ⟨W, hW⟩ : ∃ W : Nat → St → Hp → Prop, W = fun m σ H' => ∃ (dn : List (List Nat)) (s : List Nat) (b n : Nat) (en : Bool), σ = [some (.ref p), some (.bl must), some (.bl r), some (.ref q), some (.bl en), some (.str ⟨s.toArray⟩)] ∧ txtM frS (t.drop (j + b)) none = .ok (s, n) ∧ j + b + n ≤ t.length ∧ dn.length ≤ b ∧ (t.drop (j + b)).length ≤ m ∧ Via tot b (fun x => (dn ++ x.1, x.2)) (stpF (m + 1) (t.drop (j + b)) en) ∧ H' q = some (.lst (dn.map sV)) ∧ SameBut p H H' ∧ Cur H' g.aqu p t (j + b + n) := ⟨_, rfl⟩
  have txn : ∀ {b n : Nat} {s : List Nat}, j + b ≤ t.length → txtM frS (t.drop (j + b)) none = .ok (s, n) → j + b + n ≤ t.length := fun {b n s} hb e => by
   have := (cqn e).1
   rw [List.length_drop] at this
   omega
  refine ⟨fun σ H4 => ∃ m, W m σ H4, ?_, ?_⟩
  ·refine ⟨p, t, frS, j, none, rfl, c3, hj, hl, h128, lqs, fun s n e H4 s4 c4 => ⟨(t.drop i).length, ?_⟩, fun n e d H4 s4 hx => hk2 n ?_ d H4 (sb3.trans s4) hx⟩
   ·rw [hW]
    refine ⟨[], s, 0, n, r, rfl, e, txn hj e, Nat.le_refl _, by simp only [List.length_drop]; omega, ?_, s4 _ _ hqp hq3, sb3.trans s4, c4⟩
    show Via tot 0 (fun x => x) _
    rw [htot]
    exact Via.refl
   ·rw [htot]
    unfold stpF
    rw [e]
  rintro σ H4 ⟨m, hm⟩
  unfold L2.Later
  rw [L2.qqa]
  refine lqu W m hm ?_
  rintro m σ H5 hm
  rw [hW] at hm
  obtain ⟨dn, s, b, n, en, rfl, etx, hbn, hdn, hfu, via, hq5, sb5, c5⟩ := hm
  walk_at "rd"
  by_cases hs : s = []
  ·refine ite2 (fun z => absurd (hqd.mpr hs) z) (fun _ => ?_)
   have e2 : stpF (m + 1) (t.drop (j + b)) en = .ok (([], en), n) := by
    conv => lhs; unfold stpF
    rw [etx]; exact if_pos hs
   have e3 := via.ok e2
   exact ⟨_, .inl (.of hq5), fun pt Ha sa hpt => ⟨by decide, fun pw Hb nb sb' hpw => hk1 _ _ e3 _ Hb ((sb5.trans sa.but).trans sb'.but) (by rw [← Nat.add_assoc]; exact (c5.same sa).same sb') (by rw [List.append_nil]; exact wayT' hpw (sb' _ _ hpt))⟩⟩
  ·have hpos := (cqn etx).2.2 hs
   have hm0 : ∃ m', m = m' + 1 := by
    refine ⟨m - 1, ?_⟩
    rw [List.length_drop] at hfu
    omega
   obtain ⟨m', rfl⟩ := hm0
   refine ite2 (fun _ => ⟨_, fun _ _ h => h, ⟨_, .of hq5⟩, _, hq5, ?_, ?_⟩) (fun z => absurd (hqd.mp (Classical.not_not.mp z)) hs)
   ·rw [List.length_map]
    exact Nat.lt_of_le_of_lt (show dn.length ≤ 100000 by omega) (by decide)
   have c6 : Cur (upd H5 q (.lst (dn.map sV ++ [sV s]))) g.aqu p t (j + b + n) := by
    obtain ⟨dx, hp⟩ := c5
    exact ⟨dx, by rw [aqv hqp.symm]; exact hp⟩
   have sb6 : SameBut p H (upd H5 q (.lst (dn.map sV ++ [sV s]))) := sb5.upd hqH
   have hq6 : (upd H5 q (.lst (dn.map sV ++ [sV s]))) q = some (.lst ((dn ++ [s]).map sV)) := by rw [aqg, List.map_append]; rfl
   generalize upd H5 q (.lst (dn.map sV ++ [sV s])) = H6 at c6 sb6 hq6 ⊢
   have hdd : (t.drop (j + b)).drop n = t.drop (j + b + n) := List.drop_drop
   refine aqT c6 ⟨p, t, [47], j + b + n, rfl, c6, hbn, hl, fun hp H7 s7 c7 => ?_, fun hp => ?_⟩
   ·have hh : ((t.drop (j + b)).drop n).head? = some 47 := by rw [hdd]; exact take1.mp hp
    have e2 : stpF (m' + 1 + 1) (t.drop (j + b)) en = sh (n + 1) (mp (fun x => (s :: x.1, x.2)) (stpF (m' + 1) (t.drop (j + (b + (n + 1)))) true)) := by
     conv => lhs; unfold stpF
     rw [etx]
     show (if s = [] then _ else _) = _
     rw [if_neg hs, if_pos hh, List.drop_drop, Nat.add_assoc j b (n + 1)]
    have via2 := via.step e2
    have hb7 : j + (b + (n + 1)) ≤ t.length := by
     have := congrArg List.length hp
     rw [List.length_take, List.length_drop] at this
     simp only [List.length_singleton] at this
     omega
    refine ⟨p, t, frS, j + (b + (n + 1)), none, rfl, by rw [show j + (b + (n + 1)) = j + b + n + 1 by omega]; exact c7, hb7, hl, h128, lqs, fun s' n' e' H8 s8 c8 => ⟨m', by omega, ?_⟩, fun n' e' d H8 s8 hx => hk2 (b + (n + 1) + n') (via2.err (by unfold stpF; rw [e'])) d H8 ((sb6.trans s7).trans s8) (by rw [hx, show j + (b + (n + 1)) + n' = j + (b + (n + 1) + n') by omega])⟩
    rw [hW]
    refine ⟨dn ++ [s], s', b + (n + 1), n', true, rfl, e', txn hb7 e', by rw [List.length_append, List.length_singleton]; omega, by rw [List.length_drop] at hfu ⊢; omega, ?_, (s7.trans s8) _ _ hqp hq6, (sb6.trans s7).trans s8, c8⟩
    simpa using via2
   ·have hh : ¬ ((t.drop (j + b)).drop n).head? = some 47 := by rw [hdd]; exact fun z => hp (take1.mpr z)
    have e2 : stpF (m' + 1 + 1) (t.drop (j + b)) en = sh n (mp (fun x => (s :: x.1, x.2)) (stpF (m' + 1) (t.drop (j + (b + n))) false)) := by
     conv => lhs; unfold stpF
     rw [etx]
     show (if s = [] then _ else _) = _
     rw [if_neg hs, if_neg hh, List.drop_drop, Nat.add_assoc j b n]
    have via2 := via.step e2
    have hb7 : j + (b + n) ≤ t.length := by omega
    refine ⟨p, t, frS, j + (b + n), none, rfl, by rw [← Nat.add_assoc]; exact c6, hb7, hl, h128, lqs, fun s' n' e' H8 s8 c8 => ⟨m', by omega, ?_⟩, fun n' e' d H8 s8 hx => hk2 (b + n + n') (via2.err (by unfold stpF; rw [e'])) d H8 (sb6.trans s8) (by rw [hx, show j + (b + n) + n' = j + (b + n + n') by omega])⟩
    rw [hW]
    refine ⟨dn ++ [s], s', b + n, n', false, rfl, e', txn hb7 e', by rw [List.length_append, List.length_singleton]; omega, by rw [List.length_drop] at hfu ⊢; omega, ?_, s8 _ _ hqp hq6, sb6.trans s8, c8⟩
    simpa using via2
theorem gqG (g : G K mg) : FnOk P w K mg base (CXN P w base) 5 g.dq3 g.dql ["cursor"] (kqo K g.aqu g.aqn) := by
 refine g.dqU.okn kqW (fun vs H Q E h => ?_) (fun cdv A outer s H vs Q E hr h => ?_)
 ·obtain ⟨p, t, i, rfl, _⟩ := h; rfl
 ·obtain ⟨p, t, i, rfl, hcur, hi, hl, h128, k1, k2⟩ := h
  refine ⟨_, (aqd (aqx (cq6 (bqr (cqP (pv 0) g.aqh g.aqE (aqL g) (hr.mono (by decide)) g.aqK .nil pass0 (aqa aqs aqb))) (aqe (dvs := [.non]) (bqL g) (hr.mono (by decide)) rfl g.bq1 g.bqv.kp g.cqd (.cons rfl .nil) aqR (aqa (pv 0) (aqa (aqB (v := aq8) rfl g.bqH ⟨_, rfl⟩) aqb))) aqX))), ?_⟩
  have eF : aq8 = .str ⟨frQ.toArray⟩ := by
   show V.str (Str.ofString _) = _
   unfold frQ; simp
  have e1 : Str.ofString "=" = ⟨[61].toArray⟩ := by decide +kernel
  rw [eF, e1]
  walk_at "rd"
  refine aqT hcur ⟨p, t, [61], i, rfl, hcur, hi, hl, fun hp H1 s1 c1 => ⟨_, rfl, ?_⟩, fun hp => ⟨_, rfl, ?_⟩⟩
  ·rw [if_pos rfl]
   have h1 := take1.mp hp
   have hi1 : i + 1 ≤ t.length := by
    have := congrArg List.length hp
    rw [List.length_take, List.length_drop] at this
    simp only [List.length_singleton] at this
    omega
   have em : valM (t.drop i) = sh 1 (mp some (txtM frQ (t.drop (i + 1)) none)) := by unfold valM; rw [if_pos h1, List.drop_drop]
   refine ⟨p, t, frQ, i + 1, none, rfl, c1, hi1, hl, h128, jqC, fun s n e H2 s2 c2 => k1 (some s) (1 + n) (by rw [em, e]; rfl) H2 (s1.trans s2) (by rw [← Nat.add_assoc]; exact c2), fun n e d H2 s2 hx => k2 (1 + n) (by rw [em, e]; rfl) d H2 (s1.trans s2) (by rw [hx, Nat.add_assoc])⟩
  ·rw [if_neg (by decide)]
   exact k1 none 0 (by unfold valM; rw [if_neg (fun z => hp (take1.mpr z))]) H (SameBut.refl _ _) hcur
theorem kqU (g : G K mg) : FnOk P w K mg base (CXN P w base) 5 g.eq4 g.dq4 ["cursor"] (kqV K g.aqu g.aqn) := by
 refine g.gqd.okn lqI (fun vs H Q E h => ?_) (fun cdv A outer s H vs Q E hr h => ?_)
 ·obtain ⟨p, t, i, rfl, _⟩ := h; rfl
 ·obtain ⟨p, t, i, rfl, hcur, hi, hl, h128, k1, k2⟩ := h
  refine ⟨_, (aqd (aqx (cq6 (bqr (cqP (pv 0) g.aqh g.aqE (aqL g) (hr.mono (by decide)) g.aqK .nil pass0 (aqa aqs aqb))) (aqe (dvs := [.non]) (bqL g) (hr.mono (by decide)) rfl g.bq1 g.bqv.kp g.cqd (.cons rfl .nil) aqR (aqa (pv 0) (aqa (aqB (v := gqg) rfl g.gqD ⟨_, rfl⟩) aqb))) aqX))), ?_⟩
  have eF : gqg = .str ⟨frM.toArray⟩ := by
   show V.str (Str.ofString _) = _
   unfold frM; simp
  have e1 : Str.ofString "#" = ⟨[35].toArray⟩ := by decide +kernel
  rw [eF, e1]
  walk_at "rd"
  refine aqT hcur ⟨p, t, [35], i, rfl, hcur, hi, hl, fun hp H1 s1 c1 => ⟨_, rfl, ?_⟩, fun hp => ⟨_, rfl, ?_⟩⟩
  ·rw [if_pos rfl]
   have h1 := take1.mp hp
   have hi1 : i + 1 ≤ t.length := by
    have := congrArg List.length hp
    rw [List.length_take, List.length_drop] at this
    simp only [List.length_singleton] at this
    omega
   have em : marM (t.drop i) = sh 1 (mp some (txtM frM (t.drop (i + 1)) none)) := by unfold marM; rw [if_pos h1, List.drop_drop]
   refine ⟨p, t, frM, i + 1, none, rfl, c1, hi1, hl, h128, rqe, fun s n e H2 s2 c2 => k1 (some s) (1 + n) (by rw [em, e]; rfl) H2 (s1.trans s2) (by rw [← Nat.add_assoc]; exact c2), fun n e d H2 s2 hx => k2 (1 + n) (by rw [em, e]; rfl) d H2 (s1.trans s2) (by rw [hx, Nat.add_assoc])⟩
  ·rw [if_neg (by decide)]
   exact k1 none 0 (by unfold marM; rw [if_neg (fun z => hp (take1.mpr z))]) H (SameBut.refl _ _) hcur
theorem dqy (g : G K mg) : FnOk P w K mg base (CXN P w base) 5 g.bqz g.aq1 ["cursor", "free", "most"] (gqp K g.aqu g.aqn) := by
 refine g.bqG.okn dqO (fun vs H Q E h => ?_) (fun cdv A outer s H vs Q E hr h => ?_)
 ·obtain ⟨p, t, fr, i, mo, rfl, _⟩ := h; rfl
 ·obtain ⟨p, t, fr, i, mo, rfl, hcur, hi, hl, h128, hfl, k1, k2⟩ := h
  refine ⟨_, (aqc (aqj (i := 3) dqO.nd rfl (Or.inl rfl) (aqe (bqL g) (hr.mono (by decide)) rfl g.bq1 g.bqv.kp g.iq2 .nil aqR (aqa (pv 0) (aqa (pv 1) (aqa (pv 2) aqb)))))
   (aqc (bqk (aqy fq5 (pv 3) aqs (nomark _))
    (aqd (fqi eqh rfl g.bqZ g.cqz (aqP g) (hr.mono (by decide)) g.aqN rfl pass0 rfl (aqa (cqp (pv 0) rfl) aqb))) aqD)
   (aqd (aqx (pv 3))))), ?_⟩
  walk_at "rd"
  refine ⟨p, t, fr, i, mo, rfl, hcur, hi, hl, h128, hfl, fun s n e H1 s1 c1 => ?_, fun n e d H1 s1 hx => k2 n (by unfold filM; rw [e]) d H1 s1 hx⟩
  walk_at "rd"
  by_cases hs : s = []
  ·rw [if_pos (hqd.mpr hs)]
   exact aqW c1 g.aqh g.aqo (eqa fun d H' sm hx => k2 n (by unfold filM; rw [e]; exact if_pos hs) d H' (s1.trans sm.but) hx)
  ·rw [if_neg (fun z => hs (hqd.mp z))]
   exact k1 s n (by unfold filM; rw [e]; exact if_neg hs) H1 s1 c1
theorem tqB (g : G K mg) : FnOk P w K mg base CX0 5 g.oqQ g.lql ["address"] (uqJ K) := by
 refine g.qq0.ok qqr (fun vs H Q E h => ?_) (fun cdv A outer s H vs Q E hr h => ?_)
 ·obtain ⟨x, v, rfl, _⟩ := h; rfl
 ·obtain ⟨x, v, rfl, hI, wf, sz, k⟩ := h
  refine ⟨_, (aqQ (aqj (i := 1) qqr.nd rfl (Or.inl rfl) (cq6 (bqr (aqe (nqs g) (hr.mono (by decide)) rfl g.lqg g.iqu.kp g.lqj .nil pass0 (aqa (pv 0) aqb))) (aqw (aqz (K := K) rfl) (aq5 (aqA (K := K) rfl) (pv 0) (aqB (v := nqU) rfl g.lqt ⟨_, rfl⟩) (fun _ _ => rfl)) aqs) aqs))
   (aqd (aqx (aqw (aqz (K := K) rfl) (aqw (aqz (K := K) rfl) (aqw (aqz (K := K) rfl) (aqw (aqz (K := K) rfl) (pv 1) (aqe (kqJ g) (hr.mono (by decide)) rfl g.hqX g.fqR.kp g.hqZ .nil pass0 (aqa (aq5 (aqA (K := K) rfl) (pv 0) (aqB (v := uqj) rfl g.qq2 ⟨_, rfl⟩) (fun _ _ => rfl)) (aqa (aq5 (aqA (K := K) rfl) (pv 0) (aqB (v := vqz) rfl g.tqk ⟨_, rfl⟩) (fun _ _ => rfl)) aqb)))) (aqe (mqL g) (hr.mono (by decide)) rfl g.kqs g.hql.kp g.jqZ .nil pass0 (aqa (aq5 (aqA (K := K) rfl) (pv 0) (aqB (v := xqq) rfl g.wqz ⟨_, rfl⟩) (fun _ _ => rfl)) aqb))) (aqe (iqA g) (hr.mono (by decide)) rfl g.fqW g.dqH.kp g.fq0 .nil pass0 (aqa (aq5 (aqA (K := K) rfl) (pv 0) (aqB (v := oq1) rfl g.lqk ⟨_, rfl⟩) (fun _ _ => rfl)) aqb))) (aqe (lqM g) (hr.mono (by decide)) rfl g.iqS g.gqb.kp g.jqa .nil pass0 (aqa (aq5 (aqA (K := K) rfl) (pv 0) (aqB (v := vqy) rfl g.sqH ⟨_, rfl⟩) (fun _ _ => rfl)) aqb)))))), ?_⟩
  obtain ⟨p, w, q, rfl, hp, hwk, i4⟩ := vqU hI
  obtain ⟨pw, ps, rfl, hw, hs⟩ := uqn hwk
  have hlen := sz.all
  rw [Ad.shw] at hlen
  simp only [List.length_append] at hlen
  have c1 : Str.ofString ":" = ⟨[58].toArray⟩ := by decide +kernel
  rw [c1]
  walk_at "rd"
  refine ⟨fun σ H' => H' = H ∧ σ = [some (.ref p), some (.str ⟨(schT x.scheme).toArray⟩)], ?_, ?_⟩
  ·refine ⟨p, x.scheme, _, rfl, hp, _, rfl, ?_⟩
   by_cases hh : x.scheme = []
   ·refine ite2 (fun z => absurd hh (by simpa using z)) (fun _ => ⟨rfl, ?_⟩)
    rw [hh]; rfl
   ·refine ite2 (fun _ => ?_) (fun z => absurd hh (by simpa using z))
    have e : schT x.scheme = x.scheme ++ [58] := by simp [schT, hh]
    refine ⟨_, _, .inr hp, rfl, ?_⟩
    rw [show (⟨#[58]⟩ : Str) = ⟨[58].toArray⟩ from rfl]
    walk_at "rd"
    rw [e, List.length_append] at hlen
    refine ⟨aqq (by simp at hlen ⊢; omega), ?_⟩
    rw [e]
  rintro σ H' ⟨rfl, rfl⟩
  walk_at "rd"
  refine ⟨_, _, .inr hp, rfl, _, _, .inr hp, rfl, x.house, x.door, rfl, fun l e => ⟨(wf.hou l e).1.2, (wf.hou l e).2⟩, wf.doo, fun H1 s1 => ?_⟩
  walk_at "rd"
  refine ⟨aqq (by simp; omega), _, _, .inr (s1.tup hp), rfl, x.rooted, x.ends, x.steps, pw, ps, rfl, s1.tup hw, s1.tup hs, fun s h => ⟨sz.stp s h, (wf.stp s h).2⟩, sz.num, by show x.wayT.length ≤ 90000; omega, fun H2 s2 => ?_⟩
  walk_at "rd"
  refine ⟨aqq (by show _ + x.wayT.length ≤ _; simp; omega), _, _, .inr ((s1.trans s2).tup hp), rfl, x.quest, q, rfl, i4.mono (s1.trans s2), fun ps e => ⟨(sz.que ps e).1, fun q hq => ⟨wf.que ps e q hq, (sz.que ps e).2 q hq⟩⟩, by omega, fun H3 s3 => ?_⟩
  walk_at "rd"
  refine ⟨aqq (by show _ + (queT x.quest).length ≤ _; simp [Ad.wayT] at hlen ⊢; omega), _, _, .inr (((s1.trans s2).trans s3).tup hp), rfl, x.mark, rfl, fun l e => ⟨sz.mar l e, wf.mar l e⟩, fun H4 s4 => ?_⟩
  walk_at "rd"
  refine ⟨aqq (by simp [Ad.wayT] at hlen ⊢; omega), ?_⟩
  have := k H4 (((s1.trans s2).trans s3).trans s4)
  rw [Ad.shw] at this
  simpa [Ad.wayT] using this
theorem jqU (g : G K mg) : FnOk P w K mg base CX0 5 g.dqg g.cqN ["_law_address_here", "_law_cell"] (jq4 K) := by
 refine g.fqg.ok aqt (fun vs H Q E h => ?_) (fun cdv A outer s H vs Q E hr h => ?_)
 ·obtain ⟨x, v, i, rfl, _⟩ := h; rfl
 ·obtain ⟨x, v, i, rfl, hI, ok, k⟩ := h
  refine ⟨_, (aqc (oqr (pv 0) (rqa (n := 6) (K := K) rfl rfl (dqf (bqN (i := 2) aqt.nd rfl (Or.inl rfl)) (dqf (bqN (i := 3) aqt.nd rfl (Or.inl rfl)) (dqf (bqN (i := 4) aqt.nd rfl (Or.inl rfl)) (dqf (bqN (i := 5) aqt.nd rfl (Or.inl rfl)) (dqf (bqN (i := 6) aqt.nd rfl (Or.inl rfl)) (dqf (bqN (i := 7) aqt.nd rfl (Or.inl rfl)) nqA))))))))
   (aqc (aqj (i := 8) aqt.nd rfl (Or.inl rfl) aqs)
   (aqQ (bqk (aqy nqx (pv 2) aqs (nomark _))
    (aqd (aqj (i := 8) aqt.nd rfl (Or.inl rfl) (aqw (bqw (K := K)) (pv 2) aqs))) aqD)
   (aqQ (bqk (aqy fqz (pv 3) aqX (nomark _))
    (aqd (aqj (i := 8) aqt.nd rfl (Or.inl rfl) (aqw (bqw (K := K)) (aqw (bqw (K := K)) (pv 8) aqs) (aqe (cqQ g) (hr.mono (by decide)) rfl g.cqK g.bqV.kp g.cqL .nil pass0 (aqa (pv 3) (aqa aqs (aqa (pv 1) aqb))))))) aqD)
   (aqQ (bqk (aqy fqz (pv 4) aqX (nomark _))
    (aqd (aqj (i := 8) aqt.nd rfl (Or.inl rfl) (aqw (bqw (K := K)) (aqw (bqw (K := K)) (pv 8) aqs) (bqd iq1 rfl g.pqS nqV (aqa (pv 4) aqb))))) aqD)
   (aqQ (aqj (i := 9) aqt.nd rfl (Or.inl rfl) (hqN (bqa nqx (pv 8) aqs (nomark _)) (hqN (bqa (wqB hr.units) (aq5 (aqA (K := K) rfl) (pv 5) aqf (fun _ _ => rfl)) (dqI aqb) (nomark _)) (hqQ (bqa fq5 (aqw eqQ (pv 1) aqf) aqf (nomark _))))))
   (aqQ (bqk (PW.pt (hqc (bqr (aq5 (aqA (K := K) rfl) (pv 5) aqf (fun _ _ => rfl))) (fq8 (eq6 (bqr (pv 9))))))
    (aqd (aqj (i := 8) aqt.nd rfl (Or.inl rfl) (aqw (bqw (K := K)) (pv 8) aqs))) aqD)
   (aqc (aqj (i := 10) aqt.nd rfl (Or.inr rfl) (aq5 (aqA (K := K) rfl) (pv 5) aqf (fun _ _ => rfl)))
   (aqQ (aqj (i := 8) aqt.nd rfl (Or.inl rfl) (aqw (bqw (K := K)) (pv 8) (dqB (K := K) rfl PySem.F.plainAttrs_str PySem.F.slot_str_join PySem.F.type_str_join (gqW (K := K) rfl) aqs (aqa (lqO (fx := ["_law_steps_here", "_law_cell"]) (fr := [10, 1]) rfl rfl (by decide +kernel) rfl (by decide +kernel) rfl (by decide +kernel) rfl (.cons rfl rfl rfl rfl (.cons rfl rfl rfl rfl .nil)) rfl (eqk rfl g.gqe (aqa (aqO (bqJ (K := K) rfl) rfl g.iqI PySem.boot_len (aqa (pv 10) aqb)) aqb)) (fun _ _ _ => mqA) (fun _ _ _ => (aqe (cqQ g) (hr.mono (by decide)) rfl g.cqK g.bqV.kp g.cqL .nil pass0 (aqa (aq5 (aqA (K := K) rfl) (pv 1) (pv 0) (fun _ _ => rfl)) (aqa aqs (aqa (aqw (bqw (K := K)) (pv 2) (aqw cqA aqf (pv 0))) aqb)))))) aqb))))
   (aqQ (bqk (PW.pt (hqc (bqr (aq5 (aqA (K := K) rfl) (pv 5) aqf (fun _ _ => rfl))) (fq8 (aqy (pq0 hr.units) (pv 10) (dqI aqb) (nomark _)))))
    (aqd (aqj (i := 8) aqt.nd rfl (Or.inl rfl) (aqw (bqw (K := K)) (pv 8) aqs))) aqD)
   (aqQ (bqk (aqy fqz (pv 6) aqX (nomark _))
    (aqd (aqj (i := 8) aqt.nd rfl (Or.inl rfl) (aqw (bqw (K := K)) (pv 8) (aqe (fq4 g) (hr.mono (by decide)) rfl g.dqv g.bqX.kp g.dqA .nil pass0 (aqa (pv 6) (aqa (pv 1) aqb)))))) aqD)
   (aqQ (bqk (aqy fqz (pv 7) aqX (nomark _))
    (aqd (aqj (i := 8) aqt.nd rfl (Or.inl rfl) (aqw (bqw (K := K)) (aqw (bqw (K := K)) (pv 8) aqs) (aqe (cqQ g) (hr.mono (by decide)) rfl g.cqK g.bqV.kp g.cqL .nil pass0 (aqa (pv 7) (aqa aqs (aqa (pv 1) aqb))))))) aqD)
   (aqd (aqx (pv 8))))))))))))))), ?_⟩
  have c1 : Str.ofString ":" = ⟨[58].toArray⟩ := by decide +kernel
  have c2 : Str.ofString "//" = ⟨[47, 47].toArray⟩ := by decide +kernel
  have c3 : Str.ofString "/" = ⟨[47].toArray⟩ := by decide +kernel
  have c4 : Str.ofString "#" = ⟨[35].toArray⟩ := by decide +kernel
  have eS : Str.ofString "!$'()*,;@&=+" = ⟨frS.toArray⟩ := by unfold frS; simp
  have eM : Str.ofString "!$'()*,;@&=+/?:" = ⟨frM.toArray⟩ := by unfold frM; simp
  rw [c1, c2, c3, c4, eS, eM]
  have wf := ok.wf
  obtain ⟨px, w, vq, rfl, hpx, hwx, hqx⟩ := vqv hI
  obtain ⟨pw, ps, rfl, hpw, hps⟩ := tqZ (r := x.rooted) (e := x.ends) (ss := x.steps) hwx
  have sl : (schT x.scheme).length ≤ 9 := by
   unfold schT
   split
   ·simp
   ·have := wf.sch.1; simp only [List.length_append, List.length_cons, List.length_nil]; omega
  walk_at "rd"
  refine ⟨px, _, rfl, .of hpx, rfl, _, _, rfl, _, _, rfl, _, _, rfl, _, _, rfl, _, _, rfl, _, _, rfl, rfl, ?_⟩
  obtain ⟨S, hSS⟩ : ∃ S : List Nat → Option V → Option V → St, S = fun t l z => [some (.ref px), some (.int i), some (.str ⟨x.scheme.toArray⟩), some (otV x.house), some (itV x.door), some (.ref pw), some vq, some (otV x.mark), some (.str ⟨t.toArray⟩), l, z] := ⟨_, rfl⟩
  refine ⟨fun σ H1 => H1 = H ∧ σ = S (schT x.scheme) none none, ?_, ?_⟩
  ·rw [hSS]
   walk_at "rd"
   by_cases hh : x.scheme = []
   ·rw [hh]
    refine ite2 (fun z => absurd rfl z) (fun _ => ?_)
    simp [schT]
   ·refine ite2 (fun _ => ?_) (fun z => absurd (hqd.mp (by simpa using z)) hh)
    have e : schT x.scheme = x.scheme ++ [58] := by simp [schT, hh]
    rw [e, List.length_append] at sl
    refine ⟨aqq (by simp at sl ⊢; omega), ?_⟩
    rw [e]
  rintro σ H1 ⟨rfl, e1⟩
  rw [hSS] at e1
  subst e1
  walk_at "rd"
  refine ⟨fun σ H2 => H2 = H1 ∧ ∃ h, HouW x.house h ∧ h.length ≤ 182 ∧ σ = S (schT x.scheme ++ h) none none, ?_, ?_⟩
  ·rw [hSS]
   cases hh : x.house with
   | none => exact ite2 (fun z => absurd rfl z) (fun _ => ⟨rfl, [], rfl, by decide, by simp⟩)
   | some l =>
    refine ite2 (fun _ => ?_) (fun z => absurd (Classical.not_not.mp z) (by simp [otV]))
    have hl := wf.hou l hh
    walk_at "rd"
    refine ⟨aqq (by omega), l, [], i, rfl, by omega, hl.2, by decide, by decide, fun a ha hal => ?_⟩
    walk_at "rd"
    exact ⟨aqq (by simp; omega), 47 :: 47 :: a, ⟨a, rfl, ha, fun z => by rw [z] at hl; exact absurd hl.1.1 (by decide), hl.1.2⟩, by simp; omega, by simp⟩
  rintro σ H2 ⟨rfl, h, hH, hhl, e2⟩
  rw [hSS] at e2
  subst e2
  walk_at "rd"
  refine ⟨fun σ H3 => H3 = H2 ∧ σ = S (schT x.scheme ++ h ++ dooT x.door) none none, ?_, ?_⟩
  ·rw [hSS]
   cases hh : x.door with
   | none => exact ite2 (fun z => absurd rfl z) (fun _ => ⟨rfl, by simp [dooT]⟩)
   | some n =>
    refine ite2 (fun _ => ?_) (fun z => absurd (Classical.not_not.mp z) (by simp [itV]))
    have hi := (wf.doo n hh).1
    have hdl := oqf hi.1 hi.2
    refine ⟨aqq (by simp; omega), n, rfl, lg hi.1 hi.2, aqq (by rw [oqE, cqV]; simp; omega), rfl, ?_⟩
    rw [oqE, kq3]
    simp [dooT]
  rintro σ H3 ⟨rfl, e3⟩
  rw [hSS] at e3
  subst e3
  have t3l : (schT x.scheme ++ h ++ dooT x.door).length ≤ 300 := by
   have : (dooT x.door).length ≤ 7 := by
    cases hh : x.door with
    | none => simp [dooT]
    | some n =>
     have hi := (wf.doo n hh).1
     have hdl := oqf hi.1 hi.2
     simp only [dooT, List.length_cons]
     omega
   simp only [List.length_append]
   omega
  have t3n : ¬ (schT x.scheme ++ h ++ dooT x.door = []) → x.scheme ≠ [] ∨ x.house ≠ none := fun z => by
   by_cases hs : x.scheme = []
   ·refine .inr fun hh => z ?_
    rw [hh] at hH
    have hH : h = [] := hH
    cases hd : x.door with
    | some n => exact absurd hh (wf.doo n hd).2
    | none => rw [hs, hH]; rfl
   ·exact .inl hs
  generalize et3 : schT x.scheme ++ h ++ dooT x.door = t3 at t3l t3n ⊢
  walk_at "rd"
  refine ⟨fun σ H4 => Same H3 H4 ∧ ∃ lb : Bool, (lb = true → (x.scheme ≠ [] ∨ x.house ≠ none) ∧ x.steps = []) ∧ σ = S t3 (some (.bl lb)) none, ?_, ?_⟩
  ·rw [hSS]
   refine ite2 (fun hn => ?_) (fun _ => ⟨Same.refl _, false, (fun z => by cases z), rfl⟩)
   refine ⟨_, _, .inr (.of hpw), rfl, by decide, fun p4 H4 n4 s4 e4 => ?_⟩
   refine ⟨.tuple (x.steps.map st), .tuple [], .tup (s4 _ _ hps) (lqr _), .tup e4 .nil, gqq (fun l hl => (wf.stp l hl).2), by decide, _, rfl, ?_⟩
   rw [nqJ]
   refine ite2 (fun hc => ⟨by decide, s4, _, fun _ => ⟨t3n fun z => hn (by rw [z]), ?_⟩, rfl⟩) (fun hc => ⟨s4, false, (fun z => by cases z), rfl⟩)
   cases hs : x.steps with
   | nil => rfl
   | cons a b => rw [hs] at hc; cases hc
  rintro σ H4 ⟨s4, lb, hlb, e4⟩
  rw [hSS] at e4
  subst e4
  walk_at "rd"
  refine ⟨fun σ H5 => H5 = H4 ∧ σ = S (t3 ++ if x.rooted && !lb then [47] else []) (some (.bl lb)) none, ?_, ?_⟩
  ·rw [hSS]
   refine ⟨_, _, .inr (.of (s4 _ _ hpw)), rfl, _, rfl, ?_⟩
   cases x.rooted with
   | false => exact ite2 (fun z => by cases z) (fun _ => ⟨rfl, by simp⟩)
   | true =>
    refine ite2 (fun _ => ?_) (fun z => absurd rfl z)
    cases lb with
    | false => exact ite2 (fun _ => ⟨aqq (by omega), rfl, by simp⟩) (fun z => absurd rfl z)
    | true => exact ite2 (fun z => by cases z) (fun _ => ⟨rfl, by simp⟩)
  rintro σ H5 ⟨rfl, e5⟩
  rw [hSS] at e5
  subst e5
  generalize et4 : (t3 ++ if x.rooted && !lb then [47] else []) = t4
  have t4l : t4.length ≤ 301 := by
   rw [← et4, List.length_append]
   have : (if x.rooted && !lb then [47] else [] : List Nat).length ≤ 1 := by split <;> simp
   omega
  have hsn := ok.stp.1
  walk_at "rd"
  refine ⟨_, _, .inr (.of (s4 _ _ hpw)), rfl, ?_⟩
  refine ⟨fun σ H6 => Same H5 H6 ∧ ∃ ws, StWs x.steps ws ∧ (∀ w ∈ ws, w.length ≤ 180) ∧ σ = S (t4 ++ joinT 47 ws) (some (.bl lb)) (some (.ref ps)), ?_, ?_⟩
  ·rw [hSS]
   have hpsn := s4 _ _ hps
   refine ⟨_, .inr (.of hpsn), _, rfl, by rw [List.length_map]; omega, by rw [List.length_map]; omega, fun pc nc => ?_⟩
   rw [Int.toNat_natCast, List.length_map]
   refine nqD (fun j ys H6 => Same H5 H6 ∧ ∃ ws, ys = ws.map (fun w => V.str ⟨w.toArray⟩) ∧ StWs (x.steps.take j) ws ∧ (∀ w ∈ ws, w.length ≤ 180)) (aqq (by omega)) ⟨cq0 nc, [], rfl, .nil, by simp⟩ (fun j ys H6 T hj hJ e6 hT => ?_) (fun ys H6 hJ e6 => ?_)
   ·obtain ⟨s6, ws, rfl, hw, hwl⟩ := hJ
    obtain ⟨s, hs⟩ : ∃ s, x.steps[j]? = some s := ⟨_, List.getElem?_eq_getElem hj⟩
    have hsm := List.mem_of_getElem? hs
    have hok := ok.stp.2 s hsm
    walk_at "rd"
    refine ⟨_, .str ⟨s.toArray⟩, .inr (.of (s6 _ _ hpsn)), by rw [Int.zero_add]; exact uqv _ hs, ?_⟩
    refine ⟨.inl ⟨by decide, by decide⟩, s, frS, _, rfl, by have := hok.2.1; omega, hok.2.2, lqs, pqR.1, fun w hw1 hwl1 => hT _ _ e6 ⟨qqH nc s6, ws ++ [w], by rw [List.map_append]; rfl, ?_, fun e he => ?_⟩⟩
    ·rw [List.take_add_one, hs]
     exact hw.snoc hw1
    ·rcases List.mem_append.mp he with z | z
     ·exact hwl e z
     ·rw [List.mem_singleton.mp z]
      have := hok.2.1
      omega
   ·obtain ⟨s6, ws, rfl, hw, hwl⟩ := hJ
    rw [List.take_length] at hw
    have hj := jqt (sep := 47) ws
    have hb := gq2 (sep := 47) hwl
    have hwn := hw.length
    have hjl : (joinT 47 ws).length ≤ 50 * 181 := Nat.le_trans hb (by rw [hwn]; exact Nat.mul_le_mul hsn (Nat.le_refl _))
    walk_at "rd"
    refine ⟨ws.map fun w => ⟨w.toArray⟩, SqL.of (by rw [e6, List.map_map]; rfl), ?_, ?_⟩
    ·simp only [List.map_map, Function.comp_def, cqV, List.length_map] at hj ⊢
     omega
    ·rw [show (⟨#[47]⟩ : Str) = ⟨[47].toArray⟩ from rfl, jqo]
     walk_at "rd"
     exact ⟨aqq (by omega), s6, ws, hw, hwl, rfl⟩
  rintro σ H6 ⟨s6, ws, hws, hwl, e6⟩
  rw [hSS] at e6
  subst e6
  have hwn := hws.length
  have hjl : (joinT 47 ws).length ≤ 50 * 181 := Nat.le_trans (gq2 (sep := 47) hwl) (by rw [hwn]; exact Nat.mul_le_mul hsn (Nat.le_refl _))
  walk_at "rd"
  refine ⟨fun σ H7 => Same H6 H7 ∧ σ = S (t4 ++ joinT 47 ws ++ if x.ends && !x.steps.isEmpty then [47] else []) (some (.bl lb)) (some (.ref ps)), ?_, ?_⟩
  ·rw [hSS]
   refine ⟨_, _, .inr (.of ((s4.trans s6) _ _ hpw)), rfl, _, rfl, ?_⟩
   refine ite2 (fun he => ?_) (fun he => ⟨Same.refl _, ?_⟩)
   ·refine ⟨by decide, fun p7 H7 n7 s7 e7 => ?_⟩
    refine ⟨.tuple (x.steps.map st), .tuple [], .tup ((s4.trans (s6.trans s7)) _ _ hps) (lqr _), .tup e7 .nil, gqq (fun l hl => (wf.stp l hl).2), by decide, _, rfl, ?_⟩
    rw [nqJ]
    have em : (x.steps.map st).isEmpty = x.steps.isEmpty := by cases x.steps <;> rfl
    rw [em, he]
    cases hs : x.steps.isEmpty with
    | true => exact ite2 (fun z => by cases z) (fun _ => ⟨s7, by simp⟩)
    | false => exact ite2 (fun _ => ⟨aqq (by rw [List.length_append]; omega), s7, by simp⟩) (fun z => absurd rfl z)
   ·have he : x.ends = false := by simpa using he
    rw [he]
    simp
  rintro σ H7 ⟨s7, e7⟩
  rw [hSS] at e7
  subst e7
  have s37 := (s4.trans s6).trans s7
  generalize et6 : (t4 ++ joinT 47 ws ++ if x.ends && !x.steps.isEmpty then [47] else []) = t6
  have t6l : t6.length ≤ 9500 := by
   rw [← et6, List.length_append, List.length_append]
   have : (if x.ends && !x.steps.isEmpty then [47] else [] : List Nat).length ≤ 1 := by split <;> simp
   omega
  walk_at "rd"
  refine ⟨fun σ H8 => Same H7 H8 ∧ ∃ qT, QueW x.quest qT ∧ qT.length ≤ 1300 ∧ σ = S (t6 ++ qT) (some (.bl lb)) (some (.ref ps)), ?_, ?_⟩
  ·rw [hSS]
   cases hq : x.quest with
   | none =>
    rw [hq] at hqx
    cases hqx
    exact ite2 (fun z => absurd rfl z) (fun _ => ⟨Same.refl _, [], rfl, by simp, by simp⟩)
   | some pp =>
    rw [hq] at hqx
    have hne : vq ≠ .non := by
     obtain ⟨a1, a2, rfl, _⟩ := iqJ hqx
     simp
    refine ite2 (fun _ => ?_) (fun z => absurd (Classical.not_not.mp z) hne)
    have hk := ok.que pp hq
    refine ⟨pp, vq, i, rfl, hqx.mono s37.toT, hk.1, fun p hp => ⟨wf.que pp hq p hp, (hk.2 p hp).1.2.1, fun l hl => ((hk.2 p hp).2 l hl).1⟩, fun ws2 H8 hp2 hl2 s8 => ?_⟩
    have hb2 := gq2 (sep := 38) hl2
    have hn2 := hp2.length
    have hjl2 : (joinT 38 ws2).length ≤ 20 * 61 := Nat.le_trans hb2 (by rw [hn2]; exact Nat.mul_le_mul hk.1 (Nat.le_refl _))
    walk_at "rd"
    exact ⟨aqq (by first | (simp only [List.length_cons]; omega) | omega), s8, 63 :: joinT 38 ws2, tqq hp2 (fun p hp z => by have := (hk.2 p hp).1.1; rw [z] at this; cases this), by simp only [List.length_cons]; omega, rfl⟩
  rintro σ H8 ⟨s8, qT, hQ, ql, e8⟩
  rw [hSS] at e8
  subst e8
  walk_at "rd"
  refine ⟨fun σ H9 => H9 = H8 ∧ ∃ mT, MarW x.mark mT ∧ mT.length ≤ 200 ∧ σ = S (t6 ++ qT ++ mT) (some (.bl lb)) (some (.ref ps)), ?_, ?_⟩
  ·rw [hSS]
   cases hm : x.mark with
   | none => exact ite2 (fun z => absurd rfl z) (fun _ => ⟨rfl, [], rfl, by simp, by simp⟩)
   | some l =>
    refine ite2 (fun _ => ?_) (fun z => absurd (Classical.not_not.mp z) (by simp [otV]))
    have hl := ok.mar l hm
    walk_at "rd"
    refine ⟨aqq (by rw [List.length_append]; omega), l, frM, i, rfl, by have := hl.1; omega, hl.2, rqe, sqJ.1, fun a ha hal => ?_⟩
    have := hl.1
    walk_at "rd"
    exact ⟨aqq (by simp only [List.length_append, List.length_cons, List.length_nil]; omega), 35 :: a, ⟨a, rfl, ha⟩, by simp only [List.length_cons]; omega, by simp⟩
  rintro σ H9 ⟨rfl, mT, hM, ml, e9⟩
  rw [hSS] at e9
  subst e9
  walk_at "rd"
  have hRS : RdS x (x.rooted && !lb) := by
   cases lb with
   | false => exact .inl (by simp)
   | true =>
    obtain ⟨hx, hs⟩ := hlb rfl
    have hr := wf.roo hx
    exact .inr ⟨by simp, hr, hs, by rw [wf.end_ hs]; exact hr, hx⟩
  have hR := tqv wf hRS hH (oqu fun i e => (wf.doo i e).1) (uqz (e := x.ends) hws fun s hs z => by have := (wf.stp s hs).1; rw [z] at this; cases this) hQ hM
  have eT : t6 ++ qT ++ mT = schT x.scheme ++ (h ++ (dooT x.door ++ ((if x.rooted && !lb then [47] else []) ++ ((joinT 47 ws ++ if x.ends && !x.steps.isEmpty then [47] else []) ++ (qT ++ mT))))) := by
   rw [← et6, ← et4, ← et3]
   simp only [List.append_assoc]
  rw [← eT] at hR
  exact k _ _ hR (by simp only [List.length_append]; omega) (s37.trans s8)
theorem kqh (g : G K mg) : FnOk P w K mg base (CXN P w base) 6 g.dqZ g.dqr ["cursor"] (jqz K g.aqu g.aqn) := by
 refine g.fqL.okn kqG (fun vs H Q E h => ?_) (fun cdv A outer s H vs Q E hr h => ?_)
 ·obtain ⟨p, t, i, rfl, _⟩ := h; rfl
 ·obtain ⟨p, t, i, rfl, hcur, hi, hl, h128, k1, k2⟩ := h
  refine ⟨_, (aqc (bqk (eq6 (bqr (cqP (pv 0) g.aqh g.aqE (aqL g) (hr.mono (by decide)) g.aqK .nil pass0 (aqa aqs aqb))))
    (aqd (aqx aqX)) aqD)
   (aqd (aqx (aqe (dqy g) (hr.mono (by decide)) rfl g.cqB g.bqG.kp g.eqq .nil aqR (aqa (pv 0) (aqa aqs (aqa (aqB (v := kqA) rfl g.gqh ⟨_, rfl⟩) aqb))))))), ?_⟩
  have e1 : Str.ofString "//" = ⟨[47, 47].toArray⟩ := by decide +kernel
  rw [e1]
  walk_at "rd"
  refine aqT hcur ⟨p, t, [47, 47], i, rfl, hcur, hi, hl, fun hp H1 s1 c1 => ⟨_, rfl, ?_⟩, fun hp => ⟨_, rfl, ?_⟩⟩
  ·rw [if_neg (by decide)]
   have h1 : (t.drop i).take 2 = [47, 47] := hp
   have hi1 : i + 2 ≤ t.length := by
    have := congrArg List.length h1
    rw [List.length_take, List.length_drop] at this
    simp only [List.length_cons, List.length_nil] at this
    omega
   have em : houM (t.drop i) = sh 2 (mp some (filM [] (t.drop (i + 2)) (some 60))) := by unfold houM; rw [if_pos h1, List.drop_drop]
   refine ⟨p, t, [], i + 2, some 60, rfl, c1, hi1, hl, h128, by decide, fun s n e H2 s2 c2 => k1 (some s) (2 + n) (by rw [em, e]; rfl) H2 (s1.trans s2) (by rw [← Nat.add_assoc]; exact c2), fun n e d H2 s2 hx => k2 (2 + n) (by rw [em, e]; rfl) d H2 (s1.trans s2) (by rw [hx, Nat.add_assoc])⟩
  ·rw [if_pos rfl]
   exact k1 none 0 (by unfold houM; exact if_neg hp) H (SameBut.refl _ _) hcur
theorem hqO (g : G K mg) : FnOk P w K mg base (CXN P w base) 6 g.cqu g.cqh ["cursor"] (iqa K g.aqu g.aqn) := by
 refine g.dqN.okn cqe (fun vs H Q E h => ?_) (fun cdv A outer s H vs Q E hr h => ?_)
 ·obtain ⟨p, t, i, rfl, _⟩ := h; rfl
 ·obtain ⟨p, t, i, rfl, hcur, hi, hl, h128, k1, k2⟩ := h
  refine ⟨_, (aqc (bqk (eq6 (bqr (cqP (pv 0) g.aqh g.aqE (aqL g) (hr.mono (by decide)) g.aqK .nil pass0 (aqa aqs aqb))))
    (aqd (aqx aqX)) aqD)
   (aqc (aqj (i := 1) cqe.nd rfl (Or.inl rfl) (aqe (dvs := [.non]) (bqL g) (hr.mono (by decide)) rfl g.bq1 g.bqv.kp g.cqd (.cons rfl .nil) aqR (aqa (pv 0) (aqa (aqB (v := aq8) rfl g.bqH ⟨_, rfl⟩) aqb))))
   (aqQ (bqk (aqy fq5 (pv 1) aqs (nomark _))
    (aqd (aqx (dqI aqb))) aqD)
   (aqQ (aqj (i := 2) cqe.nd rfl (Or.inl rfl) (jqH (aqa (dqI (aqa (pv 1) (aqa (aqe (gqG g) (hr.mono (by decide)) rfl g.fqS g.dqU.kp g.fqI .nil aqR (aqa (pv 0) aqb)) aqb))) aqb)))
   (aqc (jqs PassesOwn.leaving (bqr (cqP (pv 0) g.aqh g.aqE (aqL g) (hr.mono (by decide)) g.aqK .nil pass0 (aqa aqs aqb)))
   (aqc (aqj (i := 1) cqe.nd rfl (Or.inl rfl) (aqe (dvs := [.non]) (dqy g) (hr.mono (by decide)) rfl g.cqB g.bqG.kp g.dqP (.cons rfl .nil) aqR (aqa (pv 0) (aqa (aqB (v := aq8) rfl g.bqH ⟨_, rfl⟩) aqb))))
   (aqd (gqu (dqB (K := K) rfl PySem.F.plainAttrs_list PySem.F.slot_list_append PySem.F.type_list_append dqD (pv 2) (aqa (dqI (aqa (pv 1) (aqa (aqe (gqG g) (hr.mono (by decide)) rfl g.fqS g.dqU.kp g.fqI .nil aqR (aqa (pv 0) aqb)) aqb))) aqb))))))
   (aqd (aqx (bqd (jq7 (K := K) rfl) rfl g.kqm jqr (aqa (pv 2) aqb))))))))), ?_⟩
  have eF : aq8 = .str ⟨frQ.toArray⟩ := by
   show V.str (Str.ofString _) = _
   unfold frQ; simp
  have e1 : Str.ofString "?" = ⟨[63].toArray⟩ := by decide +kernel
  have e2 : Str.ofString "&" = ⟨[38].toArray⟩ := by decide +kernel
  rw [eF, e1, e2]
  have pl : ∀ {j c : Nat}, (t.drop j).take [c].length = [c] → j + 1 ≤ t.length := fun {j c} hp => by
   have := congrArg List.length hp
   rw [List.length_take, List.length_drop] at this
   simp only [List.length_singleton] at this
   omega
  have tl : ∀ {j n : Nat} {s fr : List Nat}, j ≤ t.length → txtM fr (t.drop j) none = .ok (s, n) → j + n ≤ t.length := fun {j n s fr} hb e => by
   have := (cqn e).1
   rw [List.length_drop] at this
   omega
  have vl : ∀ {j n : Nat} {o : Option (List Nat)}, j ≤ t.length → valM (t.drop j) = .ok (o, n) → j + n ≤ t.length := fun {j n o} hb e => by
   have := oqs e
   rw [List.length_drop] at this
   omega
  walk_at "rd"
  refine aqT hcur ⟨p, t, [63], i, rfl, hcur, hi, hl, fun hp H1 s1 c1 => ⟨_, rfl, ?_⟩, fun hp => ⟨_, rfl, ?_⟩⟩
  ·rw [if_neg (by decide)]
   have hi1 := pl hp
   have em : queM (t.drop i) = sh 1 (bdR (txtM frQ (t.drop (i + 1)) none) fun s n => if s = [] then .ok (some [], 0) else bdR (valM (t.drop (i + (1 + n)))) fun v m => mp (fun l => some ((s, v) :: l)) (prsF ((t.drop i).length + 1) (t.drop (i + (1 + n + m))))) := by
    unfold queM
    rw [if_pos (take1.mp hp)]
    simp only [List.drop_drop]
   refine ⟨p, t, frQ, i + 1, none, rfl, c1, hi1, hl, h128, jqC, fun s n e H2 s2 c2 => ?_, fun n e d H2 s2 hx => k2 (1 + n) (by rw [em, e]; rfl) d H2 (s1.trans s2) (by rw [hx, Nat.add_assoc])⟩
   have s12 := s1.trans s2
   have hi2 := tl hi1 e
   by_cases hs : s = []
   ·refine ⟨fun _ _ => False, ?_, fun _ _ z => z.elim⟩
    rw [L2.iqy, decide_eq_true (hqd.mpr hs)]
    refine ⟨_, rfl, ?_⟩
    rw [if_pos rfl]
    refine ⟨by decide, fun pt Ha n1 sa hp1 => k1 (some []) (1 + n) ?_ Ha (s12.trans sa.but) (by rw [← Nat.add_assoc]; exact c2.same sa) _ (.tup hp1 .nil)⟩
    rw [em, e]
    show sh 1 (sh n (if s = [] then _ else _)) = _
    rw [if_pos hs]
    rfl
   refine ⟨fun σ H' => H' = H2 ∧ σ = [some (.ref p), some (.str ⟨s.toArray⟩), none], ?_, ?_⟩
   ·rw [L2.iqy]
    refine ⟨_, rfl, ?_⟩
    rw [if_neg (by rw [decide_eq_false (fun z => hs (hqd.mp z))]; decide)]
    exact ⟨rfl, rfl⟩
   rintro σ H' ⟨rfl, rfl⟩
   have em2 : queM (t.drop i) = sh (1 + n) (bdR (valM (t.drop (i + (1 + n)))) fun v m => mp (fun l => some ((s, v) :: l)) (prsF ((t.drop i).length + 1) (t.drop (i + (1 + n + m))))) := by
    rw [em, e]
    show sh 1 (sh n (if s = [] then _ else _)) = _
    rw [if_neg hs, mqC]
   walk_at "rd"
   obtain ⟨W, hW⟩ : ∃ W : Nat → St → Hp → Prop, W = fun m σ H4 => ∃ (dn : List (List Nat × Option (List Nat))) (b : Nat) (q : Addr) (v1 : Option V) (vs : List V), σ = [some (.ref p), v1, some (.ref q)] ∧ Cur H4 g.aqu p t (i + b) ∧ i + b ≤ t.length ∧ dn.length ≤ b ∧ (t.drop (i + b)).length < m ∧ Via (queM (t.drop i)) b (fun l => some (dn ++ l)) (prsF m (t.drop (i + b))) ∧ H4 q = some (.lst vs) ∧ PrL H4 vs dn ∧ SameBut p H H4 ∧ H q = none ∧ q ≠ p := ⟨_, rfl⟩
   refine ⟨fun σ H4 => ∃ m, W m σ H4, ?_, ?_⟩
   ·refine ⟨p, t, i + 1 + n, rfl, c2, hi2, hl, h128, fun o m e' H3 s3 c3 => ⟨by decide, fun p1 Ha n1 sa hp1 => ⟨by decide, fun q Hb nq sb hq => ⟨(t.drop i).length + 1, ?_⟩⟩⟩, fun m e' d H3 s3 hx => k2 (1 + n + m) (by rw [em2, ← Nat.add_assoc, e']; rfl) d H3 (s12.trans s3) (by rw [hx, show i + 1 + n + m = i + (1 + n + m) by omega])⟩
    rw [hW]
    have hi3 := vl hi2 e'
    have hqp : q ≠ p := by obtain ⟨dx, hp⟩ := c3.same sa; exact (aql hp nq).symm
    have sbA : SameBut p H Ha := (s12.trans s3).trans sa.but
    have hk := (cqn e).2.2 hs
    refine ⟨[(s, o)], 1 + n + m, q, _, _, rfl, by rw [show i + (1 + n + m) = i + 1 + n + m by omega]; exact (c3.same sa).same sb, by omega, by show 1 ≤ _; omega, by simp only [List.length_drop]; omega, ?_, hq, ⟨rfl, fun i' a' y z1 z2 => ?_⟩, sbA.trans sb.but, sbA.free nq hqp, hqp⟩
    ·show _ = sh _ (mp _ _)
     rw [em2, ← Nat.add_assoc, e']
     show sh (1 + n) (sh m (mp _ _)) = _
     rw [mqC]
     rfl
    ·cases i' with
     | zero =>
      cases z1
      cases z2
      exact .tup (sb _ _ hp1) (.cons (.str _) (.cons (pqh _) .nil))
     | succ j => cases z1
   rintro σ H4 ⟨m, hm⟩
   unfold L2.Later
   rw [L2.qqa]
   refine lqu W m hm ?_
   rintro m σ H5 hm
   rw [hW] at hm
   obtain ⟨dn, b, q, v1, vs, rfl, c5, hj5, hdn, hfu, via, hq5, hpl, sb5, hqH, hqp⟩ := hm
   have hdl : dn.length ≤ 100000 := by omega
   obtain ⟨m', rfl⟩ : ∃ m', m = m' + 1 := ⟨m - 1, by omega⟩
   walk_at "rd"
   refine aqT c5 ⟨p, t, [38], i + b, rfl, c5, hj5, hl, fun hp H6 s6 c6 => ⟨_, rfl, ?_⟩, fun hp => ⟨_, rfl, ?_⟩⟩
   ·rw [if_pos rfl]
    have hi6 := pl hp
    have ep : prsF (m' + 1) (t.drop (i + b)) = sh 1 (bdR (filM frQ (t.drop (i + b + 1)) none) fun s n => bdR (valM (t.drop (i + b + (1 + n)))) fun v m => mp (fun l => (s, v) :: l) (prsF m' (t.drop (i + b + (1 + n + m))))) := by
     conv => lhs; unfold prsF
     rw [if_pos (take1.mp hp)]
     simp only [List.drop_drop]
    refine ⟨_, fun _ _ h => h, p, t, frQ, i + b + 1, none, rfl, c6, hi6, hl, h128, jqC, fun s2 n2 e6 H7 s7 c7 => ⟨⟨_, .of ((s6.trans s7) _ _ hqp hq5)⟩, ?_⟩, fun n2 e6 d H7 s7 hx => k2 (b + (1 + n2)) (via.err (by rw [ep, e6]; rfl)) d H7 ((sb5.trans s6).trans s7) (by rw [hx, show i + b + 1 + n2 = i + (b + (1 + n2)) by omega])⟩
    have hi7 := tl hi6 (iqp e6).1
    have hk2 := (cqn (iqp e6).1).2.2 (iqp e6).2
    refine ⟨p, t, i + b + 1 + n2, rfl, c7, hi7, hl, h128, fun o2 k3 e7 H8 s8 c8 => ⟨by decide, fun p1 Ha n1 sa hp1 => ⟨vs, sa _ _ (((s6.trans s7).trans s8) _ _ hqp hq5), ?_, m', Nat.lt_succ_self _, ?_⟩⟩, fun k3 e7 d H8 s8 hx => k2 (b + (1 + (n2 + k3))) (via.err ?_) d H8 (((sb5.trans s6).trans s7).trans s8) (by rw [hx, show i + b + 1 + n2 + k3 = i + (b + (1 + (n2 + k3))) by omega])⟩
    ·rw [hpl.1]
     exact Nat.lt_of_le_of_lt hdl (by decide)
    ·rw [hW]
     have hi8 := vl hi7 e7
     have hqa : Ha q = some (.lst vs) := sa _ _ (((s6.trans s7).trans s8) _ _ hqp hq5)
     refine ⟨dn ++ [(s2, o2)], b + (1 + n2 + k3), q, _, _, rfl, ?_, by omega, by rw [List.length_append, List.length_singleton]; omega, by rw [List.length_drop] at hfu ⊢; omega, ?_, aqg, ?_, ?_, hqH, hqp⟩
     ·obtain ⟨dx, hp⟩ := c8.same sa
      exact ⟨dx, by rw [aqv hqp.symm, show i + (b + (1 + n2 + k3)) = i + b + 1 + n2 + k3 by omega]; exact hp⟩
     ·have := via.step (a := 1 + n2 + k3) (g := fun l => (s2, o2) :: l) (r' := prsF m' (t.drop (i + b + (1 + n2 + k3)))) (by
       rw [ep, e6]
       show sh 1 (sh n2 (bdR _ _)) = _
       rw [show i + b + (1 + n2) = i + b + 1 + n2 by omega, e7]
       show sh 1 (sh n2 (sh k3 _)) = _
       rw [mqC, mqC])
      rw [Nat.add_assoc i b] at this
      simpa using this
     ·refine PrL.mono (PrL.snoc ((((hpl.mono (c5.toT s6)).mono (c6.toT s7)).mono (c7.toT s8)).mono sa.toT) ?_) (mq5 hqa)
      exact .tup hp1 (.cons (.str _) (.cons (pqh _) .nil))
     ·exact ((((sb5.trans s6).trans s7).trans s8).trans sa.but).upd hqH
    ·rw [ep, e6]
     show sh 1 (sh n2 (bdR _ _)) = _
     rw [show i + b + (1 + n2) = i + b + 1 + n2 by omega, e7]
     rfl
   ·rw [if_neg (by decide)]
    have ep : prsF (m' + 1) (t.drop (i + b)) = .ok ([], 0) := by
     unfold prsF
     rw [if_neg (fun z => hp (take1.mpr z))]
    have e3 := via.ok ep
    rw [List.append_nil] at e3
    refine ⟨vs, .inl (.of hq5), fun l Ha sa hla => k1 (some dn) b e3 Ha (sb5.trans sa.but) (c5.same sa) _ ?_⟩
    exact .tup hla (kq4 (g := pD) hpl.1 fun i' a' y z1 z2 => (hpl.2 i' a' y z1 z2).mono sa.toT)
  ·rw [if_pos rfl]
   exact k1 none 0 (by unfold queM; rw [if_neg (fun z => hp (take1.mpr z))]) H (SameBut.refl _ _) hcur _ .non
theorem oqA (g : G K mg) : FnOk P w K mg base (CXN P w base) 7 g.oqe g.lq4 ["text"] (rqf K g.aqn) := by
 refine g.oqj.okn gqw (fun vs H Q E h => ?_) (fun cdv A outer s H vs Q E hr h => ?_)
 ·obtain ⟨v, rfl, _⟩ := h; rfl
 ·obtain ⟨v, rfl, h⟩ := h
  refine ⟨_, (aqc (bqk (eq6 (bqr (aqO oqS rfl g.aqS aqH (aqa (pv 0) (aqa (jqx (v := .ty "str") rfl g.pqS nqV rfl) aqb)))))
    (aqd (fqi eqh rfl g.bqZ g.cqz (aqP g) (hr.mono (by decide)) g.aqN rfl pass0 rfl (aqa aqf aqb))) aqD)
   (aqc (aqj (i := 1) gqw.nd rfl (Or.inl rfl) (tqp g.oqt (hqE g) (hr.mono (by decide)) rfl g.oqz g.fqp .nil pass0 (aqa (pv 0) aqb)))
   (aqc (aqj (i := 2) gqw.nd rfl (Or.inl rfl) (aqe (kqw g) (hr.mono (by decide)) rfl g.gq5 g.fqc.kp g.gq4 .nil pass0 (aqa (pv 1) aqb)))
   (aqc (aqj (i := 3) gqw.nd rfl (Or.inl rfl) (aqe (kqh g) (hr.mono (by decide)) rfl g.hqF g.fqL.kp g.iqb .nil aqR (aqa (pv 1) aqb)))
   (aqQ (aqj (i := 4) gqw.nd rfl (Or.inl rfl) (cq6 (aqy fqb (pv 3) aqX (nomark _)) aqX (aqe (kqZ g) (hr.mono (by decide)) rfl g.iq3 g.gqy.kp g.iqO .nil aqR (aqa (pv 1) aqb))))
   (aqQ (aqj (i := 5) gqw.nd rfl (Or.inl rfl) (aqe (lqp g) (hr.mono (by decide)) rfl g.jq2 g.hqt.kp g.jqN .nil aqR (aqa (pv 1) (aqa (rqS (bqa nqx (pv 2) aqs (nomark _)) (hqQ (bqa fqz (pv 3) aqX (nomark _)))) aqb))))
   (aqc (aqj (i := 6) gqw.nd rfl (Or.inl rfl) (aqe (hqO g) (hr.mono (by decide)) rfl g.fq2 g.dqN.kp g.fqV .nil aqR (aqa (pv 1) aqb)))
   (aqc (aqj (i := 7) gqw.nd rfl (Or.inl rfl) (aqe (kqU g) (hr.mono (by decide)) rfl g.iqW g.gqd.kp g.iqM .nil aqR (aqa (pv 1) aqb)))
   (aqc (bqk (eq6 (bqr (fqy (pv 1) g.aqh g.dqK (fqU g) (hr.mono (by decide)) g.eqF .nil pass0)))
    (aqd (fqi eqh rfl g.bqZ g.cqz (aqP g) (hr.mono (by decide)) g.aqN rfl pass0 rfl (aqa (cqp (pv 1) rfl) aqb))) aqD)
   (aqd (aqx (dqI (aqa (pv 2) (aqa (pv 3) (aqa (pv 4) (aqa (pv 5) (aqa (pv 6) (aqa (pv 7) aqb)))))))))))))))))), ?_⟩
  walk_at "rd"
  rcases h with ⟨ty, hty, hkit, kE⟩ | ⟨t, rfl, hl, h128, k1, k2⟩
  ·refine ⟨_, _, _, _, rfl, hty, hkit, ?_⟩
   refine ⟨_, rfl, ?_⟩
   rw [if_pos rfl]
   exact eqa fun d H' sm hx => kE d H' sm hx
  refine ⟨_, _, _, _, rfl, .str _, qqe K "str" (by decide) "str" (by decide), ?_⟩
  refine ⟨_, rfl, ?_⟩
  rw [if_neg (by decide)]
  intro p dx hp hdx hne
  have sb0 : SameBut p H (upd (upd H dx (.own p)) p (.ins g.aqu dx [])) := fun b o n e => by
   rw [aqv n, aqv (aql e hdx)]
   exact e
  refine ⟨p, dx, t, rfl, aqg, fun H1 s1 c1 => ⟨rfl, ?_⟩⟩
  have sb1 := sb0.trans s1
  have hl' : t.length ≤ 100000 := by omega
  refine ⟨p, t, rfl, c1, hl, fun H2 s2 c2 => ?_⟩
  have sb2 := sb1.trans s2
  refine ⟨p, t, schP t, rfl, c2, lq9 t, hl', h128, fun h n1 e1 H3 s3 c3 => ?_, fun n e d H3 s3 hx => k2 _ (oqp e) d H3 ((sb2.trans s3).same hp) hx⟩
  have sb3 := sb2.trans s3
  have hi3 : schP t + n1 ≤ t.length := by have := oqN e1; have := lq9 t; rw [List.length_drop] at *; omega
  refine ⟨fun σ H4 => SameBut p H H4 ∧ ∃ d n2, dorM h (t.drop (schP t + n1)) = .ok (d, n2) ∧ Cur H4 g.aqu p t (schP t + n1 + n2) ∧ σ = [some (.str ⟨t.toArray⟩), some (.ref p), some (.str ⟨(schM t).toArray⟩), some (otV h), some (itV d), none, none, none], ?_, ?_⟩
  ·cases hho : h with
   | none =>
    rw [if_pos (show otV none = V.non from rfl)]
    exact ⟨sb3, none, 0, by unfold dorM; rw [if_pos rfl], c3, rfl⟩
   | some l =>
    rw [if_neg (by simp [otV])]
    have ed : dorM (some l) (t.drop (schP t + n1)) = dooM (t.drop (schP t + n1)) := by unfold dorM; rw [if_neg (by simp)]
    rw [hho] at e1
    exact ⟨p, t, schP t + n1, rfl, c3, hi3, hl', h128, fun d n2 e2 H4 s4 c4 => ⟨sb3.trans s4, d, n2, ed.trans e2, c4, rfl⟩, fun n e d H4 s4 hx => k2 _ (oqG e1 (ed.trans e)) d H4 ((sb3.trans s4).same hp) hx⟩
  rintro σ H4 ⟨sb4, d, n2, e2, c4, rfl⟩
  have hi4 : schP t + n1 + n2 ≤ t.length := by have := (oqb e2).1; rw [List.length_drop] at this; omega
  walk_at "rd"
  obtain ⟨must, hmust⟩ : ∃ b : Bool, b = decide (schM t ≠ [] ∨ h ≠ none) := ⟨_, rfl⟩
  have hway : ∀ (b : Bool) (Q' : VK), b = must → (∀ w n3, wayM must (t.drop (schP t + n1 + n2)) = .ok (w, n3) → ∀ u H5, SameBut p H H5 → Cur H5 g.aqu p t (schP t + n1 + n2 + n3) → IsT H5 (wayOf w) u → Q' u H5) → hqJ K g.aqu g.aqn [V.ref p, V.bl b] H4 Q' E := fun b Q' hb hk =>
   ⟨p, t, schP t + n1 + n2, must, by rw [hb], c4, hi4, hl', h128, fun w n3 e3 H5 s5 c5 u hu => hk w n3 e3 u H5 (sb4.trans s5) c5 hu, fun n e d H5 s5 hx => k2 _ (nqW e1 e2 (by rw [← hmust]; exact e)) d H5 ((sb4.trans s5).same hp) hx⟩
  refine ⟨fun σ H5 => ∃ w n3 u, wayM must (t.drop (schP t + n1 + n2)) = .ok (w, n3) ∧ SameBut p H H5 ∧ Cur H5 g.aqu p t (schP t + n1 + n2 + n3) ∧ IsT H5 (wayOf w) u ∧ σ = [some (.str ⟨t.toArray⟩), some (.ref p), some (.str ⟨(schM t).toArray⟩), some (otV h), some (itV d), some u, none, none], ?_, ?_⟩
  ·refine ite2 (fun z => ?_) (fun z => ?_)
   ·have hm : must = true := by rw [hmust]; exact decide_eq_true (.inl fun e => z (by rw [e]))
    exact hway true _ hm.symm (fun w n3 e3 u H5 sb c hu => ⟨w, n3, u, e3, sb, c, hu, rfl⟩)
   ·have hs : schM t = [] := hqd.mp (Classical.not_not.mp z)
    have hm : must = !decide (otV h = V.non) := by
     rw [hmust]
     cases h with
     | none => simp [hs, otV]
     | some l => simp [otV]
    exact hway _ _ hm.symm (fun w n3 e3 u H5 sb c hu => ⟨w, n3, u, e3, sb, c, hu, rfl⟩)
  rintro σ H5 ⟨w, n3, u, e3, sb5, c5, hu, rfl⟩
  have e3' := e3
  rw [hmust] at e3'
  have hi5 : schP t + n1 + n2 + n3 ≤ t.length := by have := (mqO e3).1; rw [List.length_drop] at this; omega
  walk_at "rd"
  refine ⟨p, t, schP t + n1 + n2 + n3, rfl, c5, hi5, hl', h128, fun q n4 e4 H6 s6 c6 uq huq => ?_, fun n e d H6 s6 hx => k2 _ (oqM e1 e2 e3' e) d H6 ((sb5.trans s6).same hp) hx⟩
  have hi6 : schP t + n1 + n2 + n3 + n4 ≤ t.length := by have := (mqH e4).1; rw [List.length_drop] at this; omega
  refine ⟨p, t, schP t + n1 + n2 + n3 + n4, rfl, c6, hi6, hl', h128, fun m n5 e5 H7 s7 c7 => ?_, fun n e d H7 s7 hx => k2 _ (nq9 e1 e2 e3' e4 e) d H7 (((sb5.trans s6).trans s7).same hp) hx⟩
  have er := lqh e1 e2 e3' e4 e5
  have sb7 := (sb5.trans s6).trans s7
  refine aqT c7 ⟨p, t, _, rfl, c7, hl', _, rfl, ?_⟩
  by_cases hend : schP t + n1 + n2 + n3 + n4 + n5 = t.length
  ·rw [decide_eq_true hend, if_neg (by decide)]
   rw [if_pos hend] at er
   refine ⟨by decide, fun pr H8 _ s8 h8 => k1 _ er _ H8 ((sb7.same hp).trans s8) ?_⟩
   exact adT h8 ((((hu.mono (c5.toT s6)).mono (c6.toT s7))).mono s8.toT) ((huq.mono (c6.toT s7)).mono s8.toT)
  ·rw [decide_eq_false hend, if_pos rfl]
   rw [if_neg hend] at er
   exact aqW c7 g.aqh g.aqo (eqa fun d H' sm hx => k2 _ er d H' ((sb7.trans sm.but).same hp) hx)
theorem iqh (g : G K mg) : FnOk P w K mg base CX0 8 g.eqJ g.eqc ["_law_text"] (lqN K) := by
 refine g.eqZ.ok cqY (fun vs H Q E h => ?_) (fun cdv A outer s H vs Q E hr h => ?_)
 ·obtain ⟨t, rfl, _⟩ := h; rfl
 ·obtain ⟨t, rfl, hl, h128, k1, k2⟩ := h
  refine ⟨_, (aqc (aqj (i := 1) cqY.nd rfl (Or.inl rfl) aqX)
   (aqc (tqD (i := 2) (uqh (i := 1) cqY.nd rfl rfl (rqd aqs (qq7 (oqA g) (hr.mono (by decide)) rfl g.qq4 g.oqj.kp g.qqw (aqa (pv 0) aqb) (fun _ _ h => h)) (fun _ _ h => h))) rfl rfl rfl g.bqZ g.jqA cqY.nd rfl rfl (fun _ => (aqd (aqj (i := 1) cqY.nd rfl (Or.inl rfl) (dqI (aqa aqs (aqa (rqP (K := K) rfl (pv 2) rfl) (aqa (sqj (k := 1) (lqx g) (hr.mono (by decide)).hand rfl g.kqj g.hqj.kp g.jq5 (aqa (pv 2) aqb)) aqb))))))))
   (aqd (aqx (pv 1))))), ?_⟩
  walk_at "rd"
  refine ⟨_, rfl, .inr ⟨t, rfl, by omega, h128, fun x e u H1 s1 hu p H2 n2 s2 hp => k1 x e p u H2 (s1.trans s2) (hu.mono s2.toT) hp, fun n e d H1 s1 hx => ⟨_, rfl, g.dqx, fun a ha => ?_⟩⟩⟩
  refine ⟨a, _, d, _, _, rfl, aqg, (by rw [aqv (aql hx ha)]; exact hx), g.gqn, (by rw [List.lookup_cons, beq_self_eq_true]), ?_⟩
  exact ⟨a, some d, rfl, aqg, fun H2 s2 => ⟨by decide, fun p H3 hn s3 hp => k2 n e p H3 (((s1.trans (cq0 ha)).trans s2).trans s3) hp⟩⟩
theorem wqM (g : G K mg) : FnOk P w K mg base CX0 9 g.rqY g.mqD ["_law_script"] (nqT K) := by
 refine g.vqD.ok kq6 (fun vs H Q E h => ?_) (fun cdv A outer s H vs Q E hr h => ?_)
 ·obtain ⟨a, ns, rfl, _⟩ := h; rfl
 ·obtain ⟨a, ns, rfl, hS, hn, k⟩ := h
  refine ⟨_, (aqQ (aqj (i := 1) kq6.nd rfl (Or.inl rfl) (aqe (jqT g) (hr.mono (by decide)) rfl g.gq7 g.fqd.kp g.gq8 .nil pass0 (aqa (pv 0) (aqa aqf aqb))))
   (aqQ (aqj (i := 2) kq6.nd rfl (Or.inl rfl) (aqe (jqU g) (hr.mono (by decide)) rfl g.hqh g.fqg.kp g.gq6 .nil pass0 (aqa (pv 1) (aqa (aqw eqQ (aqe (gqC g) (hr.mono (by decide)) rfl g.fqa g.dqn.kp g.fqe .nil pass0 (aqa (pv 0) (aqa aqf aqb))) (aqw wq8 aqf aqf)) aqb))))
   (aqc (kqx PassesOwn.never rfl (rqF (K := K) rfl (aqw (bqw (K := K)) (iqc (lqn (K := K) rfl) (pv 0) (hqr aqf) (hqr aqf)) (jqH (aqa aqf aqb)))) (bqN (i := 3) kq6.nd rfl (Or.inl rfl))
   (aqc (aqj (i := 4) kq6.nd rfl (Or.inl rfl) (aqw eqQ (pv 3) (aqw (bqw (K := K)) (aqO (bqJ (K := K) rfl) rfl g.iqI PySem.boot_len (aqa (pv 2) aqb)) aqf)))
   (aqc (aqj (i := 5) kq6.nd rfl (Or.inl rfl) (aqe (iqh g) (hr.mono (by decide)) rfl g.gqB g.eqZ.kp g.gqr .nil pass0 (aqa (iqc (lqn (K := K) rfl) (pv 2) nqS (hqr (pv 4))) aqb)))
   (aqd (bqk (aqy fq5 (aq5 (aqA (K := K) rfl) (pv 5) aqf (fun _ _ => rfl)) aqs (nomark _))
    (aqd (bqk (aqy (vq0 (K := K) rfl hr.units) (aqe (oqA g) (hr.mono (by decide)) rfl g.qq4 g.oqj.kp g.qqw .nil passes0N (aqa (aqe (tqB g) (hr.mono (by decide)) rfl g.sq8 g.qq0.kp g.sq0 .nil pass0 (aqa (aq5 (aqA (K := K) rfl) (pv 5) aqf (fun _ _ => rfl)) aqb)) aqb)) (aq5 (aqA (K := K) rfl) (pv 5) aqf (fun _ _ => rfl)) (nomark _))
    (aqd (aqx lqZ)) aqD)) (aqd (bqk (PW.pt (lq0 (eq6 (bqr (aqe (lq1 g) (hr.mono (by decide)) rfl g.iq5 g.gqz.kp g.iq7 .nil pass0 (aqa (aq5 (aqA (K := K) rfl) (pv 5) aqf (fun _ _ => rfl)) aqb)))) (jqK (aqy (pq0 hr.units) (iqc (tqA (K := K) rfl) (pv 5) (hqr aqf) nqS) (dqI (aqa (pv 4) (aqa lqZ aqb))) (nomark _)))))
    (aqd (aqx lqZ)) aqD)))))))
   (aqd (aqx (bqa (vqE (K := K) rfl hr.units) (aqe (iqh g) (hr.mono (by decide)) rfl g.gqB g.eqZ.kp g.gqr .nil pass0 (aqa (pv 2) aqb)) (dqI (aqa aqs (aqa (pv 1) aqb))) (nomark _))))))), ?_⟩
  walk_at "rd"
  refine ⟨fun σ H1 => Same H H1 ∧ ∃ (x : Ad) (v : V), σ = [some (.ref a), some v, none, none, none, none] ∧ x.Ok ∧ sumL x.steps ≤ 240 ∧ IsT H1 x.data v, ?_, ?_⟩
  ·exact ⟨a, ns, 0, rfl, hS, fun x v H1 ok hsum s1 hv => ⟨s1, x, v, rfl, ok, hsum, hv⟩⟩
  rintro σ H1 ⟨s1, x, v, rfl, ok, hsum, hv⟩
  have wf := ok.wf
  walk_at "rd"
  refine ⟨fun σ H2 => Same H1 H2 ∧ ∃ t : List Nat, σ = [some (.ref a), some v, some (.str ⟨t.toArray⟩), none, none, none] ∧ RdW2 x t, ?_, ?_⟩
  ·refine ⟨a, ns, 9, rfl, s1.seq hS, ⟨by decide, by decide, by decide⟩, ?_⟩
   walk_at "rd"
   exact ⟨by decide +kernel, x, v, _, rfl, hv, ok, fun t H2 hR _ s2 => ⟨s2, t, rfl, hR⟩⟩
  rintro σ H2 ⟨s2, t, rfl, hR⟩
  have h128 := squ wf hR
  have hrd := jqp hR.v wf
  have htl := uqF hR.v ok hsum
  have s02 := s1.trans s2
  walk_at "rd"
  refine ⟨_, s02.seq hS, fun p0 n0 => ⟨by decide, fun p1 H3 n1 s3 hp1 => ?_⟩⟩
  have s23 := (cq0 (o := .lst (cutV (ns.map V.int) (some 10) (some 40))) n0).trans s3
  refine .inl ⟨_, _, s3 _ _ aqg, hp1, aqq (by rw [oqw, List.length_map]; have := rqr ns (some 10) (some 40); simp; omega), fun p2 H4 n2 s4 hp2 => ⟨p2, rfl, ⟨_, .of hp2⟩, ?_⟩⟩
  have s24 := s23.trans s4
  rw [oqw, show ([V.int 1] : List V) = [1].map V.int from rfl, ← List.map_append] at hp2
  generalize cutA ns (some 10) (some 40) ++ [1] = cs at hp2
  refine qqA (xs := cs.map V.int) (fun i σ H' => Same H4 H' ∧ ∃ v3 v4 v5, σ = [some (.ref a), some v, some (.str ⟨t.toArray⟩), v3, v4, v5]) ⟨Same.refl _, _, _, _, rfl⟩ (fun i σ H' _ h => .of (h.1 _ _ hp2)) ?_ ?_
  ·rintro i y σ H5 hy ⟨s5, v3, v4, v5, rfl⟩
   obtain ⟨c, rfl⟩ : ∃ c : Int, y = .int c := by
    rw [List.getElem?_map] at hy
    cases h : cs[i]? with
    | none => rw [h] at hy; cases hy
    | some c => rw [h] at hy; cases hy; exact ⟨c, rfl⟩
   walk_at "rd"
   obtain ⟨z, hz, ez⟩ : ∃ j : Nat, j ≤ t.length ∧ c % ((t.length : Int) + 1) = (j : Int) := by
    have h1 := Int.emod_nonneg c (show (t.length : Int) + 1 ≠ 0 by omega)
    have h2 := Int.emod_lt_of_pos c (show 0 < (t.length : Int) + 1 by omega)
    exact ⟨(c % ((t.length : Int) + 1)).toNat, by omega, by omega⟩
   rw [ez, oqB]
   have hpl : (t.take z).length = z := by rw [List.length_take]; omega
   have hsplit : readM (t.take z ++ t.drop z) = .ok x := by rw [List.take_append_drop]; exact hrd
   refine ⟨aqq (by omega), by omega, aqq (by omega), t.take z, rfl, by omega, (fun d hd => h128 d (List.mem_of_mem_take hd)), fun w ew p u H6 s6 hu hp => ?_, fun n en p H6 s6 hp => ?_⟩
   ·have ww := tqI ew
    have sz := (qqP ew (by omega)).sz ww
    refine L2.iqR.mpr ⟨_, _, .inr (.of hp), rfl, L2.iqy.mpr ⟨_, rfl, ?_⟩⟩
    rw [decide_eq_true rfl, if_pos rfl]
    refine L2.iqR.mpr ⟨_, _, .inr (.of hp), rfl, w, u, rfl, hu.k, ww, sz, fun H7 s7 => ?_⟩
    have rs := jqp (uqu ww).v ww
    refine ⟨_, rfl, .inr ⟨w.shw, rfl, sz.all, tq0 ww, fun w2 ew2 u2 H8 s8 hu2 => ?_, fun n en => by rw [rs] at en; cases en⟩⟩
    rw [rs] at ew2
    cases ew2
    refine L2.iqR.mpr ⟨_, _, .inr (.of ((s7.trans s8) _ _ hp)), rfl, _, _, hu2.k, (hu.mono (s7.trans s8).toT).k, ww.shaped, ww.shaped, _, rfl, ?_⟩
    rw [(Ad.eqv_iff _ _).mpr rfl]
    exact ite2 (fun z => absurd z (by decide)) (fun _ => ⟨((s5.trans s6).trans s7).trans s8, _, _, _, rfl, rfl, rfl⟩)
   ·have hn' := rqC hsplit en
    rw [hpl] at hn'
    subst hn'
    refine L2.iqR.mpr ⟨_, _, .inr (.of hp), rfl, L2.iqy.mpr ⟨_, rfl, ?_⟩⟩
    rw [decide_eq_false (by decide +kernel), if_neg (by decide)]
    refine L2.iqR.mpr ⟨_, _, .inr (.of hp), rfl, (n : Int), rfl, _, rfl, ?_⟩
    rw [if_neg (by decide)]
    refine L2.pqy.mpr ⟨_, .of hp, (show ¬ (HT.sIx 3 0 (some 1) = 0 ∧ HT.sIx 3 3 none = 3) by decide), fun q H7 _ s7 hq => ⟨by decide, fun pt H8 _ s8 hpt => ?_⟩⟩
    have hq : H7 q = some (.tup [.int (n : Int), .bl true]) := hq
    have sd : SeqAt.shaped (.tuple [.int (n : Int), .bool true]) = true := (LayAt.tup (n := 0) (ds := [.int (n : Int), .bool true]) fun d hd => by
     rcases List.mem_cons.mp hd with rfl | hd
     ·exact LayAt.iD (o := some (n : Int))
     ·rw [List.mem_singleton.mp hd]; exact LayAt.bool).shaped (by decide)
    refine ⟨.tuple [.int (n : Int), .bool true], .tuple [.int (n : Int), .bool true], .tup (s8 _ _ hq) (.cons (.int _) (.cons (.bl _) .nil)), .tup hpt (.cons (.int _) (.cons (.bl _) .nil)), sd, sd, _, rfl, ?_⟩
    rw [show PyData.eqv (.tuple [.int (n : Int), .bool true]) (.tuple [.int (n : Int), .bool true]) = true by simp [PyData.eqv, PyData.eqvAll], if_neg (by decide)]
    exact ⟨((s5.trans s6).trans s7).trans s8, _, _, _, rfl, rfl, rfl⟩
  ·rintro σ H5 ⟨s5, v3, v4, v5, rfl⟩
   walk_at "rd"
   refine ⟨t, rfl, htl, h128, fun w ew p u H6 s6 hu hp => ?_, fun n en => by rw [hrd] at en; cases en⟩
   rw [hrd] at ew
   cases ew
   refine ⟨by decide, fun q H7 _ s7 hq => ?_⟩
   have sd : SeqAt.shaped (.tuple [.str (Str.ofString "read"), x.data]) = true := pqP wf
   refine ⟨.tuple [.str (Str.ofString "read"), x.data], .tuple [.str (Str.ofString "read"), x.data], .tup (.of (s7 _ _ hp)) (.cons (.str _) (.cons (hu.mono s7.toT).k .nil)), .tup (.of hq) (.cons (.str _) (.cons (hv.mono ((((s2.trans s24).trans s5).trans s6).trans s7).toT).k .nil)), sd, sd, ?_⟩
   rw [vq3]
   exact k H7
end
theorem vqC {l : PySem.W.OpenLaw} {w : World} {K : PySem.W.Frag} {h : Heap} {mg : Str → Option Value} {fa : Addr} (X : K.In h) (Gl : h.Ns mainGlobals mg) (hfa : mg "law" = some (.ref fa))
  {kC_Cursor : Addr} (aC_Cursor : PySem.W.nsIn K mainGlobals "Cursor" = some (some (.ref kC_Cursor)))
  {eC_NoAddress : Addr} (en_NoAddress : PySem.W.nsIn K mainGlobals "NoAddress" = some (some (.ref eC_NoAddress)))
  {eC_NoRow : Addr} (en_NoRow : PySem.W.nsIn K mainGlobals "NoRow" = some (some (.ref eC_NoRow)))
  {eC_WayError : Addr} (en_WayError : PySem.W.nsIn K mainGlobals "WayError" = some (some (.ref eC_WayError)))
  {eC_NoName : Addr} (en_NoName : PySem.W.nsIn K mainGlobals "NoName" = some (some (.ref eC_NoName)))
  {eC_NoValue : Addr} (en_NoValue : PySem.W.nsIn K mainGlobals "NoValue" = some (some (.ref eC_NoValue)))
  {eC_NoPattern : Addr} (en_NoPattern : PySem.W.nsIn K mainGlobals "NoPattern" = some (some (.ref eC_NoPattern)))
  {eC_NoBase : Addr} (en_NoBase : PySem.W.nsIn K mainGlobals "NoBase" = some (some (.ref eC_NoBase)))
  {f1 : Addr} {od1 an1 : Option Addr} {sl1 : Array (Option Value)} {oc1 kV1 dc1 pm1 cd1 ct1 : Value}
  (a1 : PySem.W.nsIn K mainGlobals "made_of" = some (some (.ref f1))) (l1 : K.lookup f1 = some ⟨oc1, od1, .func (PySem.W.fnOf "made_of" "made_of" (defArgs eqB) (defBody eqB) (defScope eqB) .none kV1 dc1 pm1 an1 cd1 ct1), sl1⟩)
  {f2 : Addr} {od2 an2 : Option Addr} {sl2 : Array (Option Value)} {oc2 kV2 dc2 pm2 cd2 ct2 : Value}
  (a2 : PySem.W.nsIn K mainGlobals "pair_of" = some (some (.ref f2))) (l2 : K.lookup f2 = some ⟨oc2, od2, .func (PySem.W.fnOf "pair_of" "pair_of" (defArgs eqp) (defBody eqp) (defScope eqp) .none kV2 dc2 pm2 an2 cd2 ct2), sl2⟩)
  {f3 : Addr} {od3 an3 : Option Addr} {sl3 : Array (Option Value)} {oc3 kV3 dc3 pm3 cd3 ct3 : Value}
  (a3 : PySem.W.nsIn K mainGlobals "figure_number" = some (some (.ref f3))) (l3 : K.lookup f3 = some ⟨oc3, od3, .func (PySem.W.fnOf "figure_number" "figure_number" (defArgs bqe) (defBody bqe) (defScope bqe) .none kV3 dc3 pm3 an3 cd3 ct3), sl3⟩)
  {f4 : Addr} {od4 an4 : Option Addr} {sl4 : Array (Option Value)} {oc4 kV4 dc4 pm4 cd4 ct4 : Value}
  (a4 : PySem.W.nsIn K mainGlobals "sign_numbered" = some (some (.ref f4))) (l4 : K.lookup f4 = some ⟨oc4, od4, .func (PySem.W.fnOf "sign_numbered" "sign_numbered" (defArgs aq7) (defBody aq7) (defScope aq7) .none kV4 dc4 pm4 an4 cd4 ct4), sl4⟩)
  {f5 : Addr} {od5 an5 : Option Addr} {sl5 : Array (Option Value)} {oc5 kV5 dc5 pm5 cd5 ct5 : Value}
  (a5 : PySem.W.nsIn K mainGlobals "is_whole" = some (some (.ref f5))) (l5 : K.lookup f5 = some ⟨oc5, od5, .func (PySem.W.fnOf "is_whole" "is_whole" (defArgs cq9) (defBody cq9) (defScope cq9) .none kV5 dc5 pm5 an5 cd5 ct5), sl5⟩)
  {f6 : Addr} {od6 an6 : Option Addr} {sl6 : Array (Option Value)} {oc6 kV6 dc6 pm6 cd6 ct6 : Value}
  (a6 : PySem.W.findIn K (.ref eC_NoAddress) "__init__" = some (some (.ref f6))) (i6 : PySem.W.isFn K (.ref f6) = true) (l6 : K.lookup f6 = some ⟨oc6, od6, .func (PySem.W.fnOf "__init__" "NoAddress.__init__" (defArgs aqM) (defBody aqM) (defScope aqM) .none kV6 dc6 pm6 an6 cd6 ct6), sl6⟩)
  {f7 : Addr} {od7 an7 : Option Addr} {sl7 : Array (Option Value)} {oc7 kV7 dc7 pm7 cd7 ct7 : Value}
  (a7 : PySem.W.findIn K (.ref kC_Cursor) "__init__" = some (some (.ref f7))) (i7 : PySem.W.isFn K (.ref f7) = true) (l7 : K.lookup f7 = some ⟨oc7, od7, .func (PySem.W.fnOf "__init__" "Cursor.__init__" (defArgs aqU) (defBody aqU) (defScope aqU) .none kV7 dc7 pm7 an7 cd7 ct7), sl7⟩)
  {f8 : Addr} {od8 an8 : Option Addr} {sl8 : Array (Option Value)} {oc8 kV8 dc8 pm8 cd8 ct8 : Value}
  (a8 : PySem.W.findIn K (.ref kC_Cursor) "at_end" = some (some (.ref f8))) (i8 : PySem.W.isFn K (.ref f8) = true) (l8 : K.lookup f8 = some ⟨oc8, od8, .func (PySem.W.fnOf "at_end" "Cursor.at_end" (defArgs aq6) (defBody aq6) (defScope aq6) .none kV8 dc8 pm8 an8 cd8 ct8), sl8⟩)
  {f9 : Addr} {od9 an9 : Option Addr} {sl9 : Array (Option Value)} {oc9 kV9 dc9 pm9 cd9 ct9 : Value}
  (a9 : PySem.W.findIn K (.ref kC_Cursor) "take" = some (some (.ref f9))) (i9 : PySem.W.isFn K (.ref f9) = true) (l9 : K.lookup f9 = some ⟨oc9, od9, .func (PySem.W.fnOf "take" "Cursor.take" (defArgs bqy) (defBody bqy) (defScope bqy) .none kV9 dc9 pm9 an9 cd9 ct9), sl9⟩)
  {f10 : Addr} {od10 an10 : Option Addr} {sl10 : Array (Option Value)} {oc10 kV10 dc10 pm10 cd10 ct10 : Value}
  (a10 : PySem.W.findIn K (.ref kC_Cursor) "passes" = some (some (.ref f10))) (i10 : PySem.W.isFn K (.ref f10) = true) (l10 : K.lookup f10 = some ⟨oc10, od10, .func (PySem.W.fnOf "passes" "Cursor.passes" (defArgs aq9) (defBody aq9) (defScope aq9) .none kV10 dc10 pm10 an10 cd10 ct10), sl10⟩)
  {f11 : Addr} {od11 an11 : Option Addr} {sl11 : Array (Option Value)} {oc11 kV11 dc11 pm11 cd11 ct11 : Value}
  (a11 : PySem.W.nsIn K mainGlobals "door_with" = some (some (.ref f11))) (l11 : K.lookup f11 = some ⟨oc11, od11, .func (PySem.W.fnOf "door_with" "door_with" (defArgs cqy) (defBody cqy) (defScope cqy) .none kV11 dc11 pm11 an11 cd11 ct11), sl11⟩)
  {f12 : Addr} {od12 an12 : Option Addr} {sl12 : Array (Option Value)} {oc12 kV12 dc12 pm12 cd12 ct12 : Value}
  (a12 : PySem.W.nsIn K mainGlobals "slashed" = some (some (.ref f12))) (l12 : K.lookup f12 = some ⟨oc12, od12, .func (PySem.W.fnOf "slashed" "slashed" (defArgs eqG) (defBody eqG) (defScope eqG) .none kV12 dc12 pm12 an12 cd12 ct12), sl12⟩)
  {f13 : Addr} {od13 an13 : Option Addr} {sl13 : Array (Option Value)} {oc13 kV13 dc13 pm13 cd13 ct13 : Value}
  (a13 : PySem.W.nsIn K mainGlobals "_law_cell_at" = some (some (.ref f13))) (l13 : K.lookup f13 = some ⟨oc13, od13, .func (PySem.W.fnOf "_law_cell_at" "_law_cell_at" (defArgs bqn) (defBody bqn) (defScope bqn) .none kV13 dc13 pm13 an13 cd13 ct13), sl13⟩)
  {f14 : Addr} {od14 an14 : Option Addr} {sl14 : Array (Option Value)} {oc14 kV14 dc14 pm14 cd14 ct14 : Value}
  (a14 : PySem.W.nsIn K mainGlobals "_law_whole" = some (some (.ref f14))) (l14 : K.lookup f14 = some ⟨oc14, od14, .func (PySem.W.fnOf "_law_whole" "_law_whole" (defArgs bq2) (defBody bq2) (defScope bq2) .none kV14 dc14 pm14 an14 cd14 ct14), sl14⟩)
  {f15 : Addr} {od15 an15 : Option Addr} {sl15 : Array (Option Value)} {oc15 kV15 dc15 pm15 cd15 ct15 : Value}
  (a15 : PySem.W.nsIn K mainGlobals "_law_table" = some (some (.ref f15))) (l15 : K.lookup f15 = some ⟨oc15, od15, .func (PySem.W.fnOf "_law_table" "_law_table" (defArgs bq9) (defBody bq9) (defScope bq9) .none kV15 dc15 pm15 an15 cd15 ct15), sl15⟩)
  {f16 : Addr} {od16 an16 : Option Addr} {sl16 : Array (Option Value)} {oc16 kV16 dc16 pm16 cd16 ct16 : Value}
  (a16 : PySem.W.nsIn K mainGlobals "_law_plain" = some (some (.ref f16))) (l16 : K.lookup f16 = some ⟨oc16, od16, .func (PySem.W.fnOf "_law_plain" "_law_plain" (defArgs bq4) (defBody bq4) (defScope bq4) .none kV16 dc16 pm16 an16 cd16 ct16), sl16⟩)
  {f17 : Addr} {od17 an17 : Option Addr} {sl17 : Array (Option Value)} {oc17 kV17 dc17 pm17 cd17 ct17 : Value}
  (a17 : PySem.W.nsIn K mainGlobals "_law_deck" = some (some (.ref f17))) (l17 : K.lookup f17 = some ⟨oc17, od17, .func (PySem.W.fnOf "_law_deck" "_law_deck" (defArgs cqJ) (defBody cqJ) (defScope cqJ) .none kV17 dc17 pm17 an17 cd17 ct17), sl17⟩)
  {f18 : Addr} {od18 an18 : Option Addr} {sl18 : Array (Option Value)} {oc18 kV18 dc18 pm18 cd18 ct18 : Value}
  (a18 : PySem.W.nsIn K mainGlobals "_law_draw" = some (some (.ref f18))) (l18 : K.lookup f18 = some ⟨oc18, od18, .func (PySem.W.fnOf "_law_draw" "_law_draw" (defArgs cqG) (defBody cqG) (defScope cqG) .none kV18 dc18 pm18 an18 cd18 ct18), sl18⟩)
  {f19 : Addr} {od19 an19 : Option Addr} {sl19 : Array (Option Value)} {oc19 kV19 dc19 pm19 cd19 ct19 : Value}
  (a19 : PySem.W.nsIn K mainGlobals "_law_lone" = some (some (.ref f19))) (l19 : K.lookup f19 = some ⟨oc19, od19, .func (PySem.W.fnOf "_law_lone" "_law_lone" (defArgs cqC) (defBody cqC) (defScope cqC) .none kV19 dc19 pm19 an19 cd19 ct19), sl19⟩)
  {f20 : Addr} {od20 an20 : Option Addr} {sl20 : Array (Option Value)} {oc20 kV20 dc20 pm20 cd20 ct20 : Value}
  (a20 : PySem.W.nsIn K mainGlobals "is_text" = some (some (.ref f20))) (l20 : K.lookup f20 = some ⟨oc20, od20, .func (PySem.W.fnOf "is_text" "is_text" (defArgs eqA) (defBody eqA) (defScope eqA) .none kV20 dc20 pm20 an20 cd20 ct20), sl20⟩)
  {f21 : Addr} {od21 an21 : Option Addr} {sl21 : Array (Option Value)} {oc21 kV21 dc21 pm21 cd21 ct21 : Value}
  (a21 : PySem.W.nsIn K mainGlobals "sign_of" = some (some (.ref f21))) (l21 : K.lookup f21 = some ⟨oc21, od21, .func (PySem.W.fnOf "sign_of" "sign_of" (defArgs eqo) (defBody eqo) (defScope eqo) .none kV21 dc21 pm21 an21 cd21 ct21), sl21⟩)
  {f22 : Addr} {od22 an22 : Option Addr} {sl22 : Array (Option Value)} {oc22 kV22 dc22 pm22 cd22 ct22 : Value}
  (a22 : PySem.W.nsIn K mainGlobals "written" = some (some (.ref f22))) (l22 : K.lookup f22 = some ⟨oc22, od22, .func (PySem.W.fnOf "written" "written" (defArgs eql) (defBody eql) (defScope eql) .none kV22 dc22 pm22 an22 cd22 ct22), sl22⟩)
  {f23 : Addr} {od23 an23 : Option Addr} {sl23 : Array (Option Value)} {oc23 kV23 dc23 pm23 cd23 ct23 : Value}
  (a23 : PySem.W.findIn K (.ref kC_Cursor) "sees" = some (some (.ref f23))) (i23 : PySem.W.isFn K (.ref f23) = true) (l23 : K.lookup f23 = some ⟨oc23, od23, .func (PySem.W.fnOf "sees" "Cursor.sees" (defArgs bqF) (defBody bqF) (defScope bqF) .none kV23 dc23 pm23 an23 cd23 ct23), sl23⟩)
  {f24 : Addr} {od24 an24 : Option Addr} {sl24 : Array (Option Value)} {oc24 kV24 dc24 pm24 cd24 ct24 : Value}
  (a24 : PySem.W.nsIn K mainGlobals "_law_hex" = some (some (.ref f24))) (l24 : K.lookup f24 = some ⟨oc24, od24, .func (PySem.W.fnOf "_law_hex" "_law_hex" (defArgs dqb) (defBody dqb) (defScope dqb) .none kV24 dc24 pm24 an24 cd24 ct24), sl24⟩)
  {f25 : Addr} {od25 an25 : Option Addr} {sl25 : Array (Option Value)} {oc25 kV25 dc25 pm25 cd25 ct25 : Value}
  (a25 : PySem.W.nsIn K mainGlobals "_law_some" = some (some (.ref f25))) (l25 : K.lookup f25 = some ⟨oc25, od25, .func (PySem.W.fnOf "_law_some" "_law_some" (defArgs cqD) (defBody cqD) (defScope cqD) .none kV25 dc25 pm25 an25 cd25 ct25), sl25⟩)
  {f26 : Addr} {od26 an26 : Option Addr} {sl26 : Array (Option Value)} {oc26 kV26 dc26 pm26 cd26 ct26 : Value}
  (a26 : PySem.W.nsIn K mainGlobals "_law_scheme" = some (some (.ref f26))) (l26 : K.lookup f26 = some ⟨oc26, od26, .func (PySem.W.fnOf "_law_scheme" "_law_scheme" (defArgs bqA) (defBody bqA) (defScope bqA) .none kV26 dc26 pm26 an26 cd26 ct26), sl26⟩)
  {f27 : Addr} {od27 an27 : Option Addr} {sl27 : Array (Option Value)} {oc27 kV27 dc27 pm27 cd27 ct27 : Value}
  (a27 : PySem.W.nsIn K mainGlobals "is_scheme" = some (some (.ref f27))) (l27 : K.lookup f27 = some ⟨oc27, od27, .func (PySem.W.fnOf "is_scheme" "is_scheme" (defArgs cqH) (defBody cqH) (defScope cqH) .none kV27 dc27 pm27 an27 cd27 ct27), sl27⟩)
  {f28 : Addr} {od28 an28 : Option Addr} {sl28 : Array (Option Value)} {oc28 kV28 dc28 pm28 cd28 ct28 : Value}
  (a28 : PySem.W.nsIn K mainGlobals "taken_door" = some (some (.ref f28))) (l28 : K.lookup f28 = some ⟨oc28, od28, .func (PySem.W.fnOf "taken_door" "taken_door" (defArgs bqR) (defBody bqR) (defScope bqR) .none kV28 dc28 pm28 an28 cd28 ct28), sl28⟩)
  {f29 : Addr} {od29 an29 : Option Addr} {sl29 : Array (Option Value)} {oc29 kV29 dc29 pm29 cd29 ct29 : Value}
  (a29 : PySem.W.nsIn K mainGlobals "taken_pair" = some (some (.ref f29))) (l29 : K.lookup f29 = some ⟨oc29, od29, .func (PySem.W.fnOf "taken_pair" "taken_pair" (defArgs bqT) (defBody bqT) (defScope bqT) .none kV29 dc29 pm29 an29 cd29 ct29), sl29⟩)
  {f30 : Addr} {od30 an30 : Option Addr} {sl30 : Array (Option Value)} {oc30 kV30 dc30 pm30 cd30 ct30 : Value}
  (a30 : PySem.W.nsIn K mainGlobals "shown_house" = some (some (.ref f30))) (l30 : K.lookup f30 = some ⟨oc30, od30, .func (PySem.W.fnOf "shown_house" "shown_house" (defArgs bqE) (defBody bqE) (defScope bqE) .none kV30 dc30 pm30 an30 cd30 ct30), sl30⟩)
  {f31 : Addr} {od31 an31 : Option Addr} {sl31 : Array (Option Value)} {oc31 kV31 dc31 pm31 cd31 ct31 : Value}
  (a31 : PySem.W.nsIn K mainGlobals "shown_way" = some (some (.ref f31))) (l31 : K.lookup f31 = some ⟨oc31, od31, .func (PySem.W.fnOf "shown_way" "shown_way" (defArgs cqE) (defBody cqE) (defScope cqE) .none kV31 dc31 pm31 an31 cd31 ct31), sl31⟩)
  {f32 : Addr} {od32 an32 : Option Addr} {sl32 : Array (Option Value)} {oc32 kV32 dc32 pm32 cd32 ct32 : Value}
  (a32 : PySem.W.nsIn K mainGlobals "shown_asked" = some (some (.ref f32))) (l32 : K.lookup f32 = some ⟨oc32, od32, .func (PySem.W.fnOf "shown_asked" "shown_asked" (defArgs bqD) (defBody bqD) (defScope bqD) .none kV32 dc32 pm32 an32 cd32 ct32), sl32⟩)
  {f33 : Addr} {od33 an33 : Option Addr} {sl33 : Array (Option Value)} {oc33 kV33 dc33 pm33 cd33 ct33 : Value}
  (a33 : PySem.W.nsIn K mainGlobals "shown_mark" = some (some (.ref f33))) (l33 : K.lookup f33 = some ⟨oc33, od33, .func (PySem.W.fnOf "shown_mark" "shown_mark" (defArgs bq5) (defBody bq5) (defScope bq5) .none kV33 dc33 pm33 an33 cd33 ct33), sl33⟩)
  {f34 : Addr} {od34 an34 : Option Addr} {sl34 : Array (Option Value)} {oc34 kV34 dc34 pm34 cd34 ct34 : Value}
  (a34 : PySem.W.nsIn K mainGlobals "_law_steps" = some (some (.ref f34))) (l34 : K.lookup f34 = some ⟨oc34, od34, .func (PySem.W.fnOf "_law_steps" "_law_steps" (defArgs cqa) (defBody cqa) (defScope cqa) .none kV34 dc34 pm34 an34 cd34 ct34), sl34⟩)
  {f35 : Addr} {od35 an35 : Option Addr} {sl35 : Array (Option Value)} {oc35 kV35 dc35 pm35 cd35 ct35 : Value}
  (a35 : PySem.W.nsIn K mainGlobals "_law_question" = some (some (.ref f35))) (l35 : K.lookup f35 = some ⟨oc35, od35, .func (PySem.W.fnOf "_law_question" "_law_question" (defArgs bqc) (defBody bqc) (defScope bqc) .none kV35 dc35 pm35 an35 cd35 ct35), sl35⟩)
  {f36 : Addr} {od36 an36 : Option Addr} {sl36 : Array (Option Value)} {oc36 kV36 dc36 pm36 cd36 ct36 : Value}
  (a36 : PySem.W.nsIn K mainGlobals "_law_loose" = some (some (.ref f36))) (l36 : K.lookup f36 = some ⟨oc36, od36, .func (PySem.W.fnOf "_law_loose" "_law_loose" (defArgs bqW) (defBody bqW) (defScope bqW) .none kV36 dc36 pm36 an36 cd36 ct36), sl36⟩)
  {f37 : Addr} {od37 an37 : Option Addr} {sl37 : Array (Option Value)} {oc37 kV37 dc37 pm37 cd37 ct37 : Value}
  (a37 : PySem.W.nsIn K mainGlobals "taken_scheme" = some (some (.ref f37))) (l37 : K.lookup f37 = some ⟨oc37, od37, .func (PySem.W.fnOf "taken_scheme" "taken_scheme" (defArgs bqo) (defBody bqo) (defScope bqo) .none kV37 dc37 pm37 an37 cd37 ct37), sl37⟩)
  {f38 : Addr} {od38 an38 : Option Addr} {sl38 : Array (Option Value)} {oc38 kV38 dc38 pm38 cd38 ct38 : Value}
  {T38 : Addr} {ocT38 : Value} {odT38 : Option Addr} {nT38 : Nat} {slT38 : Array (Option Value)} {dt38_0 : Tok}
  (a38 : PySem.W.nsIn K mainGlobals "taken_text" = some (some (.ref f38))) (l38 : K.lookup f38 = some ⟨oc38, od38, .func (PySem.W.fnOf "taken_text" "taken_text" (defArgs bqu) (defBody bqu) (defScope bqu) (.ref T38) kV38 dc38 pm38 an38 cd38 ct38), sl38⟩)
  (d38 : K.lookup T38 = some ⟨ocT38, odT38, .seq #[.none] nT38, slT38⟩)
  {f39 : Addr} {od39 an39 : Option Addr} {sl39 : Array (Option Value)} {oc39 kV39 dc39 pm39 cd39 ct39 : Value}
  (a39 : PySem.W.nsIn K mainGlobals "shown_question" = some (some (.ref f39))) (l39 : K.lookup f39 = some ⟨oc39, od39, .func (PySem.W.fnOf "shown_question" "shown_question" (defArgs aq0) (defBody aq0) (defScope aq0) .none kV39 dc39 pm39 an39 cd39 ct39), sl39⟩)
  {f40 : Addr} {od40 an40 : Option Addr} {sl40 : Array (Option Value)} {oc40 kV40 dc40 pm40 cd40 ct40 : Value}
  (a40 : PySem.W.nsIn K mainGlobals "_law_address" = some (some (.ref f40))) (l40 : K.lookup f40 = some ⟨oc40, od40, .func (PySem.W.fnOf "_law_address" "_law_address" (defArgs bql) (defBody bql) (defScope bql) .none kV40 dc40 pm40 an40 cd40 ct40), sl40⟩)
  {f41 : Addr} {od41 an41 : Option Addr} {sl41 : Array (Option Value)} {oc41 kV41 dc41 pm41 cd41 ct41 : Value}
  (a41 : PySem.W.nsIn K mainGlobals "_law_loose_question" = some (some (.ref f41))) (l41 : K.lookup f41 = some ⟨oc41, od41, .func (PySem.W.fnOf "_law_loose_question" "_law_loose_question" (defArgs aqG) (defBody aqG) (defScope aqG) .none kV41 dc41 pm41 an41 cd41 ct41), sl41⟩)
  {f42 : Addr} {od42 an42 : Option Addr} {sl42 : Array (Option Value)} {oc42 kV42 dc42 pm42 cd42 ct42 : Value}
  (a42 : PySem.W.nsIn K mainGlobals "taken_way" = some (some (.ref f42))) (l42 : K.lookup f42 = some ⟨oc42, od42, .func (PySem.W.fnOf "taken_way" "taken_way" (defArgs cqI) (defBody cqI) (defScope cqI) .none kV42 dc42 pm42 an42 cd42 ct42), sl42⟩)
  {f43 : Addr} {od43 an43 : Option Addr} {sl43 : Array (Option Value)} {oc43 kV43 dc43 pm43 cd43 ct43 : Value}
  (a43 : PySem.W.nsIn K mainGlobals "taken_value" = some (some (.ref f43))) (l43 : K.lookup f43 = some ⟨oc43, od43, .func (PySem.W.fnOf "taken_value" "taken_value" (defArgs bqC) (defBody bqC) (defScope bqC) .none kV43 dc43 pm43 an43 cd43 ct43), sl43⟩)
  {f44 : Addr} {od44 an44 : Option Addr} {sl44 : Array (Option Value)} {oc44 kV44 dc44 pm44 cd44 ct44 : Value}
  (a44 : PySem.W.nsIn K mainGlobals "taken_mark" = some (some (.ref f44))) (l44 : K.lookup f44 = some ⟨oc44, od44, .func (PySem.W.fnOf "taken_mark" "taken_mark" (defArgs bqU) (defBody bqU) (defScope bqU) .none kV44 dc44 pm44 an44 cd44 ct44), sl44⟩)
  {f45 : Addr} {od45 an45 : Option Addr} {sl45 : Array (Option Value)} {oc45 kV45 dc45 pm45 cd45 ct45 : Value}
  {T45 : Addr} {ocT45 : Value} {odT45 : Option Addr} {nT45 : Nat} {slT45 : Array (Option Value)} {dt45_0 : Tok}
  (a45 : PySem.W.nsIn K mainGlobals "taken_filled_text" = some (some (.ref f45))) (l45 : K.lookup f45 = some ⟨oc45, od45, .func (PySem.W.fnOf "taken_filled_text" "taken_filled_text" (defArgs aqJ) (defBody aqJ) (defScope aqJ) (.ref T45) kV45 dc45 pm45 an45 cd45 ct45), sl45⟩)
  (d45 : K.lookup T45 = some ⟨ocT45, odT45, .seq #[.none] nT45, slT45⟩)
  {f46 : Addr} {od46 an46 : Option Addr} {sl46 : Array (Option Value)} {oc46 kV46 dc46 pm46 cd46 ct46 : Value}
  (a46 : PySem.W.nsIn K mainGlobals "show" = some (some (.ref f46))) (l46 : K.lookup f46 = some ⟨oc46, od46, .func (PySem.W.fnOf "show" "show" (defArgs kqa) (defBody kqa) (defScope kqa) .none kV46 dc46 pm46 an46 cd46 ct46), sl46⟩)
  {f47 : Addr} {od47 an47 : Option Addr} {sl47 : Array (Option Value)} {oc47 kV47 dc47 pm47 cd47 ct47 : Value}
  (a47 : PySem.W.nsIn K mainGlobals "_law_loosely" = some (some (.ref f47))) (l47 : K.lookup f47 = some ⟨oc47, od47, .func (PySem.W.fnOf "_law_loosely" "_law_loosely" (defArgs bqm) (defBody bqm) (defScope bqm) .none kV47 dc47 pm47 an47 cd47 ct47), sl47⟩)
  {f48 : Addr} {od48 an48 : Option Addr} {sl48 : Array (Option Value)} {oc48 kV48 dc48 pm48 cd48 ct48 : Value}
  (a48 : PySem.W.nsIn K mainGlobals "taken_house" = some (some (.ref f48))) (l48 : K.lookup f48 = some ⟨oc48, od48, .func (PySem.W.fnOf "taken_house" "taken_house" (defArgs bqB) (defBody bqB) (defScope bqB) .none kV48 dc48 pm48 an48 cd48 ct48), sl48⟩)
  {f49 : Addr} {od49 an49 : Option Addr} {sl49 : Array (Option Value)} {oc49 kV49 dc49 pm49 cd49 ct49 : Value}
  (a49 : PySem.W.nsIn K mainGlobals "taken_question" = some (some (.ref f49))) (l49 : K.lookup f49 = some ⟨oc49, od49, .func (PySem.W.fnOf "taken_question" "taken_question" (defArgs aqY) (defBody aqY) (defScope aqY) .none kV49 dc49 pm49 an49 cd49 ct49), sl49⟩)
  {f50 : Addr} {od50 an50 : Option Addr} {sl50 : Array (Option Value)} {oc50 kV50 dc50 pm50 cd50 ct50 : Value}
  (a50 : PySem.W.nsIn K mainGlobals "read" = some (some (.ref f50))) (l50 : K.lookup f50 = some ⟨oc50, od50, .func (PySem.W.fnOf "read" "read" (defArgs jqW) (defBody jqW) (defScope jqW) .none kV50 dc50 pm50 an50 cd50 ct50), sl50⟩)
  {f51 : Addr} {od51 an51 : Option Addr} {sl51 : Array (Option Value)} {oc51 kV51 dc51 pm51 cd51 ct51 : Value}
  (a51 : PySem.W.nsIn K mainGlobals "_law_asked" = some (some (.ref f51))) (l51 : K.lookup f51 = some ⟨oc51, od51, .func (PySem.W.fnOf "_law_asked" "_law_asked" (defArgs bq6) (defBody bq6) (defScope bq6) .none kV51 dc51 pm51 an51 cd51 ct51), sl51⟩)
  {f52 : Addr} {od52 an52 : Option Addr} {sl52 : Array (Option Value)} {oc52 kV52 dc52 pm52 cd52 ct52 : Value}
  (a52 : PySem.W.nsIn K mainGlobals "law" = some (some (.ref f52))) (l52 : K.lookup f52 = some ⟨oc52, od52, .func (PySem.W.fnOf "law" "law" (defArgs nqz) (defBody nqz) (defScope nqz) .none kV52 dc52 pm52 an52 cd52 ct52), sl52⟩)
  {jq3 : Tok} (e_SIGNS : PySem.W.nsIn K mainGlobals "SIGNS" = some (some (.str (Str.ofString " !\"#$&'()*+,-./0123456789:;<=>?@ABCDEFGHIJKLMNOPQRSTUVWXYZ[\\]^_`abcdefghijklmnopqrstuvwxyz{|}~") jq3)))
  {gqx : Tok} (e_LETTERS : PySem.W.nsIn K mainGlobals "LETTERS" = some (some (.str (Str.ofString "abcdefghijklmnopqrstuvwxyzABCDEFGHIJKLMNOPQRSTUVWXYZ") gqx)))
  {aqV : Tok} (e_LETTERS_AND_FIGURES : PySem.W.nsIn K mainGlobals "LETTERS_AND_FIGURES" = some (some (.str (Str.ofString "abcdefghijklmnopqrstuvwxyzABCDEFGHIJKLMNOPQRSTUVWXYZ0123456789") aqV)))
  {gqj : Tok} (e_FIGURES : PySem.W.nsIn K mainGlobals "FIGURES" = some (some (.str (Str.ofString "0123456789") gqj)))
  {jqy : Tok} (e_PLAIN : PySem.W.nsIn K mainGlobals "PLAIN" = some (some (.str (Str.ofString "abcdefghijklmnopqrstuvwxyzABCDEFGHIJKLMNOPQRSTUVWXYZ0123456789-_.") jqy)))
  {bq3 : Tok} (e_FREE_IN_STEPS : PySem.W.nsIn K mainGlobals "FREE_IN_STEPS" = some (some (.str (Str.ofString "!$'()*,;@&=+") bq3)))
  {bqb : Tok} (e_FREE_IN_QUESTIONS : PySem.W.nsIn K mainGlobals "FREE_IN_QUESTIONS" = some (some (.str (Str.ofString "!$'()*,;@+/?:") bqb)))
  {cqb : Tok} (e_FREE_IN_MARKS : PySem.W.nsIn K mainGlobals "FREE_IN_MARKS" = some (some (.str (Str.ofString "!$'()*,;@&=+/?:") cqb)))
  {cqm : Tok} (e_FIRST_NUMBER : PySem.W.nsIn K mainGlobals "FIRST_NUMBER" = some (some (.int 32 cqm)))
  {cq7 : Tok} (e_LAST_NUMBER : PySem.W.nsIn K mainGlobals "LAST_NUMBER" = some (some (.int 126 cq7)))
  {bqt : Tok} (e_NUMBER_LEFT_OUT : PySem.W.nsIn K mainGlobals "NUMBER_LEFT_OUT" = some (some (.int 37 bqt)))
  {bqY : Tok} (e_SMALL_FIGURES : PySem.W.nsIn K mainGlobals "SMALL_FIGURES" = some (some (.str (Str.ofString "0123456789abcdef") bqY)))
  {bqP : Tok} (e_GREAT_FIGURES : PySem.W.nsIn K mainGlobals "GREAT_FIGURES" = some (some (.str (Str.ofString "0123456789ABCDEF") bqP)))
  {hqB : Tok} (e_SCHEME : PySem.W.nsIn K mainGlobals "SCHEME" = some (some (.int 0 hqB)))
  {jq6 : Tok} (e_HOUSE : PySem.W.nsIn K mainGlobals "HOUSE" = some (some (.int 1 jq6)))
  {mqx : Tok} (e_DOOR : PySem.W.nsIn K mainGlobals "DOOR" = some (some (.int 2 mqx)))
  {pqu : Tok} (e_WAY : PySem.W.nsIn K mainGlobals "WAY" = some (some (.int 3 pqu)))
  {fqj : Tok} (e_QUESTION : PySem.W.nsIn K mainGlobals "QUESTION" = some (some (.int 4 fqj)))
  {mqF : Tok} (e_MARK : PySem.W.nsIn K mainGlobals "MARK" = some (some (.int 5 mqF)))
  {hqA : Tok} (e_ROOTED : PySem.W.nsIn K mainGlobals "ROOTED" = some (some (.int 0 hqA)))
  {kqy : Tok} (e_STEPS : PySem.W.nsIn K mainGlobals "STEPS" = some (some (.int 1 kqy)))
  {mq7 : Tok} (e_ENDS : PySem.W.nsIn K mainGlobals "ENDS" = some (some (.int 2 mq7)))
  {bqI : Tok} (e_LONGEST_SCHEME : PySem.W.nsIn K mainGlobals "LONGEST_SCHEME" = some (some (.int 8 bqI)))
  {bq7 : Tok} (e_LONGEST_HOUSE : PySem.W.nsIn K mainGlobals "LONGEST_HOUSE" = some (some (.int 60 bq7)))
  {eqm : Tok} (e_LAST_DOOR : PySem.W.nsIn K mainGlobals "LAST_DOOR" = some (some (.int 65535 eqm)))
  {bq0 : Tok} (e_FIRST_FIGURES : PySem.W.nsIn K mainGlobals "FIRST_FIGURES" = some (some (.str (Str.ofString "234567") bq0)))
  (z_all : PySem.W.nsIn K mainGlobals "all" = some none)
  (z_ord : PySem.W.nsIn K mainGlobals "ord" = some none)
  (z_len : PySem.W.nsIn K mainGlobals "len" = some none)
  (z_int : PySem.W.nsIn K mainGlobals "int" = some none)
  (z_isinstance : PySem.W.nsIn K mainGlobals "isinstance" = some none)
  (z_bool : PySem.W.nsIn K mainGlobals "bool" = some none)
  (z_ValueError : PySem.W.nsIn K mainGlobals "ValueError" = some none)
  (z_str : PySem.W.nsIn K mainGlobals "str" = some none)
  (z_range : PySem.W.nsIn K mainGlobals "range" = some none)
  (z_tuple : PySem.W.nsIn K mainGlobals "tuple" = some none)
  (ew1_NoAddress : PySem.W.typeIn K (.ref eC_NoAddress) = some (.type "type"))
  (ew2_NoAddress : PySem.W.subIn K (.ref eC_NoAddress) (.type "BaseException") = some true)
  (ew3_NoAddress : (PySem.W.clsIn K eC_NoAddress).isSome = true)
  (el0_NoAddress : PySem.W.findIn K (.ref eC_NoAddress) "__getattribute__" = some (some (.builtin "BaseException.__getattribute__")))
  (el1_NoAddress : PySem.W.findIn K (.ref eC_NoAddress) "__class__" = some (some (.builtin "object.__class__")))
  (el2_NoAddress : PySem.W.findIn K (.ref eC_NoAddress) "__getattr__" = some none)
  (el3_NoAddress : PySem.W.mroIn K eC_NoAddress (.type "object") = some true)
  (el4_NoAddress : PySem.W.mroIn K eC_NoAddress (.type "BaseException") = some true)
  (el5_NoAddress : (PySem.W.clsIn K eC_NoAddress).isSome = true)
  (ey_NoAddress : excInI K eC_NoAddress vErr vNew f6 = true)
  (ek_NoAddress : PySem.W.keepIn K (.ref eC_NoAddress) = true)
  (es_NoAddress : PySem.W.findIn K (.ref eC_NoAddress) "__setattr__" = some (some (.builtin "object.__setattr__")))
  (eo_NoAddress : overErr K eC_NoAddress = true)
  (eh_NoAddress : PySem.W.hasDictIn K eC_NoAddress = true)
  (ef_NoAddress_at : PySem.W.findIn K (.ref eC_NoAddress) "at" = some none)
  (eu_NoAddress_NoAddress : PySem.W.subIn K (.ref eC_NoAddress) (.ref eC_NoAddress) = some true)
  (ei_NoAddress_NoBase : PySem.W.kitOne K (.ref eC_NoAddress) (.ref eC_NoBase) = some false)
  (ei_NoAddress_NoPattern : PySem.W.kitOne K (.ref eC_NoAddress) (.ref eC_NoPattern) = some false)
  (ei_NoAddress_NoValue : PySem.W.kitOne K (.ref eC_NoAddress) (.ref eC_NoValue) = some false)
  (ei_NoAddress_NoName : PySem.W.kitOne K (.ref eC_NoAddress) (.ref eC_NoName) = some false)
  (ei_NoAddress_WayError : PySem.W.kitOne K (.ref eC_NoAddress) (.ref eC_WayError) = some true)
  (ei_NoAddress_ValueError : PySem.W.kitOne K (.ref eC_NoAddress) (.type "ValueError") = some true)
  (ei_NoAddress_NoRow : PySem.W.kitOne K (.ref eC_NoAddress) (.ref eC_NoRow) = some false)
  (pg_Cursor : PySem.W.plainGet K kC_Cursor Str.empty = true)
  (hd_Cursor : PySem.W.hasDictIn K kC_Cursor = true)
  (po_Cursor : PySem.W.plainOver K kC_Cursor = true)
  (sa_Cursor : PySem.W.findIn K (.ref kC_Cursor) "__setattr__" = some (some (.builtin "object.__setattr__")))
  (mk_Cursor : PySem.W.makesIn K kC_Cursor = true)
  (kc_Cursor : PySem.W.keepIn K (.ref kC_Cursor) = true)
  (nf_Cursor_text : PySem.W.findIn K (.ref kC_Cursor) "text" = some none)
  (nf_Cursor_place : PySem.W.findIn K (.ref kC_Cursor) "place" = some none)
  (kk : (PySem.W.keepIn K (.ref f1) && (PySem.W.keepIn K (.ref f2) && (PySem.W.keepIn K (.ref f3) && (PySem.W.keepIn K (.ref f4) && (PySem.W.keepIn K (.ref f5) && (PySem.W.keepIn K (.ref f6) && (PySem.W.keepIn K (.ref f7) && (PySem.W.keepIn K (.ref f8) && (PySem.W.keepIn K (.ref f9) && (PySem.W.keepIn K (.ref f10) && (PySem.W.keepIn K (.ref f11) && (PySem.W.keepIn K (.ref f12) && (PySem.W.keepIn K (.ref f13) && (PySem.W.keepIn K (.ref f14) && (PySem.W.keepIn K (.ref f15) && (PySem.W.keepIn K (.ref f16) && (PySem.W.keepIn K (.ref f17) && (PySem.W.keepIn K (.ref f18) && (PySem.W.keepIn K (.ref f19) && (PySem.W.keepIn K (.ref f20) && (PySem.W.keepIn K (.ref f21) && (PySem.W.keepIn K (.ref f22) && (PySem.W.keepIn K (.ref f23) && (PySem.W.keepIn K (.ref f24) && (PySem.W.keepIn K (.ref f25) && (PySem.W.keepIn K (.ref f26) && (PySem.W.keepIn K (.ref f27) && (PySem.W.keepIn K (.ref f28) && (PySem.W.keepIn K (.ref f29) && (PySem.W.keepIn K (.ref f30) && (PySem.W.keepIn K (.ref f31) && (PySem.W.keepIn K (.ref f32) && (PySem.W.keepIn K (.ref f33) && (PySem.W.keepIn K (.ref f34) && (PySem.W.keepIn K (.ref f35) && (PySem.W.keepIn K (.ref f36) && (PySem.W.keepIn K (.ref f37) && (PySem.W.keepIn K (.ref f38) && (PySem.W.keepIn K (.ref f39) && (PySem.W.keepIn K (.ref f40) && (PySem.W.keepIn K (.ref f41) && (PySem.W.keepIn K (.ref f42) && (PySem.W.keepIn K (.ref f43) && (PySem.W.keepIn K (.ref f44) && (PySem.W.keepIn K (.ref f45) && (PySem.W.keepIn K (.ref f46) && (PySem.W.keepIn K (.ref f47) && (PySem.W.keepIn K (.ref f48) && (PySem.W.keepIn K (.ref f49) && (PySem.W.keepIn K (.ref f50) && (PySem.W.keepIn K (.ref f51) && (PySem.W.keepIn K (.ref f52))))))))))))))))))))))))))))))))))))))))))))))))))))) = true)
  (cc : (PySem.W.codeIn K cd1 "made_of" && (PySem.W.codeIn K cd2 "pair_of" && (PySem.W.codeIn K cd3 "figure_number" && (PySem.W.codeIn K cd4 "sign_numbered" && (PySem.W.codeIn K cd5 "is_whole" && (PySem.W.codeIn K cd6 "NoAddress.__init__" && (PySem.W.codeIn K cd7 "Cursor.__init__" && (PySem.W.codeIn K cd8 "Cursor.at_end" && (PySem.W.codeIn K cd9 "Cursor.take" && (PySem.W.codeIn K cd10 "Cursor.passes" && (PySem.W.codeIn K cd11 "door_with" && (PySem.W.codeIn K cd12 "slashed" && (PySem.W.codeIn K cd13 "_law_cell_at" && (PySem.W.codeIn K cd14 "_law_whole" && (PySem.W.codeIn K cd15 "_law_table" && (PySem.W.codeIn K cd16 "_law_plain" && (PySem.W.codeIn K cd17 "_law_deck" && (PySem.W.codeIn K cd18 "_law_draw" && (PySem.W.codeIn K cd19 "_law_lone" && (PySem.W.codeIn K cd20 "is_text" && (PySem.W.codeIn K cd21 "sign_of" && (PySem.W.codeIn K cd22 "written" && (PySem.W.codeIn K cd23 "Cursor.sees" && (PySem.W.codeIn K cd24 "_law_hex" && (PySem.W.codeIn K cd25 "_law_some" && (PySem.W.codeIn K cd26 "_law_scheme" && (PySem.W.codeIn K cd27 "is_scheme" && (PySem.W.codeIn K cd28 "taken_door" && (PySem.W.codeIn K cd29 "taken_pair" && (PySem.W.codeIn K cd30 "shown_house" && (PySem.W.codeIn K cd31 "shown_way" && (PySem.W.codeIn K cd32 "shown_asked" && (PySem.W.codeIn K cd33 "shown_mark" && (PySem.W.codeIn K cd34 "_law_steps" && (PySem.W.codeIn K cd35 "_law_question" && (PySem.W.codeIn K cd36 "_law_loose" && (PySem.W.codeIn K cd37 "taken_scheme" && (PySem.W.codeIn K cd38 "taken_text" && (PySem.W.codeIn K cd39 "shown_question" && (PySem.W.codeIn K cd40 "_law_address" && (PySem.W.codeIn K cd41 "_law_loose_question" && (PySem.W.codeIn K cd42 "taken_way" && (PySem.W.codeIn K cd43 "taken_value" && (PySem.W.codeIn K cd44 "taken_mark" && (PySem.W.codeIn K cd45 "taken_filled_text" && (PySem.W.codeIn K cd46 "show" && (PySem.W.codeIn K cd47 "_law_loosely" && (PySem.W.codeIn K cd48 "taken_house" && (PySem.W.codeIn K cd49 "taken_question" && (PySem.W.codeIn K cd50 "read" && (PySem.W.codeIn K cd51 "_law_asked" && (PySem.W.codeIn K cd52 "law")))))))))))))))))))))))))))))))))))))))))))))))))))) = true) :
  ∃ fd : FuncData, (∀ (s : Shared) (v : Value), BindsTo s fd ⟨[v], []⟩ [("_law_script", v)]) ∧ ∀ base : Heap, K.In base → base.Ns mainGlobals mg → FnOk l.prog w K mg base CX0 9 fa fd ["_law_script"] (nqT K) := by
 simp only [Bool.and_eq_true] at kk cc
 obtain ⟨k1, k2, k3, k4, k5, k6, k7, k8, k9, k10, k11, k12, k13, k14, k15, k16, k17, k18, k19, k20, k21, k22, k23, k24, k25, k26, k27, k28, k29, k30, k31, k32, k33, k34, k35, k36, k37, k38, k39, k40, k41, k42, k43, k44, k45, k46, k47, k48, k49, k50, k51, k52⟩ := kk
 obtain ⟨c1, c2, c3, c4, c5, c6, c7, c8, c9, c10, c11, c12, c13, c14, c15, c16, c17, c18, c19, c20, c21, c22, c23, c24, c25, c26, c27, c28, c29, c30, c31, c32, c33, c34, c35, c36, c37, c38, c39, c40, c41, c42, c43, c44, c45, c46, c47, c48, c49, c50, c51, c52⟩ := cc
 have e := hfa.symm.trans (PySem.W.mg_of X Gl a52)
 have e2 : f52 = fa := by cases e; rfl
 subst e2
 let g : G K mg := {
  iqo := f1, gqU := _, gqa := aqi (st := eqB) l1 c1 k1, hqM := PySem.W.mg_of X Gl a1,
  hqG := (aqi (st := eqB) l1 c1 k1).binds (ps := ["text", "signs"]) fun _ _ _ _ _ _ us hl => match us, hl with | [_, _], _ => rfl,
  iqm := f2, gq1 := _, jqB := aqi (st := eqp) l2 c2 k2, mq6 := PySem.W.mg_of X Gl a2,
  nqe := (aqi (st := eqp) l2 c2 k2).binds (ps := ["sign"]) fun _ _ _ _ _ _ us hl => match us, hl with | [_], _ => rfl,
  cqZ := f3, cqt := _, cq5 := aqi (st := bqe) l3 c3 k3, eqt := PySem.W.mg_of X Gl a3,
  eqr := (aqi (st := bqe) l3 c3 k3).binds (ps := ["figure"]) fun _ _ _ _ _ _ us hl => match us, hl with | [_], _ => rfl,
  cq4 := f4, cqx := _, eqi := aqi (st := aq7) l4 c4 k4, gqO := PySem.W.mg_of X Gl a4,
  gqQ := (aqi (st := aq7) l4 c4 k4).binds (ps := ["number"]) fun _ _ _ _ _ _ us hl => match us, hl with | [_], _ => rfl,
  gqV := f5, fqB := _, iqu := aqi (st := cq9) l5 c5 k5, lqg := PySem.W.mg_of X Gl a5,
  lqj := (aqi (st := cq9) l5 c5 k5).binds (ps := ["address"]) fun _ _ _ _ _ _ us hl => match us, hl with | [_], _ => rfl,
  bqq := f6, bqi := _, dqQ := aqi (st := aqM) l6 c6 k6,
  aqN := (aqi (st := aqM) l6 c6 k6).binds (ps := ["self", "at"]) fun _ _ _ _ _ _ us hl => match us, hl with | [_, _], _ => rfl,
  cqc := f7, bqO := _, fqh := aqi (st := aqU) l7 c7 k7,
  fqp := (aqi (st := aqU) l7 c7 k7).binds (ps := ["self", "text"]) fun _ _ _ _ _ _ us hl => match us, hl with | [_, _], _ => rfl,
  cqS := f8, cqw := _, gqA := aqi (st := aq6) l8 c8 k8, dqK := ⟨a8, i8, k8⟩,
  eqF := (aqi (st := aq6) l8 c8 k8).binds (ps := ["self"]) fun _ _ _ _ _ _ us hl => match us, hl with | [_], _ => rfl,
  dq6 := f9, dqs := _, hqU := aqi (st := bqy) l9 c9 k9, bqM := ⟨a9, i9, k9⟩,
  cqi := (aqi (st := bqy) l9 c9 k9).binds (ps := ["self"]) fun _ _ _ _ _ _ us hl => match us, hl with | [_], _ => rfl,
  cq3 := f10, cqv := _, gqE := aqi (st := aq9) l10 c10 k10, aqE := ⟨a10, i10, k10⟩,
  aqK := (aqi (st := aq9) l10 c10 k10).binds (ps := ["self", "text"]) fun _ _ _ _ _ _ us hl => match us, hl with | [_, _], _ => rfl,
  fqA := f11, eqH := _, fqC := aqi (st := cqy) l11 c11 k11, hqu := PySem.W.mg_of X Gl a11,
  hqy := (aqi (st := cqy) l11 c11 k11).binds (ps := ["door", "cursor"]) fun _ _ _ _ _ _ us hl => match us, hl with | [_, _], _ => rfl,
  hqT := f12, gq3 := _, jqV := aqi (st := eqG) l12 c12 k12, mqI := PySem.W.mg_of X Gl a12,
  mqb := (aqi (st := eqG) l12 c12 k12).binds (ps := ["rooted", "texts", "ends"]) fun _ _ _ _ _ _ us hl => match us, hl with | [_, _, _], _ => rfl,
  dqm := f13, cqM := _, dqn := aqi (st := bqn) l13 c13 k13, fqa := PySem.W.mg_of X Gl a13,
  fqe := (aqi (st := bqn) l13 c13 k13).binds (ps := ["_law_script", "_law_k"]) fun _ _ _ _ _ _ us hl => match us, hl with | [_, _], _ => rfl,
  eqN := f14, dq0 := _, gqz := aqi (st := bq2) l14 c14 k14, iq5 := PySem.W.mg_of X Gl a14,
  iq7 := (aqi (st := bq2) l14 c14 k14).binds (ps := ["_law_found"]) fun _ _ _ _ _ _ us hl => match us, hl with | [_], _ => rfl,
  eq2 := f15, dq8 := _, dqC := aqi (st := bq9) l15 c15 k15, eqR := PySem.W.mg_of X Gl a15,
  eq5 := (aqi (st := bq9) l15 c15 k15).binds (ps := []) fun _ _ _ _ _ _ us hl => match us, hl with | [], _ => rfl,
  eq0 := f16, dqY := _, gqM := aqi (st := bq4) l16 c16 k16, iqN := PySem.W.mg_of X Gl a16,
  iq4 := (aqi (st := bq4) l16 c16 k16).binds (ps := ["_law_sign"]) fun _ _ _ _ _ _ us hl => match us, hl with | [_], _ => rfl,
  fqN := f17, eq7 := _, hqk := aqi (st := cqJ) l17 c17 k17, jqG := PySem.W.mg_of X Gl a17,
  jqE := (aqi (st := cqJ) l17 c17 k17).binds (ps := ["_law_cell"]) fun _ _ _ _ _ _ us hl => match us, hl with | [_], _ => rfl,
  fqt := f18, eqI := _, aqm := aqi (st := cqG) l18 c18 k18, aqp := PySem.W.mg_of X Gl a18,
  aqr := (aqi (st := cqG) l18 c18 k18).binds (ps := ["_law_deck_here", "_law_most"]) fun _ _ _ _ _ _ us hl => match us, hl with | [_, _], _ => rfl,
  fqT := f19, eqS := _, hqj := aqi (st := cqC) l19 c19 k19, kqj := PySem.W.mg_of X Gl a19,
  jq5 := (aqi (st := cqC) l19 c19 k19).binds (ps := ["_law_e"]) fun _ _ _ _ _ _ us hl => match us, hl with | [_], _ => rfl,
  iqq := f20, gq0 := _, kqd := aqi (st := eqA) l20 c20 k20, mq8 := PySem.W.mg_of X Gl a20,
  mqc := (aqi (st := eqA) l20 c20 k20).binds (ps := ["thing"]) fun _ _ _ _ _ _ us hl => match us, hl with | [_], _ => rfl,
  hqR := f21, gqZ := _, kqr := aqi (st := eqo) l21 c21 k21, mqM := PySem.W.mg_of X Gl a21,
  mqY := (aqi (st := eqo) l21 c21 k21).binds (ps := ["figures"]) fun _ _ _ _ _ _ us hl => match us, hl with | [_], _ => rfl,
  hq9 := f22, gqS := _, dqG := aqi (st := eql) l22 c22 k22, eqC := PySem.W.mg_of X Gl a22,
  eqE := (aqi (st := eql) l22 c22 k22).binds (ps := ["text"]) fun _ _ _ _ _ _ us hl => match us, hl with | [_], _ => rfl,
  dqX := f23, dqq := _, iqr := aqi (st := bqF) l23 c23 k23, cql := ⟨a23, i23, k23⟩,
  cqO := (aqi (st := bqF) l23 c23 k23).binds (ps := ["self", "signs"]) fun _ _ _ _ _ _ us hl => match us, hl with | [_, _], _ => rfl,
  gqT := f24, fqD := _, gqR := aqi (st := dqb) l24 c24 k24, iqv := PySem.W.mg_of X Gl a24,
  iqG := (aqi (st := dqb) l24 c24 k24).binds (ps := ["_law_sign"]) fun _ _ _ _ _ _ us hl => match us, hl with | [_], _ => rfl,
  fqw := f25, eq9 := _, cqF := aqi (st := cqD) l25 c25 k25, dqe := PySem.W.mg_of X Gl a25,
  dqc := (aqi (st := cqD) l25 c25 k25).binds (ps := ["_law_deck_here", "_law_size"]) fun _ _ _ _ _ _ us hl => match us, hl with | [_, _], _ => rfl,
  dq9 := f26, dqj := _, fqs := aqi (st := bqA) l26 c26 k26, hqL := PySem.W.mg_of X Gl a26,
  iqt := (aqi (st := bqA) l26 c26 k26).binds (ps := ["_law_deck_here"]) fun _ _ _ _ _ _ us hl => match us, hl with | [_], _ => rfl,
  fqH := f27, eqT := _, hqn := aqi (st := cqH) l27 c27 k27, kqg := PySem.W.mg_of X Gl a27,
  jqw := (aqi (st := cqH) l27 c27 k27).binds (ps := ["thing"]) fun _ _ _ _ _ _ us hl => match us, hl with | [_], _ => rfl,
  eqP := f28, dq2 := _, gqy := aqi (st := bqR) l28 c28 k28, iq3 := PySem.W.mg_of X Gl a28,
  iqO := (aqi (st := bqR) l28 c28 k28).binds (ps := ["cursor"]) fun _ _ _ _ _ _ us hl => match us, hl with | [_], _ => rfl,
  eq3 := f29, dq7 := _, gqi := aqi (st := bqT) l29 c29 k29, iqX := PySem.W.mg_of X Gl a29,
  iqZ := (aqi (st := bqT) l29 c29 k29).binds (ps := ["cursor"]) fun _ _ _ _ _ _ us hl => match us, hl with | [_], _ => rfl,
  eqd := f30, dqh := _, fqR := aqi (st := bqE) l30 c30 k30, hqX := PySem.W.mg_of X Gl a30,
  hqZ := (aqi (st := bqE) l30 c30 k30).binds (ps := ["house", "door"]) fun _ _ _ _ _ _ us hl => match us, hl with | [_, _], _ => rfl,
  fqQ := f31, eq1 := _, hql := aqi (st := cqE) l31 c31 k31, kqs := PySem.W.mg_of X Gl a31,
  jqZ := (aqi (st := cqE) l31 c31 k31).binds (ps := ["way"]) fun _ _ _ _ _ _ us hl => match us, hl with | [_], _ => rfl,
  dq5 := f32, dqk := _, fqx := aqi (st := bqD) l32 c32 k32, iqd := PySem.W.mg_of X Gl a32,
  hq8 := (aqi (st := bqD) l32 c32 k32).binds (ps := ["name", "value"]) fun _ _ _ _ _ _ us hl => match us, hl with | [_, _], _ => rfl,
  eq8 := f33, eqb := _, gqb := aqi (st := bq5) l33 c33 k33, iqS := PySem.W.mg_of X Gl a33,
  jqa := (aqi (st := bq5) l33 c33 k33).binds (ps := ["mark"]) fun _ _ _ _ _ _ us hl => match us, hl with | [_], _ => rfl,
  eqO := f34, dqV := _, gqt := aqi (st := cqa) l34 c34 k34, iq0 := PySem.W.mg_of X Gl a34,
  iqU := (aqi (st := cqa) l34 c34 k34).binds (ps := ["_law_deck_here"]) fun _ _ _ _ _ _ us hl => match us, hl with | [_], _ => rfl,
  cqT := f35, cqs := _, eqz := aqi (st := bqc) l35 c35 k35, gqo := PySem.W.mg_of X Gl a35,
  gqJ := (aqi (st := bqc) l35 c35 k35).binds (ps := ["_law_deck_here"]) fun _ _ _ _ _ _ us hl => match us, hl with | [_], _ => rfl,
  eqL := f36, dqW := _, bqV := aqi (st := bqW) l36 c36 k36, cqK := PySem.W.mg_of X Gl a36,
  cqL := (aqi (st := bqW) l36 c36 k36).binds (ps := ["_law_text", "_law_free", "_law_cell"]) fun _ _ _ _ _ _ us hl => match us, hl with | [_, _, _], _ => rfl,
  dqi := f37, cqU := _, fqc := aqi (st := bqo) l37 c37 k37, gq5 := PySem.W.mg_of X Gl a37,
  gq4 := (aqi (st := bqo) l37 c37 k37).binds (ps := ["cursor"]) fun _ _ _ _ _ _ us hl => match us, hl with | [_], _ => rfl,
  eqY := f38, cqX := _, iq9 := T38, kqE := dt38_0, bqv := iqw (st := bqu) l38 c38 k38, bq1 := PySem.W.mg_of X Gl a38,
  iq2 := (iqw (st := bqu) l38 c38 k38).binds (ps := ["cursor", "free", "most"]) (ds := []) d38 fun _ _ _ _ _ _ us hl => match us, hl with | [_, _, _], _ => ⟨_, rfl, rfl⟩,
  cqd := (iqw (st := bqu) l38 c38 k38).binds (ps := ["cursor", "free", "most"]) (ds := [.none]) d38 fun _ _ _ _ _ _ us hl => by obtain ⟨x, y, rfl⟩ := qqi hl; exact ⟨_, rfl, rfl⟩,
  cqr := f39, cqf := _, dqH := aqi (st := aq0) l39 c39 k39, fqW := PySem.W.mg_of X Gl a39,
  fq0 := (aqi (st := aq0) l39 c39 k39).binds (ps := ["question"]) fun _ _ _ _ _ _ us hl => match us, hl with | [_], _ => rfl,
  dqo := f40, cq1 := _, fqd := aqi (st := bql) l40 c40 k40, gq7 := PySem.W.mg_of X Gl a40,
  gq8 := (aqi (st := bql) l40 c40 k40).binds (ps := ["_law_script", "_law_start"]) fun _ _ _ _ _ _ us hl => match us, hl with | [_, _], _ => rfl,
  bqj := f41, bqg := _, bqX := aqi (st := aqG) l41 c41 k41, dqv := PySem.W.mg_of X Gl a41,
  dqA := (aqi (st := aqG) l41 c41 k41).binds (ps := ["_law_question_here", "_law_cell"]) fun _ _ _ _ _ _ us hl => match us, hl with | [_, _], _ => rfl,
  fqJ := f42, eqX := _, hqt := aqi (st := cqI) l42 c42 k42, jq2 := PySem.W.mg_of X Gl a42,
  jqN := (aqi (st := cqI) l42 c42 k42).binds (ps := ["cursor", "must_be_rooted"]) fun _ _ _ _ _ _ us hl => match us, hl with | [_, _], _ => rfl,
  dq3 := f43, dql := _, dqU := aqi (st := bqC) l43 c43 k43, fqS := PySem.W.mg_of X Gl a43,
  fqI := (aqi (st := bqC) l43 c43 k43).binds (ps := ["cursor"]) fun _ _ _ _ _ _ us hl => match us, hl with | [_], _ => rfl,
  eq4 := f44, dq4 := _, gqd := aqi (st := bqU) l44 c44 k44, iqW := PySem.W.mg_of X Gl a44,
  iqM := (aqi (st := bqU) l44 c44 k44).binds (ps := ["cursor"]) fun _ _ _ _ _ _ us hl => match us, hl with | [_], _ => rfl,
  bqz := f45, aq1 := _, eqy := T45, gqK := dt45_0, bqG := iqw (st := aqJ) l45 c45 k45, cqB := PySem.W.mg_of X Gl a45,
  eqq := (iqw (st := aqJ) l45 c45 k45).binds (ps := ["cursor", "free", "most"]) (ds := []) d45 fun _ _ _ _ _ _ us hl => match us, hl with | [_, _, _], _ => ⟨_, rfl, rfl⟩,
  dqP := (iqw (st := aqJ) l45 c45 k45).binds (ps := ["cursor", "free", "most"]) (ds := [.none]) d45 fun _ _ _ _ _ _ us hl => by obtain ⟨x, y, rfl⟩ := qqi hl; exact ⟨_, rfl, rfl⟩,
  oqQ := f46, lql := _, qq0 := aqi (st := kqa) l46 c46 k46, sq8 := PySem.W.mg_of X Gl a46,
  sq0 := (aqi (st := kqa) l46 c46 k46).binds (ps := ["address"]) fun _ _ _ _ _ _ us hl => match us, hl with | [_], _ => rfl,
  dqg := f47, cqN := _, fqg := aqi (st := bqm) l47 c47 k47, hqh := PySem.W.mg_of X Gl a47,
  gq6 := (aqi (st := bqm) l47 c47 k47).binds (ps := ["_law_address_here", "_law_cell"]) fun _ _ _ _ _ _ us hl => match us, hl with | [_, _], _ => rfl,
  dqZ := f48, dqr := _, fqL := aqi (st := bqB) l48 c48 k48, hqF := PySem.W.mg_of X Gl a48,
  iqb := (aqi (st := bqB) l48 c48 k48).binds (ps := ["cursor"]) fun _ _ _ _ _ _ us hl => match us, hl with | [_], _ => rfl,
  cqu := f49, cqh := _, dqN := aqi (st := aqY) l49 c49 k49, fq2 := PySem.W.mg_of X Gl a49,
  fqV := (aqi (st := aqY) l49 c49 k49).binds (ps := ["cursor"]) fun _ _ _ _ _ _ us hl => match us, hl with | [_], _ => rfl,
  oqe := f50, lq4 := _, oqj := aqi (st := jqW) l50 c50 k50, qq4 := PySem.W.mg_of X Gl a50,
  qqw := (aqi (st := jqW) l50 c50 k50).binds (ps := ["text"]) fun _ _ _ _ _ _ us hl => match us, hl with | [_], _ => rfl,
  eqJ := f51, eqc := _, eqZ := aqi (st := bq6) l51 c51 k51, gqB := PySem.W.mg_of X Gl a51,
  gqr := (aqi (st := bq6) l51 c51 k51).binds (ps := ["_law_text"]) fun _ _ _ _ _ _ us hl => match us, hl with | [_], _ => rfl,
  rqY := f52, mqD := _, vqD := aqi (st := nqz) l52 c52 k52, xqb := PySem.W.mg_of X Gl a52,
  xqg := (aqi (st := nqz) l52 c52 k52).binds (ps := ["_law_script"]) fun _ _ _ _ _ _ us hl => match us, hl with | [_], _ => rfl,
  jq3 := jq3, nqt := PySem.W.mg_of X Gl e_SIGNS,
  gqx := gqx, mqv := PySem.W.mg_of X Gl e_LETTERS,
  aqV := aqV, dqE := PySem.W.mg_of X Gl e_LETTERS_AND_FIGURES,
  gqj := gqj, jqD := PySem.W.mg_of X Gl e_FIGURES,
  jqy := jqy, nqM := PySem.W.mg_of X Gl e_PLAIN,
  bq3 := bq3, eqn := PySem.W.mg_of X Gl e_FREE_IN_STEPS,
  bqb := bqb, bqH := PySem.W.mg_of X Gl e_FREE_IN_QUESTIONS,
  cqb := cqb, gqD := PySem.W.mg_of X Gl e_FREE_IN_MARKS,
  cqm := cqm, fqf := PySem.W.mg_of X Gl e_FIRST_NUMBER,
  cq7 := cq7, iqg := PySem.W.mg_of X Gl e_LAST_NUMBER,
  bqt := bqt, dqd := PySem.W.mg_of X Gl e_NUMBER_LEFT_OUT,
  bqY := bqY, bqQ := PySem.W.mg_of X Gl e_SMALL_FIGURES,
  bqP := bqP, eqs := PySem.W.mg_of X Gl e_GREAT_FIGURES,
  hqB := hqB, lqt := PySem.W.mg_of X Gl e_SCHEME,
  jq6 := jq6, qq2 := PySem.W.mg_of X Gl e_HOUSE,
  mqx := mqx, tqk := PySem.W.mg_of X Gl e_DOOR,
  pqu := pqu, wqz := PySem.W.mg_of X Gl e_WAY,
  fqj := fqj, lqk := PySem.W.mg_of X Gl e_QUESTION,
  mqF := mqF, sqH := PySem.W.mg_of X Gl e_MARK,
  hqA := hqA, oqx := PySem.W.mg_of X Gl e_ROOTED,
  kqy := kqy, qqD := PySem.W.mg_of X Gl e_STEPS,
  mq7 := mq7, sqL := PySem.W.mg_of X Gl e_ENDS,
  bqI := bqI, fqX := PySem.W.mg_of X Gl e_LONGEST_SCHEME,
  bq7 := bq7, gqh := PySem.W.mg_of X Gl e_LONGEST_HOUSE,
  eqm := eqm, jqR := PySem.W.mg_of X Gl e_LAST_DOOR,
  bq0 := bq0, gqH := PySem.W.mg_of X Gl e_FIRST_FIGURES,
  vqx := PySem.W.mg_none_of X Gl z_all,
  vqV := PySem.W.mg_none_of X Gl z_ord,
  iqI := PySem.W.mg_none_of X Gl z_len,
  kql := PySem.W.mg_none_of X Gl z_int,
  aqS := PySem.W.mg_none_of X Gl z_isinstance,
  sq6 := PySem.W.mg_none_of X Gl z_bool,
  iqV := PySem.W.mg_none_of X Gl z_ValueError,
  pqS := PySem.W.mg_none_of X Gl z_str,
  gqe := PySem.W.mg_none_of X Gl z_range,
  kqm := PySem.W.mg_none_of X Gl z_tuple,
  aqn := eC_NoAddress, bqZ := PySem.W.mg_of X Gl en_NoAddress,
  lqH := eC_NoRow, qqF := PySem.W.mg_of X Gl en_NoRow,
  gqY := eC_WayError, kq2 := PySem.W.mg_of X Gl en_WayError,
  jqu := eC_NoName, nqY := PySem.W.mg_of X Gl en_NoName,
  hqP := eC_NoValue, mqj := PySem.W.mg_of X Gl en_NoValue,
  fqE := eC_NoPattern, kqf := PySem.W.mg_of X Gl en_NoPattern,
  jqq := eC_NoBase, oqh := PySem.W.mg_of X Gl en_NoBase,
  jqA := ⟨ew1_NoAddress, ew2_NoAddress, ew3_NoAddress⟩,
  bq8 := ⟨el0_NoAddress, el1_NoAddress, el2_NoAddress, el3_NoAddress, el4_NoAddress, el5_NoAddress⟩,
  cqz := ⟨ey_NoAddress, i6, ek_NoAddress⟩,
  gqN := ⟨es_NoAddress, eo_NoAddress, ef_NoAddress_at, eh_NoAddress⟩,
  gqn := ⟨⟨el0_NoAddress, el1_NoAddress, el2_NoAddress, el3_NoAddress, el4_NoAddress, el5_NoAddress⟩, ef_NoAddress_at, eh_NoAddress⟩,
  dqx := eu_NoAddress_NoAddress,
  eqW := ei_NoAddress_NoBase,
  dqF := ei_NoAddress_NoPattern,
  eqw := ei_NoAddress_NoValue,
  eqM := ei_NoAddress_NoName,
  dqT := ei_NoAddress_WayError,
  cq8 := ei_NoAddress_ValueError,
  fqk := ei_NoAddress_NoRow,
  aqu := kC_Cursor, aqh := ⟨pg_Cursor, hd_Cursor, po_Cursor, sa_Cursor⟩, oqz := PySem.W.mg_of X Gl aC_Cursor,
  aq3 := nf_Cursor_text,
  aqo := nf_Cursor_place,
  oqt := ⟨mk_Cursor, a7, i7, kc_Cursor⟩ }
 exact ⟨g.mqD, fun s v => .of_eq rfl, fun base _ _ => wqM g⟩
theorem walk {l : PySem.W.OpenLaw} {q : Program} {loose : List Str} {XP : (Str → Option Value) → Heap → Prop} {YP : World → Heap → Prop} {d : DefRec} {K : Params → PySem.W.Frag} (hn : l.most = some 63) (hdf : d.params.defaults = [])
  (hY : ∀ (w : World) (h : Heap), YP w h → (K w.params).In h)
  (F : ∀ (w : World) (mg : Str → Option Value) (fa : Addr) (h : Heap), (K w.params).In h → h.Ns mainGlobals mg → mg d.name = some (.ref fa) →
   ∃ fd : FuncData, (∀ (s : Shared) (u : Value), BindsTo s fd ⟨[u], []⟩ [("_law_script", u)]) ∧ ∀ base : Heap, (K w.params).In base → base.Ns mainGlobals mg → FnOk l.prog w (K w.params) mg base CX0 9 fa fd ["_law_script"] (nqT (K w.params))) :
  PySem.W.WalkO q loose XP YP l.row.toRowW d [] (fun f vs => PySem.call f vs) :=
 L2.uqr (n := 63) (k := 9) (x := "_law_script") (CX := fun _ => CX0) (sp := fun w => nqT (K w.params)) hn (by decide) hdf ⟨rfl, by decide, by decide⟩ hY F (fun _ _ a ns hl _ hS => ⟨a, ns, rfl, hS, hl, fun _ => rfl⟩) fun _ _ _ _ _ z => z
end Wm
theorem PySem.W.Fast.tw7532989296554432196 : True := trivial
theorem PySem.W.Fast.tw17588105225315268186 : True := trivial
theorem PySem.W.Fast.tw6050471381434049085 : True := trivial
theorem PySem.W.Fast.tw9050009513007688781 : True := trivial
theorem PySem.W.Fast.tw6010074049503734610 : True := trivial
theorem PySem.W.Fast.tw13623539754469463659 : True := trivial
theorem PySem.W.Fast.tw2000492720790330514 : True := trivial
theorem PySem.W.Fast.tw559879883191709455 : True := trivial
theorem PySem.W.Fast.tw14018254550358704256 : True := trivial
theorem PySem.W.Fast.tw3115622055176414652 : True := trivial
theorem PySem.W.Fast.tw10029010200306811650 : True := trivial
theorem PySem.W.Fast.tw15934836794418705570 : True := trivial
theorem PySem.W.Fast.tw4936340269172860461 : True := trivial
theorem PySem.W.Fast.tw15840613429343468730 : True := trivial
theorem PySem.W.Fast.tw3309086649181609868 : True := trivial
theorem PySem.W.Fast.tw18034416686585612657 : True := trivial
theorem PySem.W.Fast.tw10003214992604437582 : True := trivial
theorem PySem.W.Fast.tw8359355498190182355 : True := trivial
theorem PySem.W.Fast.tw10583421321843194129 : True := trivial
theorem PySem.W.Fast.tw1192106513336069628 : True := trivial
theorem PySem.W.Fast.tw192202504333411234 : True := trivial
theorem PySem.W.Fast.tw14462930906930672054 : True := trivial
theorem PySem.W.Fast.tw5200294550464893633 : True := trivial
theorem PySem.W.Fast.tw1034932059326602785 : True := trivial
theorem PySem.W.Fast.tw3828531554197212399 : True := trivial
theorem PySem.W.Fast.tw14799344099409303816 : True := trivial
theorem PySem.W.Fast.tw16252276652627052053 : True := trivial
theorem PySem.W.Fast.tw10801622449256267678 : True := trivial
theorem PySem.W.Fast.tw11985998795270933241 : True := trivial
theorem PySem.W.Fast.tw17637705182447740121 : True := trivial
theorem PySem.W.Fast.tw13647265070398056448 : True := trivial
theorem PySem.W.Fast.tw16836132266276024415 : True := trivial
theorem PySem.W.Fast.tw16309685009845506965 : True := trivial
theorem PySem.W.Fast.tw1179205826611917152 : True := trivial
theorem PySem.W.Fast.tw14828724955034204316 : True := trivial
theorem PySem.W.Fast.tw14868953022454919819 : True := trivial
theorem PySem.W.Fast.tw17556234444915845949 : True := trivial
theorem PySem.W.Fast.tw5593910099633585959 : True := trivial
theorem PySem.W.Fast.tw9754624280775149837 : True := trivial
theorem PySem.W.Fast.tw3162477823344521866 : True := trivial
theorem PySem.W.Fast.tw15088718944678329908 : True := trivial
theorem PySem.W.Fast.tw8573812018391334374 : True := trivial
theorem PySem.W.Fast.tw6840665083462972456 : True := trivial
theorem PySem.W.Fast.tw986913878905580427 : True := trivial
theorem PySem.W.Fast.tw14339357845823142692 : True := trivial
theorem PySem.W.Fast.tw15280420126238987405 : True := trivial
theorem PySem.W.Fast.tw3922978256704164449 : True := trivial
theorem PySem.W.Fast.tw1780340176178005922 : True := trivial
theorem PySem.W.Fast.tw16922876749961942507 : True := trivial
theorem PySem.W.Fast.tw18184800264538750217 : True := trivial
theorem PySem.W.Fast.tw10820180742221528957 : True := trivial
theorem PySem.W.Fast.tw16730894361898626830 : True := trivial
theorem PySem.W.Fast.tw3449359895844621445 : True := trivial
theorem PySem.W.Fast.tw13078000142665037160 : True := trivial
theorem PySem.W.Fast.tw15874698198021782935 : True := trivial
theorem PySem.W.Fast.tw11667895088252956289 : True := trivial
theorem PySem.W.Fast.tw12336719574529773796 : True := trivial
theorem PySem.W.Fast.tw12002767926057797740 : True := trivial
theorem PySem.W.Fast.tw11644319888893419437 : True := trivial
theorem PySem.W.Fast.tw15981560112855428204 : True := trivial
theorem PySem.W.Fast.tw10877685301104995205 : True := trivial
theorem PySem.W.Fast.tw1245727770511471455 : True := trivial
theorem PySem.W.Fast.tw1593348087979686487 : True := trivial
theorem PySem.W.Fast.tw12881332051071248166 : True := trivial
theorem PySem.W.Fast.tw8989407303091392766 : True := trivial
theorem PySem.W.Fast.tw15453629591681182089 : True := trivial
theorem PySem.W.Fast.tw12435312086548172011 : True := trivial
theorem PySem.W.Fast.tw18364722482653148017 : True := trivial
theorem PySem.W.Fast.tw5741167908057277348 : True := trivial
theorem PySem.W.Fast.tw14660422496594867824 : True := trivial
theorem PySem.W.Fast.tw7012999405536776145 : True := trivial
theorem PySem.W.Fast.tw18397385915395693329 : True := trivial
theorem PySem.W.Fast.tw3859766192785443057 : True := trivial
theorem PySem.W.Fast.tw6188641110211728505 : True := trivial
theorem PySem.W.Fast.tw14624127995036132147 : True := trivial
theorem PySem.W.Fast.tw2379405079738816467 : True := trivial
theorem PySem.W.Fast.tw8680916877833959329 : True := trivial
theorem PySem.W.Fast.tw10443842029906177064 : True := trivial
theorem PySem.W.Fast.tw3944745119606338308 : True := trivial
theorem PySem.W.Fast.tw13447085870487613296 : True := trivial
theorem PySem.W.Fast.tw4926285973638076149 : True := trivial
theorem PySem.W.Fast.tw13118738620024487800 : True := trivial
theorem PySem.W.Fast.tw4681616583569370770 : True := trivial
theorem PySem.W.Fast.tw5799923517468727625 : True := trivial
theorem PySem.W.Fast.tw10554189967627106675 : True := trivial
theorem PySem.W.Fast.tw772115084749211975 : True := trivial
theorem PySem.W.Fast.tw12476807587638019645 : True := trivial
theorem PySem.W.Fast.tw2245868972554127913 : True := trivial
theorem PySem.W.Fast.tw6459214136489720401 : True := trivial
theorem PySem.W.Fast.tw3254377472955128956 : True := trivial
theorem PySem.W.Fast.tw10751431900271218857 : True := trivial
theorem PySem.W.Fast.tw2389946995304114895 : True := trivial
theorem PySem.W.Fast.tw7015472120093322993 : True := trivial
theorem PySem.W.Fast.tw6819556533302082435 : True := trivial
theorem PySem.W.Fast.tw8737419028375828198 : True := trivial
theorem PySem.W.Fast.tw7386923180440391045 : True := trivial
theorem PySem.W.Fast.tw7959921509464572796 : True := trivial
theorem PySem.W.Fast.tw6548373773221938442 : True := trivial
theorem PySem.W.Fast.tw17270715748408775904 : True := trivial
theorem PySem.W.Fast.tw16552092750177712166 : True := trivial
theorem PySem.W.Fast.tw5619997827006364688 : True := trivial
theorem PySem.W.Fast.tw2883606414933003937 : True := trivial
theorem PySem.W.Fast.tw17111190672425438941 : True := trivial
theorem PySem.W.Fast.tw16995549967714293659 : True := trivial
theorem PySem.W.Fast.tw5110027341530865262 : True := trivial
theorem PySem.W.Fast.tw17460522590895409549 : True := trivial
theorem PySem.W.Fast.tw10878128456845723421 : True := trivial
theorem PySem.W.Fast.tw16059530326539525789 : True := trivial
theorem PySem.W.Fast.tw12268535871752630575 : True := trivial
theorem PySem.W.Fast.tw562622499787634443 : True := trivial
theorem PySem.W.Fast.tw13811082980764189108 : True := trivial
theorem PySem.W.Fast.tw395048177244613081 : True := trivial
theorem PySem.W.Fast.tw10680423058252456946 : True := trivial
theorem PySem.W.Fast.tw13242964814398614557 : True := trivial
theorem PySem.W.Fast.tw15446119923368385586 : True := trivial
theorem PySem.W.Fast.tw15738699569386385927 : True := trivial
theorem PySem.W.Fast.tw14783194664638513275 : True := trivial
theorem PySem.W.Fast.tw16853254361782339836 : True := trivial
theorem PySem.W.Fast.tw436173795392791824 : True := trivial
theorem PySem.W.Fast.tw12507731524532180352 : True := trivial
theorem PySem.W.Fast.tw18242906102753160664 : True := trivial
theorem PySem.W.Fast.tw13361452181707013884 : True := trivial
theorem PySem.W.Fast.tw14425202310769639760 : True := trivial
theorem PySem.W.Fast.tw150859299838601116 : True := trivial
theorem PySem.W.Fast.tw7381977639723221565 : True := trivial
theorem PySem.W.Fast.tw9732328719516952646 : True := trivial
theorem PySem.W.Fast.tw795330933368310472 : True := trivial
theorem PySem.W.Fast.tw14425650332145947020 : True := trivial
theorem PySem.W.Fast.tw13467004673574330059 : True := trivial
theorem PySem.W.Fast.tw12636653455102764264 : True := trivial
theorem PySem.W.Fast.tw1438224457508001107 : True := trivial
open PySem PySem.W PyProof.Rows
set_option maxRecDepth 100000 in
set_option maxHeartbeats 0 in
theorem PySem.Challenge.cw_waymark_k14_beginnings_of_texts_holds : PySem.Challenge.rw_waymark_k14_beginnings_of_texts.Holds := by
 w_on; o_law; k_head; (case hw => w_witness2)
 k_fill
 refine Wm.walk (l := PySem.Challenge.rw_waymark_k14_beginnings_of_texts) rfl rfl (fun w h Y => PySem.W.kIn_of Y) ?F
 case F =>
  intro w mg fa h KX G hmg
  refine' Wm.vqC (dt38_0 := 0) (dt45_0 := 0) KX G hmg ?aC_Cursor ?en_NoAddress ?en_NoRow ?en_WayError ?en_NoName ?en_NoValue ?en_NoPattern ?en_NoBase ?a1 ?l1 ?a2 ?l2 ?a3 ?l3 ?a4 ?l4 ?a5 ?l5 ?a6 ?i6 ?l6 ?a7 ?i7 ?l7 ?a8 ?i8 ?l8 ?a9 ?i9 ?l9 ?a10 ?i10 ?l10 ?a11 ?l11 ?a12 ?l12 ?a13 ?l13 ?a14 ?l14 ?a15 ?l15 ?a16 ?l16 ?a17 ?l17 ?a18 ?l18 ?a19 ?l19 ?a20 ?l20 ?a21 ?l21 ?a22 ?l22 ?a23 ?i23 ?l23 ?a24 ?l24 ?a25 ?l25 ?a26 ?l26 ?a27 ?l27 ?a28 ?l28 ?a29 ?l29 ?a30 ?l30 ?a31 ?l31 ?a32 ?l32 ?a33 ?l33 ?a34 ?l34 ?a35 ?l35 ?a36 ?l36 ?a37 ?l37 ?a38 ?l38 ?d38 ?a39 ?l39 ?a40 ?l40 ?a41 ?l41 ?a42 ?l42 ?a43 ?l43 ?a44 ?l44 ?a45 ?l45 ?d45 ?a46 ?l46 ?a47 ?l47 ?a48 ?l48 ?a49 ?l49 ?a50 ?l50 ?a51 ?l51 ?a52 ?l52 ?e_SIGNS ?e_LETTERS ?e_LETTERS_AND_FIGURES ?e_FIGURES ?e_PLAIN ?e_FREE_IN_STEPS ?e_FREE_IN_QUESTIONS ?e_FREE_IN_MARKS ?e_FIRST_NUMBER ?e_LAST_NUMBER ?e_NUMBER_LEFT_OUT ?e_SMALL_FIGURES ?e_GREAT_FIGURES ?e_SCHEME ?e_HOUSE ?e_DOOR ?e_WAY ?e_QUESTION ?e_MARK ?e_ROOTED ?e_STEPS ?e_ENDS ?e_LONGEST_SCHEME ?e_LONGEST_HOUSE ?e_LAST_DOOR ?e_FIRST_FIGURES ?z_all ?z_ord ?z_len ?z_int ?z_isinstance ?z_bool ?z_ValueError ?z_str ?z_range ?z_tuple ?ew1_NoAddress ?ew2_NoAddress ?ew3_NoAddress ?el0_NoAddress ?el1_NoAddress ?el2_NoAddress ?el3_NoAddress ?el4_NoAddress ?el5_NoAddress ?ey_NoAddress ?ek_NoAddress ?es_NoAddress ?eo_NoAddress ?eh_NoAddress ?ef_NoAddress_at ?eu_NoAddress_NoAddress ?ei_NoAddress_NoBase ?ei_NoAddress_NoPattern ?ei_NoAddress_NoValue ?ei_NoAddress_NoName ?ei_NoAddress_WayError ?ei_NoAddress_ValueError ?ei_NoAddress_NoRow ?pg_Cursor ?hd_Cursor ?po_Cursor ?sa_Cursor ?mk_Cursor ?kc_Cursor ?nf_Cursor_text ?nf_Cursor_place ?kk ?cc
  (case aC_Cursor => k_is)
  (case en_NoAddress => first | k_is | kit_is | with_unfolding_all kernel_rfl | with_unfolding_all rfl)
  (case en_NoRow => first | k_is | kit_is | with_unfolding_all kernel_rfl | with_unfolding_all rfl)
  (case en_WayError => first | k_is | kit_is | with_unfolding_all kernel_rfl | with_unfolding_all rfl)
  (case en_NoName => first | k_is | kit_is | with_unfolding_all kernel_rfl | with_unfolding_all rfl)
  (case en_NoValue => first | k_is | kit_is | with_unfolding_all kernel_rfl | with_unfolding_all rfl)
  (case en_NoPattern => first | k_is | kit_is | with_unfolding_all kernel_rfl | with_unfolding_all rfl)
  (case en_NoBase => first | k_is | kit_is | with_unfolding_all kernel_rfl | with_unfolding_all rfl)
  (case a1 => k_is)
  (case l1 => k_is)
  (case a2 => k_is)
  (case l2 => k_is)
  (case a3 => k_is)
  (case l3 => k_is)
  (case a4 => k_is)
  (case l4 => k_is)
  (case a5 => k_is)
  (case l5 => k_is)
  (case a6 => k_is)
  (case i6 => k_is)
  (case l6 => k_is)
  (case a7 => k_is)
  (case i7 => k_is)
  (case l7 => k_is)
  (case a8 => k_is)
  (case i8 => k_is)
  (case l8 => k_is)
  (case a9 => k_is)
  (case i9 => k_is)
  (case l9 => k_is)
  (case a10 => k_is)
  (case i10 => k_is)
  (case l10 => k_is)
  (case a11 => k_is)
  (case l11 => k_is)
  (case a12 => k_is)
  (case l12 => k_is)
  (case a13 => k_is)
  (case l13 => k_is)
  (case a14 => k_is)
  (case l14 => k_is)
  (case a15 => k_is)
  (case l15 => k_is)
  (case a16 => k_is)
  (case l16 => k_is)
  (case a17 => k_is)
  (case l17 => k_is)
  (case a18 => k_is)
  (case l18 => k_is)
  (case a19 => k_is)
  (case l19 => k_is)
  (case a20 => k_is)
  (case l20 => k_is)
  (case a21 => k_is)
  (case l21 => k_is)
  (case a22 => k_is)
  (case l22 => k_is)
  (case a23 => k_is)
  (case i23 => k_is)
  (case l23 => k_is)
  (case a24 => k_is)
  (case l24 => k_is)
  (case a25 => k_is)
  (case l25 => k_is)
  (case a26 => k_is)
  (case l26 => k_is)
  (case a27 => k_is)
  (case l27 => k_is)
  (case a28 => k_is)
  (case l28 => k_is)
  (case a29 => k_is)
  (case l29 => k_is)
  (case a30 => k_is)
  (case l30 => k_is)
  (case a31 => k_is)
  (case l31 => k_is)
  (case a32 => k_is)
  (case l32 => k_is)
  (case a33 => k_is)
  (case l33 => k_is)
  (case a34 => k_is)
  (case l34 => k_is)
  (case a35 => k_is)
  (case l35 => k_is)
  (case a36 => k_is)
  (case l36 => k_is)
  (case a37 => k_is)
  (case l37 => k_is)
  (case a38 => k_is)
  (case l38 => k_is)
  (case d38 => k_is)
  (case a39 => k_is)
  (case l39 => k_is)
  (case a40 => k_is)
  (case l40 => k_is)
  (case a41 => k_is)
  (case l41 => k_is)
  (case a42 => k_is)
  (case l42 => k_is)
  (case a43 => k_is)
  (case l43 => k_is)
  (case a44 => k_is)
  (case l44 => k_is)
  (case a45 => k_is)
  (case l45 => k_is)
  (case d45 => k_is)
  (case a46 => k_is)
  (case l46 => k_is)
  (case a47 => k_is)
  (case l47 => k_is)
  (case a48 => k_is)
  (case l48 => k_is)
  (case a49 => k_is)
  (case l49 => k_is)
  (case a50 => k_is)
  (case l50 => k_is)
  (case a51 => k_is)
  (case l51 => k_is)
  (case a52 => k_is)
  (case l52 => k_is)
  (case e_SIGNS => k_is)
  (case e_LETTERS => k_is)
  (case e_LETTERS_AND_FIGURES => k_is)
  (case e_FIGURES => k_is)
  (case e_PLAIN => k_is)
  (case e_FREE_IN_STEPS => k_is)
  (case e_FREE_IN_QUESTIONS => k_is)
  (case e_FREE_IN_MARKS => k_is)
  (case e_FIRST_NUMBER => k_is)
  (case e_LAST_NUMBER => k_is)
  (case e_NUMBER_LEFT_OUT => k_is)
  (case e_SMALL_FIGURES => k_is)
  (case e_GREAT_FIGURES => k_is)
  (case e_SCHEME => k_is)
  (case e_HOUSE => k_is)
  (case e_DOOR => k_is)
  (case e_WAY => k_is)
  (case e_QUESTION => k_is)
  (case e_MARK => k_is)
  (case e_ROOTED => k_is)
  (case e_STEPS => k_is)
  (case e_ENDS => k_is)
  (case e_LONGEST_SCHEME => k_is)
  (case e_LONGEST_HOUSE => k_is)
  (case e_LAST_DOOR => k_is)
  (case e_FIRST_FIGURES => k_is)
  (case z_all => k_is)
  (case z_ord => k_is)
  (case z_len => k_is)
  (case z_int => k_is)
  (case z_isinstance => k_is)
  (case z_bool => k_is)
  (case z_ValueError => k_is)
  (case z_str => k_is)
  (case z_range => k_is)
  (case z_tuple => k_is)
  (case ew1_NoAddress => first | k_is | kit_is | with_unfolding_all kernel_rfl | with_unfolding_all rfl)
  (case ew2_NoAddress => first | k_is | kit_is | with_unfolding_all kernel_rfl | with_unfolding_all rfl)
  (case ew3_NoAddress => first | k_is | kit_is | with_unfolding_all kernel_rfl | with_unfolding_all rfl)
  (case el0_NoAddress => first | k_is | kit_is | with_unfolding_all kernel_rfl | with_unfolding_all rfl)
  (case el1_NoAddress => first | k_is | kit_is | with_unfolding_all kernel_rfl | with_unfolding_all rfl)
  (case el2_NoAddress => first | k_is | kit_is | with_unfolding_all kernel_rfl | with_unfolding_all rfl)
  (case el3_NoAddress => first | k_is | kit_is | with_unfolding_all kernel_rfl | with_unfolding_all rfl)
  (case el4_NoAddress => first | k_is | kit_is | with_unfolding_all kernel_rfl | with_unfolding_all rfl)
  (case el5_NoAddress => first | k_is | kit_is | with_unfolding_all kernel_rfl | with_unfolding_all rfl)
  (case ey_NoAddress => first | k_is | kit_is | with_unfolding_all kernel_rfl | with_unfolding_all rfl)
  (case ek_NoAddress => first | k_is | kit_is | with_unfolding_all kernel_rfl | with_unfolding_all rfl)
  (case es_NoAddress => first | k_is | kit_is | with_unfolding_all kernel_rfl | with_unfolding_all rfl)
  (case eo_NoAddress => first | k_is | kit_is | with_unfolding_all kernel_rfl | with_unfolding_all rfl)
  (case eh_NoAddress => first | k_is | kit_is | with_unfolding_all kernel_rfl | with_unfolding_all rfl)
  (case ef_NoAddress_at => first | k_is | kit_is | with_unfolding_all kernel_rfl | with_unfolding_all rfl)
  (case eu_NoAddress_NoAddress => first | k_is | kit_is | with_unfolding_all kernel_rfl | with_unfolding_all rfl)
  (case ei_NoAddress_NoBase => first | k_is | kit_is | with_unfolding_all kernel_rfl | with_unfolding_all rfl)
  (case ei_NoAddress_NoPattern => first | k_is | kit_is | with_unfolding_all kernel_rfl | with_unfolding_all rfl)
  (case ei_NoAddress_NoValue => first | k_is | kit_is | with_unfolding_all kernel_rfl | with_unfolding_all rfl)
  (case ei_NoAddress_NoName => first | k_is | kit_is | with_unfolding_all kernel_rfl | with_unfolding_all rfl)
  (case ei_NoAddress_WayError => first | k_is | kit_is | with_unfolding_all kernel_rfl | with_unfolding_all rfl)
  (case ei_NoAddress_ValueError => first | k_is | kit_is | with_unfolding_all kernel_rfl | with_unfolding_all rfl)
  (case ei_NoAddress_NoRow => first | k_is | kit_is | with_unfolding_all kernel_rfl | with_unfolding_all rfl)
  (case pg_Cursor => k_is)
  (case hd_Cursor => k_is)
  (case po_Cursor => k_is)
  (case sa_Cursor => k_is)
  (case mk_Cursor => k_is)
  (case kc_Cursor => k_is)
  (case nf_Cursor_text => k_is)
  (case nf_Cursor_place => k_is)
  (case kk => first | k_is | with_unfolding_all kernel_rfl | with_unfolding_all rfl)
  (case cc => first | k_is | with_unfolding_all kernel_rfl | with_unfolding_all rfl)
